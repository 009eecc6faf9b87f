/-
  gangerlaw18.known: what the chapter's example fixes holds.
-/
import Derived.Test.YtifcmapicpnkgaaSpoolE
import Derived.Test.YtifcmapicpnkgaaBy
import Derived.Lib.SlBytesConst
namespace Go.Proofs.Ytifcmapicpnkgaa
open Go Go.RowKit Go.Lib
set_option linter.unusedVariables false

theorem rd_take {w : World} {K : Nat → Prop} {A : Option Addr} {c : Nat} {ss : List UInt8} (h : Rd w K (.slice A ss.length c) (bts ss)) (n : Nat) (hn : n ≤ ss.length) : Rd w K (.slice A n c) (bts (ss.take n)) := by
  obtain ⟨A', c', h1, h2, h3, h4⟩ := h
  rw [bts_len] at h1 h2 h4
  injection h1 with h1 h1' h1''
  subst h1 h1''
  refine ⟨A, c, by rw [bts_len, List.length_take, Nat.min_eq_left hn], by rw [bts_len, List.length_take]; omega, h3, fun h0 => ?_⟩
  rw [bts_len, List.length_take] at h0
  obtain ⟨b, off, h5, h6, h7, h8⟩ := h4 (by omega)
  refine ⟨b, off, h5, h6, h7, fun j u hj => h8 j u ?_⟩
  rw [bts_take] at hj
  have hjl : j < n := by have := (List.getElem?_eq_some_iff.1 hj).1; simp at this; omega
  rw [List.getElem?_take_of_lt hjl] at hj
  exact hj
theorem neg1 : (-1 : Int) < 0 := by decide
theorem tick_neg {l : Int} (h : l < 0) : tick l = l := by unfold tick; rw [if_neg (by omega)]
theorem addS_ok (s : St) (ys : List UInt8) (h1 : s.off = false) (h2 : ¬ s.room - s.xs.length < ys.length) (h3 : s.left < 0) : addS s ys = ({ s with xs := s.xs ++ ys }, 0) := by
  unfold addS; rw [h1, if_neg (by decide), if_neg h2, if_neg (by omega), tick_neg h3]
theorem addS_full (s : St) (ys : List UInt8) (h1 : s.off = false) (h2 : s.room - s.xs.length < ys.length) : addS s ys = (s, 5) := by
  unfold addS; rw [h1, if_neg (by decide), if_pos h2]
theorem syncS_ok (s : St) (h1 : s.off = false) (h3 : s.left < 0) : syncS s = ({ s with sure := s.xs.length }, 0) := by
  unfold syncS; rw [h1, if_neg (by decide), if_neg (by omega), tick_neg h3]
theorem cutS_ok (s : St) (n : Nat) (h1 : s.off = false) (h2 : n ≤ s.xs.length) (h3 : s.left < 0) : cutS s n = ({ s with xs := s.xs.take n, sure := n }, 0) := by
  unfold cutS; rw [h1, if_neg (by decide), if_neg (by omega), if_neg (by omega), tick_neg h3, Int.toNat_natCast]
theorem cutS_arg (s : St) (n : Int) (h1 : s.off = false) (h2 : n < 0 ∨ s.xs.length < n) : cutS s n = (s, 2) := by
  unfold cutS; rw [h1, if_neg (by decide), if_pos h2]

section
variable {w w' : World} {base sb : Nat} {N K : Nat → Prop} {s s' : St}
theorem Sp.alloc (h : Sp w base N sb s) (o : Obj) : Sp (w.alloc o) base N sb s := h.fr ((Fr.refl (fun _ => False) w).alloc o) fun _ _ h => h
theorem Sp.kept (h : Sp w base N sb s) (hb : Below w.heap.size w w') : Sp w' base N sb s := h.fr (fr_of_below (N := fun _ => False) hb fun b h1 h2 => by omega) fun _ _ h => h
theorem Sp.lt (h : Sp w base N sb s) : ∀ b, N b → b < w.heap.size := fun b hb => (h.2.1 b hb).2
theorem Sp.baseLe (h : Sp w base N sb s) : base ≤ w.heap.size := by have := h.2.1 sb h.2.2.1; omega
theorem Sp.below (h : Sp w base N sb s) (hF : Fr N w w') : Below base w w' := hF.below h.baseLe fun b hb => (h.2.1 b hb).1
/-- A literal of bytes, just made. -/
theorem rd_lit (w : World) (xs : List UInt8) (n : Nat) (hn : xs.length = n) (hm : n ≤ maxLen) (b : Nat) (hb : w.heap.size = b) (fr : Nat × Nat) : Rd (w.alloc (.cells (bts xs).toArray 5 fr)) (fun k => k = b) (.slice (some ⟨b, 0, none⟩) n n) (bts xs) := by
  subst hn hb
  refine ⟨_, _, by rw [bts_len], by rw [bts_len]; exact Nat.le_refl _, hm, fun _ => ⟨w.heap.size, 0, rfl, rfl, by simp, fun j u hj => ?_⟩⟩
  rw [Nat.zero_add, cell_of_row _ w.heap.size j _ _ _ (heap_alloc_new w (.cells (bts xs).toArray 5 fr))]
  simpa using hj
/-- What Bytes hands out may be read. -/
theorem bytes_rd {g : Nat} {xs : List UInt8} (h : Blk w g (bts xs).toArray 5) (hm : xs.length ≤ maxLen) : Rd w (fun b => b = g) (.slice (some ⟨g, 0, none⟩) xs.length xs.length) (bts xs) := by
  refine ⟨_, _, by rw [bts_len], by rw [bts_len]; exact Nat.le_refl _, hm, fun _ => ⟨g, 0, rfl, rfl, h.lt, fun j u hj => ?_⟩⟩
  rw [Nat.zero_add, h.cell]; simpa using hj
/-- make([]byte, n), as bytes. -/
theorem wpList_make_rd {ops : Array Oper} {rest : List Oper} {o : Oper} {a : Act} {Q : Exit → Act → World → Prop} (hgd : o.guard = none) (l c : Operand) (ho : o.op = Op.makeSlice 32 l c)
    (L : Int) (n : Nat) (hl : a.eval l = .int .i64 L) (hc : a.eval c = .int .i64 L) (hL : L = (n : Int)) (b3 : n ≤ 16777216)
    (h : ∀ w', Rd w' (fun b => b = w.heap.size) (.slice (some ⟨w.heap.size, 0, none⟩) n n) (bts (List.replicate n 0)) → Below w.heap.size w w' → w'.heap.size = w.heap.size + 1 → wpList Try.prog ops Q rest (a.put o.dst (.slice (some ⟨w.heap.size, 0, none⟩) n n)) w') :
    wpList Try.prog ops Q (o :: rest) a w := by
  obtain ⟨i0, hi, hz0, hz1, hz2⟩ := info_parts Try.infoU8
  refine wpList_make_blk hgd l c 32 ho 5 i0 (.int .u8 0) Try.underlying32 hi hz0 hz1 rfl .i64 .i64 L L n hl hc hL hL (by rw [hz2]; omega) (by unfold maxLen; omega) fun w' h1 h2 h3 => h w' ?_ h2 h3
  have e : bts (List.replicate n 0) = List.replicate n (.int .u8 0) := by simp [bts]
  have := bytes_rd (xs := List.replicate n 0) (by rw [e]; exact h1) (by rw [List.length_replicate]; unfold maxLen; omega)
  rw [List.length_replicate] at this; exact this
theorem add_at {bv : Value} {ys : List UInt8} {n : Int} (hr : addS s ys = (s', n)) (h : Sp w base N sb s) (hS : Rd w K bv (bts ys)) (hK : ∀ b, K b → ¬ N b) :
    Calls Try.prog 13 #[.pointer (some ⟨sb, 0, none⟩), bv] w fun e w' => e = .returned (.int .i64 n) ∧ SpTo w base N sb s' w' := by
  have := add_any h hS hK; rw [hr] at this; exact this
theorem sync_at {n : Int} (hr : syncS s = (s', n)) (h : Sp w base N sb s) :
    Calls Try.prog 17 #[.pointer (some ⟨sb, 0, none⟩)] w fun e w' => e = .returned (.int .i64 n) ∧ SpTo w base N sb s' w' := by
  have := sync_any h; rw [hr] at this; exact this
theorem cut_at {k n : Int} (hr : cutS s k = (s', n)) (h : Sp w base N sb s) :
    Calls Try.prog 19 #[.pointer (some ⟨sb, 0, none⟩), .int .i64 k] w fun e w' => e = .returned (.int .i64 n) ∧ SpTo w base N sb s' w' := by
  have := cut_any k h; rw [hr] at this; exact this
theorem crash_at {k : Int} (hr : crashS s k = s') (h : Sp w base N sb s) :
    Calls Try.prog 23 #[.pointer (some ⟨sb, 0, none⟩), .int .i64 k] w fun e w' => e = .returned (.tuple #[]) ∧ SpTo w base N sb s' w' := by
  have := crash_any k h; rw [hr] at this; exact this
theorem off_at {k : Int} (hr : offS s k = s') (hk : k ≤ 9223372036854775807) (h : Sp w base N sb s) :
    Calls Try.prog 21 #[.pointer (some ⟨sb, 0, none⟩), .int .i64 k] w fun e w' => e = .returned (.tuple #[]) ∧ SpTo w base N sb s' w' := by
  have := off_any k hk h; rw [hr] at this; exact this
theorem len_at {n : Int} (hr : (if s.off then (0 : Int) else s.xs.length) = n) (h : Sp w base N sb s) : Calls Try.prog 28 #[.pointer (some ⟨sb, 0, none⟩)] w fun e w' => e = .returned (.int .i64 n) ∧ w' = w := by
  have := len_any h; rw [hr] at this; exact this
theorem sure_at {n : Int} (hr : (if s.off then (0 : Int) else s.sure) = n) (h : Sp w base N sb s) : Calls Try.prog 29 #[.pointer (some ⟨sb, 0, none⟩)] w fun e w' => e = .returned (.int .i64 n) ∧ w' = w := by
  have := sure_any h; rw [hr] at this; exact this
theorem on_at {b : Bool} (hr : (!s.off) = b) (h : Sp w base N sb s) : Calls Try.prog 30 #[.pointer (some ⟨sb, 0, none⟩)] w fun e w' => e = .returned (.bool b) ∧ w' = w := by
  have := on_spool h; rw [hr] at this; exact this
end

set_option maxRecDepth 100000 in
theorem known18_any (w : World) : Calls Try.prog 9 #[] w fun e w' => e = .returned (.bool true) ∧ Below w.heap.size w w' := by
  have q0 : ∀ (w : World) (C : Array Value) (n c : Nat), (convert 32 32 (.slice (some ⟨w.heap.size, 0, none⟩) n c)).run Try.prog (w.alloc (.cells C 5)) = .ok (.slice (some ⟨w.heap.size, 0, none⟩) n c) (w.alloc (.cells C 5 (C.size, C.size + 1))) := fun w C n c => run_convert_bytes_const w 32 5 C n c Try.underlying32 Try.underlying5
  have HN := Lib.hid (new_any 9 w w.heap.size (by decide) (by decide) (Nat.le_refl _))
  go_enter Try.func9, Try.ntmps9
  go_wp2_with fail
  refine HN.out.mono ?_; rintro e w1 ⟨rfl, hs1, hb1, hz1⟩
  have S1 := Lib.hid hs1
  have B1 := Lib.hid hb1
  clear hs1 hb1 hz1
  go_wp2_with fail
  refine (add_at (s' := ⟨9, [97, 98], 0, -1, false⟩) (n := 0) rfl (S1.out.alloc _) (rd_lit w1 [97, 98] 2 rfl (by decide) _ rfl _) (fun b hb h => by have := S1.out.lt b h; omega)).mono ?_; rintro e w2 ⟨rfl, N2, _, hs2, hF2⟩
  have S2 := Lib.hid hs2
  have B2 := Lib.hid (((B1.out.alloc B1.out.size _)).trans ((S1.out.alloc _).below hF2))
  clear hs2 hF2
  go_wp2_with fail
  refine (sync_at (s' := ⟨9, [97, 98], 2, -1, false⟩) (n := 0) rfl S2.out).mono ?_; rintro e w3 ⟨rfl, N3, _, hs3, hF3⟩
  have S3 := Lib.hid hs3
  have B3 := Lib.hid (B2.out.trans (S2.out.below hF3))
  clear hs3 hF3
  go_wp2_with fail
  refine (add_at (s' := ⟨9, [97, 98, 99, 100], 2, -1, false⟩) (n := 0) rfl (S3.out.alloc _) (rd_lit w3 [99, 100] 2 rfl (by decide) _ rfl _) (fun b hb h => by have := S3.out.lt b h; omega)).mono ?_; rintro e w4 ⟨rfl, N4, _, hs4, hF4⟩
  have S4 := Lib.hid hs4
  have B4 := Lib.hid (((B3.out.alloc B3.out.size _)).trans ((S3.out.alloc _).below hF4))
  clear hs4 hF4
  go_wp2_with fail
  refine (crash_at (k := 1) (s' := ⟨9, [97, 98, 99], 3, -1, false⟩) rfl S4.out).mono ?_; rintro e w5 ⟨rfl, N5, _, hs5, hF5⟩
  have S5 := Lib.hid hs5
  have B5 := Lib.hid (B4.out.trans (S4.out.below hF5))
  clear hs5 hF5
  go_wp2_with fail
  refine (bytes_any S5.out rfl).mono ?_; rintro e w6 ⟨g, hg, rfl, hblk, hb6⟩
  have cv : ∀ dst, Try.prog.underlying dst = some .string → (convert 32 dst (.slice (some ⟨g, 0, none⟩) 3 3)).run Try.prog w6 = .ok (.string (str [97, 98, 99])) w6 := conv_bts (bytes_rd hblk (by decide))
  have S6 := Lib.hid (S5.out.kept hb6)
  have B6 := Lib.hid (B5.out.trans (hb6.mono B5.out.size))
  have q : (str [97, 98, 99]).toList == [97, 98, 99] := by rw [str_list]; rfl
  clear hb6 hblk hg
  go_wp2_with fail
  refine (off_at (k := 1) (s' := ⟨9, [97, 98, 99], 3, 1, false⟩) rfl (by decide) S6.out).mono ?_; rintro e w7 ⟨rfl, N7, _, hs7, hF7⟩
  have S7 := Lib.hid hs7
  have B7 := Lib.hid (B6.out.trans (S6.out.below hF7))
  clear hs7 hF7 cv
  go_wp2_with fail
  refine (add_at (s' := ⟨9, [97, 98, 99, 120], 3, 0, false⟩) (n := 0) rfl (S7.out.alloc _) (rd_lit w7 [120] 1 rfl (by decide) _ rfl _) (fun b hb h => by have := S7.out.lt b h; omega)).mono ?_; rintro e w8 ⟨rfl, N8, _, hs8, hF8⟩
  have S8 := Lib.hid hs8
  have B8 := Lib.hid (((B7.out.alloc B7.out.size _)).trans ((S7.out.alloc _).below hF8))
  clear hs8 hF8
  go_wp2_with fail
  refine (sync_at (s' := ⟨9, [97, 98, 99, 120], 3, 0, true⟩) (n := 190) rfl S8.out).mono ?_; rintro e w9 ⟨rfl, N9, _, hs9, hF9⟩
  have S9 := Lib.hid hs9
  have B9 := Lib.hid (B8.out.trans (S8.out.below hF9))
  clear hs9 hF9
  go_wp2_with fail
  refine (on_at (b := false) rfl S9.out).mono ?_; rintro e w10 ⟨rfl, rfl⟩
  go_wp2_with fail
  refine (len_at (n := 0) rfl S9.out).mono ?_; rintro e w11 ⟨rfl, rfl⟩
  go_wp2_with fail
  go_returns
  exact ⟨rfl, B9.out⟩
end Go.Proofs.Ytifcmapicpnkgaa
