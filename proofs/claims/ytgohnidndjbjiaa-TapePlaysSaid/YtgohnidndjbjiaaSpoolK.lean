/-
  gangerlaw18.known: what the chapter's example fixes holds.
-/
import Derived.Test.YtgohnidndjbjiaaSpoolE
import Derived.Test.YtgohnidndjbjiaaBy
import Derived.Lib.SlBytesConst
namespace Go.Proofs.Ytgohnidndjbjiaa
open Go Go.RowKit Go.Lib
set_option linter.unusedVariables false

theorem neg1 : (-1 : Int) < 0 := by decide
theorem tick_neg {l : Int} (h : l < 0) : tick l = l := by unfold tick; rw [if_neg (by omega)]
theorem addS_ok (s : St) (ys : List UInt8) (h1 : s.off = false) (h2 : ¬ s.room - s.xs.length < ys.length) (h3 : s.left < 0) : addS s ys = ({ s with xs := s.xs ++ ys }, 0) := by
  unfold addS; rw [h1, if_neg (by decide), if_neg h2, if_neg (by omega), tick_neg h3]
theorem addS_full (s : St) (ys : List UInt8) (h1 : s.off = false) (h2 : s.room - s.xs.length < ys.length) : addS s ys = (s, 5) := by
  unfold addS; rw [h1, if_neg (by decide), if_pos h2]
theorem syncS_ok (s : St) (h1 : s.off = false) (h3 : s.left < 0) : syncS s = ({ s with sure := s.xs.length }, 0) := by
  unfold syncS; rw [h1, if_neg (by decide), if_neg (by omega), tick_neg h3]
theorem cutS_ok (s : St) (n : Nat) (h1 : s.off = false) (h2 : n ≤ s.xs.length) (h3 : s.left < 0) : cutS s n = ({ s with xs := s.xs.take n, sure := n }, 0) := by
  unfold cutS; rw [h1, if_neg (by decide), if_neg (by omega), if_neg (by omega), tick_neg h3, Int.toNat_natCast]
theorem cutS_arg (s : St) (n : Int) (h1 : s.off = false) (h2 : n < 0 ∨ s.xs.length < n) : cutS s n = (s, 2) := by
  unfold cutS; rw [h1, if_neg (by decide), if_pos h2]

section
variable {w w' : World} {base sb : Nat} {N K : Nat → Prop} {s s' : St}
theorem Sp.alloc (h : Sp w base N sb s) (o : Obj) : Sp (w.alloc o) base N sb s := h.fr ((Fr.refl (fun _ => False) w).alloc o) fun _ _ h => h
theorem Sp.kept (h : Sp w base N sb s) (hb : Below w.heap.size w w') : Sp w' base N sb s := h.fr (fr_of_below (N := fun _ => False) hb fun b h1 h2 => by omega) fun _ _ h => h
theorem Sp.lt (h : Sp w base N sb s) : ∀ b, N b → b < w.heap.size := fun b hb => (h.2.1 b hb).2
theorem Sp.baseLe (h : Sp w base N sb s) : base ≤ w.heap.size := by have := h.2.1 sb h.2.2.1; omega
theorem Sp.below (h : Sp w base N sb s) (hF : Fr N w w') : Below base w w' := hF.below h.baseLe fun b hb => (h.2.1 b hb).1
/-- A literal of bytes, just made. -/
theorem rd_lit (w : World) (xs : List UInt8) (n : Nat) (hn : xs.length = n) (hm : n ≤ maxLen) (b : Nat) (hb : w.heap.size = b) (fr : Nat × Nat) : Rd (w.alloc (.cells (bts xs).toArray 5 fr)) (fun k => k = b) (.slice (some ⟨b, 0, none⟩) n n) (bts xs) := by
  subst hn hb
  refine ⟨_, _, by rw [bts_len], by rw [bts_len]; exact Nat.le_refl _, hm, fun _ => ⟨w.heap.size, 0, rfl, rfl, by simp, fun j u hj => ?_⟩⟩
  rw [Nat.zero_add, cell_of_row _ w.heap.size j _ _ _ (heap_alloc_new w (.cells (bts xs).toArray 5 fr))]
  simpa using hj
/-- What Bytes hands out may be read. -/
theorem bytes_rd {g : Nat} {xs : List UInt8} (h : Blk w g (bts xs).toArray 5) (hm : xs.length ≤ maxLen) : Rd w (fun b => b = g) (.slice (some ⟨g, 0, none⟩) xs.length xs.length) (bts xs) := by
  refine ⟨_, _, by rw [bts_len], by rw [bts_len]; exact Nat.le_refl _, hm, fun _ => ⟨g, 0, rfl, rfl, h.lt, fun j u hj => ?_⟩⟩
  rw [Nat.zero_add, h.cell]; simpa using hj
/-- make([]byte, n), as bytes. -/
theorem wpList_make_rd {ops : Array Oper} {rest : List Oper} {o : Oper} {a : Act} {Q : Exit → Act → World → Prop} (hgd : o.guard = none) (l c : Operand) (ho : o.op = Op.makeSlice 37 l c)
    (L : Int) (n : Nat) (hl : a.eval l = .int .i64 L) (hc : a.eval c = .int .i64 L) (hL : L = (n : Int)) (b3 : n ≤ 16777216)
    (h : ∀ w', Rd w' (fun b => b = w.heap.size) (.slice (some ⟨w.heap.size, 0, none⟩) n n) (bts (List.replicate n 0)) → Below w.heap.size w w' → w'.heap.size = w.heap.size + 1 → wpList Try.prog ops Q rest (a.put o.dst (.slice (some ⟨w.heap.size, 0, none⟩) n n)) w') :
    wpList Try.prog ops Q (o :: rest) a w := by
  obtain ⟨i0, hi, hz0, hz1, hz2⟩ := info_parts Try.infoU8
  refine wpList_make_blk hgd l c 37 ho 5 i0 (.int .u8 0) Try.underlying37 hi hz0 hz1 rfl .i64 .i64 L L n hl hc hL hL (by rw [hz2]; omega) (by unfold maxLen; omega) fun w' h1 h2 h3 => h w' ?_ h2 h3
  have e : bts (List.replicate n 0) = List.replicate n (.int .u8 0) := by simp [bts]
  have := bytes_rd (xs := List.replicate n 0) (by rw [e]; exact h1) (by rw [List.length_replicate]; unfold maxLen; omega)
  rw [List.length_replicate] at this; exact this
theorem add_at {bv : Value} {ys : List UInt8} {n : Int} (hr : addS s ys = (s', n)) (h : Sp w base N sb s) (hS : Rd w K bv (bts ys)) (hK : ∀ b, K b → ¬ N b) :
    Calls Try.prog 29 #[.pointer (some ⟨sb, 0, none⟩), bv] w fun e w' => e = .returned (.int .i64 n) ∧ SpTo w base N sb s' w' := by
  have := add_any h hS hK; rw [hr] at this; exact this
theorem sync_at {n : Int} (hr : syncS s = (s', n)) (h : Sp w base N sb s) :
    Calls Try.prog 30 #[.pointer (some ⟨sb, 0, none⟩)] w fun e w' => e = .returned (.int .i64 n) ∧ SpTo w base N sb s' w' := by
  have := sync_any h; rw [hr] at this; exact this
theorem cut_at {k n : Int} (hr : cutS s k = (s', n)) (h : Sp w base N sb s) :
    Calls Try.prog 50 #[.pointer (some ⟨sb, 0, none⟩), .int .i64 k] w fun e w' => e = .returned (.int .i64 n) ∧ SpTo w base N sb s' w' := by
  have := cut_any k h; rw [hr] at this; exact this
theorem crash_at {k : Int} (hr : crashS s k = s') (h : Sp w base N sb s) :
    Calls Try.prog 22 #[.pointer (some ⟨sb, 0, none⟩), .int .i64 k] w fun e w' => e = .returned (.tuple #[]) ∧ SpTo w base N sb s' w' := by
  have := crash_any k h; rw [hr] at this; exact this
theorem off_at {k : Int} (hr : offS s k = s') (hk : k ≤ 9223372036854775807) (h : Sp w base N sb s) :
    Calls Try.prog 18 #[.pointer (some ⟨sb, 0, none⟩), .int .i64 k] w fun e w' => e = .returned (.tuple #[]) ∧ SpTo w base N sb s' w' := by
  have := off_any k hk h; rw [hr] at this; exact this
theorem len_at {n : Int} (hr : (if s.off then (0 : Int) else s.xs.length) = n) (h : Sp w base N sb s) : Calls Try.prog 28 #[.pointer (some ⟨sb, 0, none⟩)] w fun e w' => e = .returned (.int .i64 n) ∧ w' = w := by
  have := len_any h; rw [hr] at this; exact this
theorem on_at {b : Bool} (hr : (!s.off) = b) (h : Sp w base N sb s) : Calls Try.prog 47 #[.pointer (some ⟨sb, 0, none⟩)] w fun e w' => e = .returned (.bool b) ∧ w' = w := by
  have := on_spool h; rw [hr] at this; exact this
end

end Go.Proofs.Ytgohnidndjbjiaa
