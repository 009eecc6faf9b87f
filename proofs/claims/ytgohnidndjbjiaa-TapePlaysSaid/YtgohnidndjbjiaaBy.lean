/-
  gangerref00's functions on bytes: Same, Copy, Lent, Whole, Spoil: at any bytes.
-/
import Derived.Test.YtgohnidndjbjiaaDat
import Derived.Test.YtgohnidndjbjiaaBts
import Derived.Test.YtgohnidndjbjiaaProg
import Derived.Laws.BytesArg
import Derived.Lib.LazyBuf
import Derived.Lib.Hide
namespace Go.Proofs.Ytgohnidndjbjiaa
open Go Go.RowKit Go.Lib
set_option linter.unusedVariables false

theorem Try.infoB : (Try.prog.info? 5).map (fun i => (i.zero, i.size, i.bytes)) = some (some (.int .u8 0), 1, 1) := by kernel_rfl
/-- The string of some bytes. -/
def str (xs : List UInt8) : ByteArray := ⟨xs.toArray⟩
theorem str_list (xs : List UInt8) : (str xs).toList = xs := by rw [ByteArray.toList_eq]; rfl
theorem run_convert_bytes_at0 (w : World) (a : Addr) (c : Nat) : ∀ dst, Try.prog.underlying dst = some .string → (convert 37 dst (.slice (some a) 0 c)).run Try.prog w = .ok (.string ByteArray.empty) w := by
  intro dst hd
  rw [run_convert_bytes_string w 37 dst 5 _ 0 c Try.underlying37 Try.underlying5 hd]
  have hl : (loadCells a 0).run Try.prog w = .ok #[] w := by simpa using run_loadCells_list (P := Try.prog) w a [] (by simp)
  simp [Conv.bytesToString, hl]
theorem conv_bts {w : World} {K : Nat → Prop} {v : Value} {xs : List UInt8} (h : Rd w K v (bts xs)) :
    ∀ dst, Try.prog.underlying dst = some .string → (convert 37 dst v).run Try.prog w = .ok (.string (str xs)) w := by
  obtain ⟨A, c, rfl, hc, hm, hr⟩ := h
  rw [bts_len] at *
  intro dst hd
  have e : strOfNums (xs.map fun b => (b.toNat : Int)) = str xs := Lz.strOfNums_map xs
  rcases Nat.eq_zero_or_pos xs.length with h0 | h0
  · obtain rfl : xs = [] := List.eq_nil_of_length_eq_zero h0
    cases A with
    | none => rw [← e]; exact run_convert_bytes_nil w 37 5 Try.underlying37 Try.underlying5 0 c dst hd
    | some a => rw [← e]; exact run_convert_bytes_at0 w a c dst hd
  · obtain ⟨b, off, rfl, _, _, hcell⟩ := hr h0
    rw [← e]
    refine run_convert_bytes_arg w 37 5 Try.underlying37 Try.underlying5 b off xs.length c (xs.map fun b => (b.toNat : Int)) (by simp) ?_ dst hd
    intro i hi
    rw [hcell i _ (bts_get xs i hi)]
    simp [List.getD, hi]
theorem owned_slice {w : World} {base n : Nat} {e : TypeId} {v : Value} {xs : List Value} (h : w.ownsRow base e 1 v n xs) : ∃ a c, v = .slice a n c := by
  obtain ⟨_, ⟨rfl, rfl⟩ | ⟨g, cap, _, rfl, _⟩⟩ := h
  · exact ⟨none, 0, rfl⟩
  · exact ⟨_, cap, rfl⟩
theorem owned_form {w : World} {base : Nat} {e : TypeId} {v : Value} {xs : List UInt8} (h : w.ownsRow base e 1 v xs.length (bts xs)) : ∃ a c, v = .slice a xs.length c ∧ xs.length ≤ c ∧ c ≤ maxLen := by
  obtain ⟨_, ⟨rfl, h0⟩ | ⟨g, cap, _, rfl, _, _, h1, h2, _⟩⟩ := h
  · exact ⟨none, 0, by rw [h0], by omega, Nat.zero_le _⟩
  · exact ⟨_, cap, rfl, h1, h2⟩
theorem owns_base {w : World} {base n size : Nat} {e : TypeId} {v : Value} {xs : List Value} (h : w.ownsRow base e size v n xs) {g : Nat} (hg : v.ownBlock = some g) : base ≤ g := by
  obtain ⟨_, ⟨rfl, _⟩ | ⟨g', _, _, rfl, hb, _⟩⟩ := h
  · cases hg
  · obtain rfl : g' = g := by simpa [Value.ownBlock] using hg
    exact hb
theorem owns_lt {w : World} {base n size : Nat} {e : TypeId} {v : Value} {xs : List Value} (h : w.ownsRow base e size v n xs) {g : Nat} (hg : v.ownBlock = some g) : g < w.heap.size := by
  obtain ⟨_, ⟨rfl, _⟩ | ⟨g', _, _, rfl, _, hc, _⟩⟩ := h
  · cases hg
  · obtain rfl : g' = g := by simpa [Value.ownBlock] using hg
    exact lt_of_block hc
theorem owns_alloc {w : World} {base n size : Nat} {e : TypeId} {v : Value} {xs : List Value} (h : w.ownsRow base e size v n xs) (o : Obj) : (w.alloc o).ownsRow base e size v n xs :=
  owns_fr h (N := fun _ => False) ((Fr.refl _ w).alloc o) fun _ _ h => h
theorem rd_src {w : World} {K : Nat → Prop} {v : Value} {xs : List Value} (h : Rd w K v xs) : Src w 1 v xs.length xs := by
  obtain ⟨A, c, rfl, hc, hm, hr⟩ := h
  refine ⟨by simp, ?_⟩
  cases A with
  | none =>
    refine .inl ⟨c, ?_, ?_⟩ <;> rcases Nat.eq_zero_or_pos xs.length with h0 | h0
    · rw [h0]
    · obtain ⟨_, _, h, _⟩ := hr h0; cases h
    · exact h0
    · obtain ⟨_, _, h, _⟩ := hr h0; cases h
  | some a =>
    refine .inr ⟨a, c, rfl, fun j u hj => ?_⟩
    obtain ⟨b, off, hA, _, _, h⟩ := hr (by have := (List.getElem?_eq_some_iff.1 hj).1; omega)
    injection hA with hA
    rw [hA, Addr.add_lit]; exact h j u hj
theorem rd_take {w : World} {K : Nat → Prop} {A : Option Addr} {c : Nat} {ss : List UInt8} (h : Rd w K (.slice A ss.length c) (bts ss)) (n : Nat) (hn : n ≤ ss.length) : Rd w K (.slice A n c) (bts (ss.take n)) := by
  obtain ⟨A', c', h1, h2, h3, h4⟩ := h
  rw [bts_len] at h1 h2 h4
  injection h1 with h1 h1' h1''
  subst h1 h1''
  refine ⟨A, c, by rw [bts_len, List.length_take, Nat.min_eq_left hn], by rw [bts_len, List.length_take]; omega, h3, fun h0 => ?_⟩
  rw [bts_len, List.length_take] at h0
  obtain ⟨b, off, h5, h6, h7, h8⟩ := h4 (by omega)
  refine ⟨b, off, h5, h6, h7, fun j u hj => h8 j u ?_⟩
  rw [bts_take] at hj
  have hjl : j < n := by have := (List.getElem?_eq_some_iff.1 hj).1; simp at this; omega
  rw [List.getElem?_take_of_lt hjl] at hj
  exact hj
theorem rd_drop {w : World} {K : Nat → Prop} {g o n c : Nat} {zs : List UInt8} (h : Rd w K (.slice (some ⟨g, o, none⟩) n c) (bts zs)) (k : Nat) (hk : k < zs.length) (m : Nat) (hm : zs.length - k ≤ m) (hm2 : m ≤ maxLen) :
    Rd w K (.slice (some ⟨g, o + k, none⟩) (zs.length - k) m) (bts (zs.drop k)) := by
  obtain ⟨A, c, h1, h2, h3, h4⟩ := h
  injection h1 with h1 _ _
  subst h1
  refine ⟨_, _, by rw [bts_len, List.length_drop], by rw [bts_len, List.length_drop]; exact hm, hm2, fun _ => ?_⟩
  obtain ⟨b, off, h5, hK, h7, h8⟩ := h4 (by rw [bts_len]; omega)
  injection h5 with h5
  obtain ⟨rfl, rfl⟩ : g = b ∧ o = off := by injection h5 with e1 e2 _; exact ⟨e1, e2⟩
  refine ⟨g, o + k, rfl, hK, h7, fun j u hj => ?_⟩
  have := h8 (k + j) u (by rw [← hj]; simp [bts])
  rw [← Nat.add_assoc] at this; exact this
def CopyTo (w : World) (xs : List UInt8) (e : Ending) (w' : World) : Prop :=
  ∃ v', e = .returned v' ∧ w'.ownsRow w.heap.size 5 1 v' xs.length (bts xs) ∧ Below w.heap.size w w'
theorem byCopy_any {w : World} {K : Nat → Prop} {v : Value} {xs : List UInt8} (h : Rd w K v (bts xs)) (hn : xs.length ≤ 16777216) :
    Calls Try.prog 43 #[v] w (CopyTo w xs) := by
  obtain ⟨i0, hi, hz0, hz1, hz2⟩ := info_parts Try.infoB
  have HS := Lib.hid (rd_src h)
  rw [bts_len] at HS
  obtain ⟨B, d, rfl, _⟩ := h
  go_enter Try.func43, Try.ntmps43
  go_wp2_with (at_builtin; refine wpList_app rfl _ _ 37 rfl w.heap.size 5 i0 _ 1 1 Try.underlying37 hi hz0 hz1 hz2 rfl (by decide) _ 0 _ rfl (World.ownsRow_nil _ _ _ _) _ xs.length (bts xs) rfl HS.out (bts_one xs) (by unfold maxLen; omega) (by omega) (Nat.le_refl _) ?_)
  intro v' w' hown hgr _
  have HO := Lib.hid hown
  have HG := Lib.hid hgr
  obtain ⟨A', c', rfl⟩ := owned_slice hown
  clear hown hgr
  go_wp2_with fail
  go_returns
  exact ⟨_, rfl, HO.out, (Below.refl _ w).grown HG.out (Nat.le_refl _) fun k hk => by cases hk⟩
/-- A copy that was lent: two marks stand behind it. -/
def Lentd (w : World) (v : Value) (xs : List UInt8) : Prop :=
  ∃ g cap cur, v = .slice (some ⟨g, 0, none⟩) xs.length cap ∧ Blk w g cur 5 ∧ xs.length + 2 ≤ cap ∧ cap ≤ maxLen ∧ cur.size = cap ∧ cur.toList.take (xs.length + 2) = bts (xs ++ [91, 92])
def LentTo (w : World) (xs : List UInt8) (e : Ending) (w' : World) : Prop :=
  ∃ v, e = .returned v ∧ Lentd w' v xs ∧ (∀ g, v.ownBlock = some g → w.heap.size ≤ g) ∧ Below w.heap.size w w'
theorem lent_of {w : World} {base n : Nat} {v : Value} {xs : List UInt8} (h : w.ownsRow base 5 1 v n (bts (xs ++ [91, 92]))) (hn : n = xs.length + 2) :
    ∃ g cap, v = .slice (some ⟨g, 0, none⟩) n cap ∧ base ≤ g ∧ n ≤ cap ∧ cap ≤ maxLen ∧ Lentd w (.slice (some ⟨g, 0, none⟩) xs.length cap) xs := by
  subst hn
  obtain ⟨hl, ⟨rfl, h0⟩ | ⟨g, cap, cur, rfl, hb, hcur, hnc, hcm, hsz, htk⟩⟩ := h
  · omega
  · exact ⟨g, cap, rfl, hb, hnc, hcm, g, cap, cur, rfl, hcur, hnc, hcm, by omega, by rw [← htk, Nat.mul_one]⟩
theorem byLent_any {w : World} {K : Nat → Prop} {v : Value} {xs : List UInt8} (h : Rd w K v (bts xs)) (hn : xs.length ≤ 1048576) :
    Calls Try.prog 32 #[v] w (LentTo w xs) := by
  obtain ⟨i0, hi, hz0, hz1, hz2⟩ := info_parts Try.infoB
  have HC := Lib.hid (byCopy_any h (by omega))
  obtain ⟨B, d, rfl, _⟩ := h
  rw [bts_len] at *
  go_enter Try.func32, Try.ntmps32
  go_wp2_with fail
  refine HC.out.mono ?_; rintro e w1 ⟨v1, rfl, ho1, hb1⟩
  have HO1 := Lib.hid ho1
  have HB1 := Lib.hid hb1
  obtain ⟨A1, c1, rfl⟩ := owned_slice ho1
  clear ho1 hb1
  go_wp2_with (at_builtin; refine wpList_append_own _ rfl _ _ 37 rfl w.heap.size 5 i0 _ 1 1 Try.underlying37 hi hz0 hz1 hz2 rfl (by decide) _ xs.length _ rfl (owns_alloc HO1.out _) ⟨w1.heap.size, 0, none⟩ 2 2 (bts [91, 92]) rfl rfl ?q1 (bts_one _) ?q2 ?q3 ?q4 ?_)
  case q1 => exact news_alloc w1 (bts [91, 92]) 5
  case q2 => unfold maxLen; omega
  case q3 => omega
  case q4 => have := HB1.out.size; simp; omega
  intro v2 w2 ho2 hg2 _
  have HG2 := Lib.hid hg2
  obtain ⟨g, cap, rfl, hbg, hnc, hcm, hL⟩ := lent_of (by rw [bts_app]; exact ho2) rfl
  have HL := Lib.hid hL
  have hnn : xs.length ≤ cap := by omega
  unfold maxLen at hcm
  clear ho2 hg2 hL
  go_wp2_with fail
  go_returns
  refine ⟨_, rfl, HL.out, fun g' hg' => ?_, ?_⟩
  · obtain rfl : g = g' := by simpa [Value.ownBlock] using hg'
    exact hbg
  · refine (HB1.out.alloc HB1.out.size _).grown HG2.out (by have := HB1.out.size; simp; omega) fun k hk => ?_
    obtain ⟨_, ⟨hv, _⟩ | ⟨g', _, _, hv, hb', _⟩⟩ := HO1.out
    · rw [hv] at hk; cases hk
    · rw [hv] at hk; obtain rfl : g' = k := by simpa [Value.ownBlock] using hk
      exact hb'
theorem Lentd.fr {N : Nat → Prop} {w w' : World} {v : Value} {xs : List UInt8} (h : Lentd w v xs) (f : Fr N w w') (hn : ∀ g, v.ownBlock = some g → ¬ N g) : Lentd w' v xs := by
  obtain ⟨g, cap, cur, rfl, h1, h2⟩ := h
  exact ⟨g, cap, cur, rfl, h1.fr f (hn g rfl), h2⟩
theorem Lentd.rd {w : World} {v : Value} {xs : List UInt8} (h : Lentd w v xs) {K : Nat → Prop} (hk : ∀ g, v.ownBlock = some g → K g) : Rd w K v (bts xs) := by
  obtain ⟨g, cap, cur, rfl, h1, h2, h3, h4, h5⟩ := h
  refine ⟨some ⟨g, 0, none⟩, cap, by rw [bts_len], by rw [bts_len]; omega, h3, fun _ => ⟨g, 0, rfl, hk g rfl, h1.lt, fun j u hj => ?_⟩⟩
  have hjl : j < xs.length := by have := (List.getElem?_eq_some_iff.1 hj).1; simpa using this
  have : (bts (xs ++ [91, 92]))[j]? = some u := by rw [bts_app, List.getElem?_append_left (by simpa using hjl)]; exact hj
  rw [Nat.zero_add, h1.cell, ← this, ← h5, List.getElem?_take_of_lt (by omega)]
  simp
theorem byWhole_any {w : World} {K : Nat → Prop} {v v2 : Value} {xs : List UInt8} (h : Lentd w v xs) (h2 : Rd w K v2 (bts xs)) (hn : xs.length ≤ 1048576) :
    Calls Try.prog 33 #[v, v2] w fun e w' => e = .returned (.bool true) ∧ w' = w := by
  have c1 := conv_bts (h.rd (K := fun _ => True) fun _ _ => trivial) 9 Try.underlying9
  have c2 := conv_bts h2 9 Try.underlying9
  obtain ⟨g, cap, cur, rfl, hB, h3, h4, h5, h6⟩ := h
  obtain ⟨B, d, rfl, _⟩ := h2
  rw [bts_len] at *
  have e1 : w.cell? ⟨g, xs.length, none⟩ = some (.int .u8 91) := by
    have : (bts (xs ++ [91, 92]))[xs.length]? = some (.int .u8 91) := by simp [bts]
    rw [hB.cell, ← this, ← h6, List.getElem?_take_of_lt (by omega)]; simp
  have e2 : w.cell? ⟨g, xs.length + 1, none⟩ = some (.int .u8 92) := by
    have : (bts (xs ++ [91, 92]))[xs.length + 1]? = some (.int .u8 92) := by simp [bts]
    rw [hB.cell, ← this, ← h6, List.getElem?_take_of_lt (by omega)]; simp
  unfold maxLen at h4
  have t1 : (xs.length != xs.length) = false := by simp
  clear hB h5 h6
  generalize str xs = s at *
  generalize xs.length = n at *
  go_enter Try.func33, Try.ntmps33
  go_wp2_with fail
  go_returns
  exact ⟨rfl, rfl⟩
def SpoilTo (w : World) (g size : Nat) (e : Ending) (w' : World) : Prop := e = .returned (.tuple #[]) ∧ Fr (fun b => b = g) w w'
theorem bySpoil_row (w : World) (g n cap : Nat) (cur : Array Value) (h : Blk w g cur 5) (hc : ∀ t, t < n → ∃ m, cur[t]? = some (.int .u8 m)) (hn : n ≤ 1048576) :
    Calls Try.prog 17 #[.slice (some ⟨g, 0, none⟩) n cap] w (SpoilTo w g cur.size) := by
  have H := Lib.hid h
  have HC := Lib.hid hc
  clear h hc
  go_enter Try.func17, Try.ntmps17
  go_wp2_with fail
  go_loopw [2] (fun i wr => ∃ j : Nat, j ≤ n ∧ i = .int .i64 j ∧ (∃ cur', Blk wr g cur' 5 ∧ ∀ t, j ≤ t → cur'[t]? = cur[t]?) ∧ Fr (fun b => b = g) w wr) (fun i _ => n - (intOf i).toNat)
  case atStart => exact ⟨0, Nat.zero_le _, rfl, ⟨cur, H.out, fun _ _ => rfl⟩, Fr.refl _ _⟩
  case round =>
    obtain ⟨j, hj, rfl, ⟨cur', hb', hsame⟩, hF⟩ := hrel
    have HB' := Lib.hid hb'
    have HS' := Lib.hid hsame
    clear hb' hsame
    by_cases hlt : j < n
    · have hlt' : decide (j < n) = true := decide_eq_true hlt
      have hlt2 : (j : Int) < n := by omega
      obtain ⟨m, hm⟩ := HC.out j hlt
      have f0 := HB'.out.free j
      have c0 := HB'.out.cell j
      rw [HS'.out j (Nat.le_refl _), hm] at c0
      clear hm
      go_wp2_with fail
      go_roundw
      case rel => exact ⟨j + 1, hlt, by go_num, ⟨_, HB'.out.set _ _, fun t ht => by rw [Array.getElem?_setIfInBounds, if_neg (by omega)]; exact HS'.out t (by omega)⟩, hF.trans (Fr.one wr g j _) fun _ _ h => h⟩
      case measure => simp [intOf]; omega
    · obtain rfl : j = n := by omega
      have hlt' : decide (j < j) = false := decide_eq_false (by omega)
      go_wp2_with fail
      go_returns
      exact ⟨rfl, hF⟩
theorem bySpoil_rd (w : World) (g cap : Nat) (xs : List UInt8) (cur : Array Value) (h : Blk w g cur 5) (hc : cur.toList.take xs.length = bts xs) (hn : xs.length ≤ 1048576) :
    Calls Try.prog 17 #[.slice (some ⟨g, 0, none⟩) xs.length cap] w (SpoilTo w g cur.size) :=
  bySpoil_row w g xs.length cap cur h (fun t ht => ⟨_, by
    have := bts_get xs t ht
    rw [← this, ← hc, List.getElem?_take_of_lt ht]; simp⟩) hn
theorem bySpoil_zero (w : World) (A : Option Addr) (cap : Nat) :
    Calls Try.prog 17 #[.slice A 0 cap] w fun e w' => e = .returned (.tuple #[]) ∧ w' = w := by
  go_enter Try.func17, Try.ntmps17
  go_wp2_with fail
  refine wp_loop_rounds 1 ?_
  rw [rounds_succ]
  go_wp2_with fail
  go_returns
  exact ⟨rfl, rfl⟩
end Go.Proofs.Ytgohnidndjbjiaa
