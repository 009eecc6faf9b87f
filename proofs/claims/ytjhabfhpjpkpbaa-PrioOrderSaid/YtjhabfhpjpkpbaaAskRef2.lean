/-
  gangerref12.Keys and gangerref12.First: at any jobs.
-/
import Derived.Test.YtjhabfhpjpkpbaaAskRef
namespace Go.Proofs.Ytjhabfhpjpkpbaa
open Go.ChangeShapes Go.WideShapes Go.ChangeAt Go.RowKit Go.Lib Go.Sort Go.Maps
set_option linter.unusedVariables false

theorem firstSorted (W : WtS) (now all : Int) (l : List AskS) : ∀ k r, keysL W now all l = k :: r → ∀ j, j < r.length + 1 → kLess (at_ (k :: r) j) k = false := by
  intro k r h j hj
  have hs : (keysL W now all l).Pairwise fun x y => kLess y x = false := by
    unfold keysL; split
    · exact sortK_sorted _
    · exact List.Pairwise.nil
  rw [h] at hs
  cases j with
  | zero => exact less_irrefl k
  | succ j =>
    have := (pairwise_at _).1 hs 0 (j + 1) (by omega) (by simpa using hj)
    exact this
theorem refKeys_nil (a : Option Addr) (c : Nat) (W : WtS) (now all : Int) (w : World) :
    Calls Try.prog 20 #[.agg (wtL W).toArray, .slice a 0 c, .int .i64 now, .int .i64 all] w
      fun e w' => ∃ v', e = .returned (.tuple #[v', .int .i64 0]) ∧ KRow w' v' [] ∧ Below w.heap.size w w' := by
  have HSo : Hid (∀ w1, Calls Try.prog 29 #[.slice none 0 0] w1 fun e w' => ∃ v', e = .returned (.tuple #[v', .int .i64 0]) ∧ KRow w' v' [] ∧ Below w1.heap.size w1 w') :=
    fun w1 => (refSort_ok (.slice none 0 0) [] w1 (by simp) (.inl ⟨rfl, none, 0, rfl, Nat.zero_le _⟩) (by decide)).mono fun e w' ⟨v', he, ho, hb⟩ => by
      have e0 : sortK [] = [] := by simp [sortK]
      rw [e0] at ho
      exact ⟨v', he, ho, hb⟩
  unfold wtL
  go_enter Try.func20, Try.ntmps20
  go_wp2_with fail
  refine wp_loop_rounds 1 ?_
  rw [rounds_succ]
  go_wp2_with fail
  refine (HSo.out _).mono ?_; rintro e w2 ⟨v2, rfl, hk2, b2⟩
  have HK2 := Lib.hid hk2
  clear hk2
  go_wp2_with fail
  go_ret2
  exact ⟨v2, rfl, HK2.out, below_next b2 ((Below.refl _ _).alloc (Nat.le_refl _) _)⟩
/-- gangerref12.Keys: at any jobs. -/
theorem refKeys_any (v : Value) (W : WtS) (l : List AskS) (now all : Int) (w : World) (hn : l.length ≤ 1048576) (hnow : I64 now) (hall : I64 all) (hok : ∀ x ∈ l, AskOk x) (h : ARow w v l) :
    Calls Try.prog 20 #[.agg (wtL W).toArray, v, .int .i64 now, .int .i64 all] w
      fun e w' => ∃ v', e = .returned (.tuple #[v', .int .i64 (keysE W now all l)]) ∧ KRow w' v' (keysL W now all l) ∧ Below w.heap.size w w' := by
  rcases h with ⟨rfl, a, c, rfl, _⟩ | ⟨b, off, c, rfl, h0, h1, h2, hc⟩
  · rw [keysE_nil, keysL_nil]; exact refKeys_nil a c W now all w
  · exact refKeys_row b off c W l now all w hn h0 hnow hall hok hc

theorem refFirst_any (v : Value) (W : WtS) (l : List AskS) (now all : Int) (w : World) (hn : l.length ≤ 1048576) (hnow : I64 now) (hall : I64 all) (hok : ∀ x ∈ l, AskOk x) (h : ARow w v l) :
    Calls Try.prog 22 #[.agg (wtL W).toArray, v, .int .i64 now, .int .i64 all] w
      fun e w' => e = .returned (.tuple #[.int .u32 (firstV W now all l), .int .i64 (firstE W now all l)]) ∧ Below w.heap.size w w' := by
  have HK : Hid (∀ w1, Below w.heap.size w w1 → Calls Try.prog 20 #[.agg (wtL W).toArray, v, .int .i64 now, .int .i64 all] w1
      fun e w' => ∃ v', e = .returned (.tuple #[v', .int .i64 (keysE W now all l)]) ∧ KRow w' v' (keysL W now all l) ∧ Below w1.heap.size w1 w') := fun w1 hb => refKeys_any v W l now all w1 hn hnow hall hok (h.kept hb)
  have HF : Hid (firstE W now all l = if keysE W now all l ≠ 0 then keysE W now all l else if keysL W now all l = [] then 4 else 0) := rfl
  have HV : Hid (firstV W now all l = match keysL W now all l with | [] => 0 | k :: _ => k.2.2) := rfl
  have hsort : ∀ k r, keysL W now all l = k :: r → ∀ j, j < r.length + 1 → kLess (at_ (k :: r) j) k = false := firstSorted W now all l
  have HB : Hid (keysE W now all l ≠ 0 → keysL W now all l = []) := keysL_bad
  clear hn hnow hall hok h
  generalize firstE W now all l = fe at *
  generalize firstV W now all l = fv at *
  generalize keysE W now all l = ee at *
  generalize keysL W now all l = ks at *
  unfold wtL at *
  by_cases hee : ee = 0
  · subst hee
    cases ks with
    | nil =>
      obtain rfl : fe = 4 := HF.out
      obtain rfl : fv = 0 := HV.out
      clear HF HV HB hsort
      go_enter Try.func22, Try.ntmps22
      go_wp2_with fail
      refine (HK.out _ ((Below.refl _ _).alloc (Nat.le_refl _) _)).mono ?_; rintro e w1 ⟨v1, rfl, hk1, b1⟩
      obtain ⟨a1, c1, rfl⟩ : ∃ a c, v1 = .slice a 0 c := by
        rcases hk1 with ⟨_, a, c, rfl, _⟩ | ⟨b, off, c, rfl, h0, _⟩
        · exact ⟨a, c, rfl⟩
        · simp at h0
      clear hk1
      go_wp2_with fail
      go_ret2
      exact ⟨rfl, below_next b1 ((Below.refl _ _).alloc (Nat.le_refl _) _)⟩
    | cons k r =>
      obtain rfl : fe = 0 := HF.out
      obtain rfl : fv = k.2.2 := HV.out
      have HSo := Lib.hid (hsort k r rfl)
      clear HF HV HB hsort
      go_enter Try.func22, Try.ntmps22
      go_wp2_with fail
      refine (HK.out _ ((Below.refl _ _).alloc (Nat.le_refl _) _)).mono ?_; rintro e w1 ⟨v1, rfl, hk1, b1⟩
      have B1 := Lib.hid (below_next b1 ((Below.refl _ _).alloc (Nat.le_refl _) _))
      obtain ⟨b', off, c1, rfl, hc1, hx⟩ : ∃ b off c, v1 = .slice (some ⟨b, off, none⟩) (r.length + 1) c ∧ r.length + 1 ≤ 9223372036854775807 ∧ KCells w1 b off (k :: r) := by
        rcases hk1 with ⟨h, _⟩ | ⟨b, off, c, hv, h0, h1, h2, hc⟩
        · cases h
        · exact ⟨b, off, c, hv, by unfold maxLen at h2; simp at h1; omega, hc⟩
      have HX := Lib.hid hx
      have hn1 : Hid ((k :: r).length = r.length + 1) := rfl
      have y0 : w1.cell? ⟨b', off, none⟩ = some (.int .i64 k.1) := (hx.2 0 (by simp)).1
      have y1 : w1.cell? ⟨b', off + 1, none⟩ = some (.int .i64 k.2.1) := (hx.2 0 (by simp)).2.1
      have y2 : w1.cell? ⟨b', off + 2, none⟩ = some (.int .u32 k.2.2) := (hx.2 0 (by simp)).2.2
      have t0 : ((r.length + 1 : Nat) == 0) = false := by simp
      have t1 : (((r.length + 1 : Nat) : Int) == 0) = false := by simp; omega
      have t2 : (0 : Int) < ((r.length + 1 : Nat) : Int) := by omega
      have t3 : 0 < r.length + 1 := by omega
      clear hk1 hx b1
      have HLs : Hid (∀ j, j < r.length + 1 → ∀ w, Calls Try.prog 30 #[keyV (at_ (k :: r) j), keyV k] w fun e w' => e = .returned (.bool false) ∧ Below w.heap.size w w') := fun j hj w => by
        have := refLess_any (at_ (k :: r) j) k w
        rw [HSo.out j hj] at this; exact this
      unfold keyV at HLs
      generalize hks : k :: r = ks at *
      clear hks
      generalize r.length + 1 = n at *
      go_wp2_with fail
      go_loopw [13] (fun i wr => ∃ j : Nat, j ≤ n ∧ i = .int .i64 j ∧ Blk wr w1.heap.size #[.int .i64 k.1, .int .i64 k.2.1, .int .u32 k.2.2] 53 ∧ Below w1.heap.size w1 wr) (fun i _ => n - (intOf i).toNat)
      case atStart => exact ⟨0, Nat.zero_le _, rfl, Blk.new _ _ _, (Below.refl _ _).alloc (Nat.le_refl _) _⟩
      case round =>
        obtain ⟨j, hj, rfl, hbl, hB⟩ := hrel
        have HBl := Lib.hid hbl
        have k0 := hbl.cell 0; simp at k0
        have k1 := hbl.cell 1; simp at k1
        have k2 := hbl.cell 2; simp at k2
        clear hbl
        by_cases hlt : j < n
        · have hlt' : decide (j < n) = true := decide_eq_true hlt
          have hlt2 : (j : Int) < n := by omega
          obtain ⟨c0, c1, c2⟩ := HX.out.at hB (show j < ks.length by have := hn1.out; omega)
          have HL1 := Lib.hid (HLs.out j hlt)
          generalize at_ ks j = x at *
          go_wp2_with fail
          go_region_held3 (fun w' => w'.cell? ⟨b', off + j * 3, none⟩ = some (.int .i64 x.1) ∧ w'.cell? ⟨b', off + j * 3 + 1, none⟩ = some (.int .i64 x.2.1) ∧ w'.cell? ⟨b', off + j * 3 + 2, none⟩ = some (.int .u32 x.2.2) ∧
              w'.cell? ⟨w1.heap.size, 0, none⟩ = some (.int .i64 k.1) ∧ w'.cell? ⟨w1.heap.size, 1, none⟩ = some (.int .i64 k.2.1) ∧ w'.cell? ⟨w1.heap.size, 2, none⟩ = some (.int .u32 k.2.2) ∧ Below wr.heap.size wr w')
            (first
              | exact ⟨c0, c1, c2, k0, k1, k2, (Below.refl _ _).drew⟩
              | (rcases ‹_ ∧ _ ∧ _ ∧ _ ∧ _ ∧ _ ∧ Below _ _ _› with ⟨g0, g1, g2, g3, g4, g5, g6⟩; exact ⟨cell_next (by assumption) g0, cell_next (by assumption) g1, cell_next (by assumption) g2, cell_next (by assumption) g3, cell_next (by assumption) g4, cell_next (by assumption) g5, below_next (by assumption) g6⟩))
            (first
              | (go_at_call 30; ((with_reducible refine (HL1.out _).mono ?_); rintro e w2 ⟨rfl, b2⟩)))
          rcases ‹_ ∧ _ ∧ _ ∧ _ ∧ _ ∧ _ ∧ Below _ _ _› with ⟨_, _, _, _, _, _, g6⟩
          go_wp2_with fail
          go_roundw
          case rel => exact ⟨j + 1, hlt, by go_num, HBl.out.kept g6, below_next g6 hB⟩
          case measure => simp [intOf]; omega
        · obtain rfl : j = n := by omega
          have hlt' : decide (j < j) = false := decide_eq_false (by omega)
          go_wp2_with fail
          go_ret2
          exact ⟨rfl, below_next hB B1.out⟩
  · have hks := HB.out hee
    have E : fe = ee := by have := HF.out; simpa [hee] using this
    subst hks E
    obtain rfl : fv = 0 := HV.out
    have t : (fe != 0) = true := by simpa using hee
    clear HF HV HB hee hsort
    go_enter Try.func22, Try.ntmps22
    go_wp2_with fail
    refine (HK.out _ ((Below.refl _ _).alloc (Nat.le_refl _) _)).mono ?_; rintro e w1 ⟨v1, rfl, hk1, b1⟩
    clear hk1
    go_wp2_with fail
    go_ret2
    exact ⟨rfl, below_next b1 ((Below.refl _ _).alloc (Nat.le_refl _) _)⟩
end Go.Proofs.Ytjhabfhpjpkpbaa
