/-
  gangerref06.mark: at marks that the caller owns.
-/
import Derived.Test.YtdhkinknhjpjmaaDoorIxH
namespace Go.Proofs.YtdhkinknhjpjmaaDoor
open Go Go.RowKit Go.Lib
set_option linter.unusedVariables false

/-- Block g holds marks. -/
structure MkR (w : World) (g : Nat) (m : Nat → Bool) : Prop where
  blk : Blk w g (markL m).toArray 4
theorem MkR.cell {w : World} {g : Nat} {m : Nat → Bool} (h : MkR w g m) {i : Nat} (hi : i ≤ 1000) : w.cell? ⟨g, i, none⟩ = some (.bool (m i)) := by
  rw [Blk.cell h.blk]
  have := markL_get m (i := i) (by omega)
  simpa using this
theorem MkR.store {w : World} {g : Nat} {m m' : Nat → Bool} (h : MkR w g m) {j : Nat} (hj : j ≤ 1000) (h1 : m' j = true) (h2 : ∀ x, x ≠ j → m' x = m x) : MkR (w.setCell ⟨g, j, none⟩ (.bool true)) g m' := by
  have := Blk.set h.blk j (.bool true)
  have e : (markL m).toArray.setIfInBounds j (.bool true) = (markL m').toArray := by
    apply Array.ext_getElem?
    intro i
    rw [Array.getElem?_setIfInBounds]
    split
    · rename_i hi
      subst hi
      have := markL_get m' (i := j) (by omega)
      rw [h1] at this
      rw [if_pos (by rw [List.size_toArray, markL_len]; omega)]
      simpa using this.symm
    · rename_i hi
      by_cases hi9 : i < 1001
      · have a1 := markL_get m hi9
        have a2 := markL_get m' hi9
        rw [h2 i fun e => hi e.symm] at a2
        simp only [List.getElem?_toArray]
        rw [a1, a2]
      · rw [Array.getElem?_eq_none (by rw [List.size_toArray, markL_len]; omega), Array.getElem?_eq_none (by rw [List.size_toArray, markL_len]; omega)]
  rw [e] at this
  exact ⟨this⟩
theorem MkR.kept {w w' : World} {g : Nat} {m : Nat → Bool} (h : MkR w g m) (hb : Below w.heap.size w w') : MkR w' g m := ⟨h.blk.kept hb⟩

set_option maxRecDepth 100000 in
set_option maxHeartbeats 4000000 in
theorem mark_bad (g : Nat) (a b c : Nat) (w : World) (h9 : a ≤ 9999 ∧ b ≤ 9999 ∧ c ≤ 9999) (hb : badItem a b c = true) :
    Calls Tryd.prog 24 #[.slice (some ⟨g, 0, none⟩) 1001 1001, .int .i64 a, .int .i64 b, .int .i64 c] w fun e w' => e = .returned (.bool false) ∧ w' = w := by
  have key : ∀ (q1 q2 q3 q4 q5 : Bool), decide ((a : Int) > 1000) = q1 → decide ((b : Int) > 1000) = q2 → decide ((c : Int) > 1000) = q3 → decide ((b : Int) < a) = q4 → ((c : Int) == 0) = q5 → (q1 || (q2 || (q3 || (q4 || q5)))) = true →
      Calls Tryd.prog 24 #[.slice (some ⟨g, 0, none⟩) 1001 1001, .int .i64 a, .int .i64 b, .int .i64 c] w fun e w' => e = .returned (.bool false) ∧ w' = w := by
    intro q1 q2 q3 q4 q5 t1 t2 t3 t4 t5 hq
    have t1n : decide (1000 < a) = q1 := by rw [← t1]; exact decide_eq_decide.2 ⟨fun h => by omega, fun h => by omega⟩
    have t2n : decide (1000 < b) = q2 := by rw [← t2]; exact decide_eq_decide.2 ⟨fun h => by omega, fun h => by omega⟩
    have t3n : decide (1000 < c) = q3 := by rw [← t3]; exact decide_eq_decide.2 ⟨fun h => by omega, fun h => by omega⟩
    have t4n : decide (b < a) = q4 := by rw [← t4]; exact decide_eq_decide.2 ⟨fun h => by omega, fun h => by omega⟩
    clear hb
    cases q1 <;> cases q2 <;> cases q3 <;> cases q4 <;> cases q5 <;> simp at hq
    all_goals
      go_enter Tryd.func24, Tryd.ntmps24
      go_wp2_with fail
      go_ret
      exact ⟨rfl, rfl⟩
  refine key _ _ _ _ _ rfl rfl rfl rfl rfl ?_
  unfold badItem at hb
  simp only [Bool.or_eq_true, decide_eq_true_eq, beq_iff_eq] at hb ⊢
  omega
set_option maxRecDepth 100000 in
set_option maxHeartbeats 4000000 in
theorem mark_good (g : Nat) (x0 x1 x2 : Nat) (m : Nat → Bool) (w : World) (hb : badItem x0 x1 x2 = false) (hm : MkR w g m) :
    Calls Tryd.prog 24 #[.slice (some ⟨g, 0, none⟩) 1001 1001, .int .i64 x0, .int .i64 x1, .int .i64 x2] w fun e w' => e = .returned (.bool true) ∧ w.grownBy w' (some g) ∧ MkR w' g (marksV m x0 x1 x2) := by
  have HMV : Hid (marksV m x0 x1 x2 = fun i => m i || inRun x0 x1 x2 i) := by unfold Hid marksV; rw [hb, if_neg (by simp)]
  unfold badItem at hb
  rw [decide_eq_false_iff_not] at hb
  have t1 : decide ((x0 : Int) > 1000) = false := decide_eq_false (by omega)
  have t2 : decide ((x1 : Int) > 1000) = false := decide_eq_false (by omega)
  have t3 : decide ((x2 : Int) > 1000) = false := decide_eq_false (by omega)
  have t4 : decide ((x1 : Int) < x0) = false := decide_eq_false (by omega)
  have t5 : ((x2 : Int) == 0) = false := by rw [beq_eq_false_iff_ne]; omega
  have t1n : decide (1000 < x0) = false := decide_eq_false (by omega)
  have t2n : decide (1000 < x1) = false := decide_eq_false (by omega)
  have t3n : decide (1000 < x2) = false := decide_eq_false (by omega)
  have t4n : decide (x1 < x0) = false := decide_eq_false (by omega)
  have k0 : x0 ≤ 1000 := by omega
  have k1 : x1 ≤ 1000 := by omega
  have k2 : x2 ≤ 1000 := by omega
  have k3 : x0 ≤ x1 := by omega
  have k4 : 0 < x2 := by omega
  have HM := Lib.hid hm
  clear hb hm
  go_enter Tryd.func24, Tryd.ntmps24
  go_wp2_with fail
  go_loopw [9] (fun v wr => ∃ i : Nat, v = .int .i64 i ∧ (x0 ≤ i ∧ i ≤ x1 + x2) ∧ Hid ((i - x0) % x2 = 0) ∧ Hid (MkR wr g (uptoM m x0 x2 i)) ∧ Hid (w.grownBy wr (some g))) (fun v _ => x1 + x2 + 1 - (RowKit.intOf v).toNat)
  case atStart => exact ⟨x0, rfl, ⟨Nat.le_refl _, by omega⟩, (by unfold Hid; rw [Nat.sub_self, Nat.zero_mod]), (by unfold Hid; rw [upto_zero]; exact HM.out), World.grownBy.refl w _⟩
  case round =>
    obtain ⟨i, rfl, ⟨hi0, hi1⟩, him, hir, hig⟩ := hrel
    by_cases hle : i ≤ x1
    · have g1 : decide ((i : Int) ≤ x1) = true := decide_eq_true (by omega)
      have g1n : decide (i ≤ x1) = true := decide_eq_true hle
      have e7 := hir.out.cell (i := i) (by omega)
      have f7 := hir.out.blk.free i
      have hii : (i : Int) < 1001 := by omega
      have H := Lib.hid (hir.out.store (j := i) (m' := uptoM m x0 x2 (i + x2)) (by omega) (by rw [upto_next k4 hi0 him.out]; exact if_pos rfl) (fun x hx => by rw [upto_next k4 hi0 him.out]; exact if_neg hx))
      have G := Lib.hid (gb_trans hig.out (gb_set wr g i (.bool true)))
      have hm2 : Hid ((i + x2 - x0) % x2 = 0) := by
        unfold Hid
        rw [show i + x2 - x0 = (i - x0) + x2 by omega, Nat.add_mod_right]; exact him.out
      generalize uptoM m x0 x2 i i = z7 at e7
      clear hir hig him
      go_wp2_with fail
      go_roundw
      case rel => exact ⟨i + x2, by go_num, ⟨by omega, by omega⟩, hm2.out, H.out, G.out⟩
      case measure => simp [RowKit.intOf]; omega
    · have g1 : decide ((i : Int) ≤ x1) = false := decide_eq_false (by omega)
      have g1n : decide (i ≤ x1) = false := decide_eq_false hle
      have H := Lib.hid hir.out
      rw [upto_end k4 hi0 him.out (by omega) hi1, ← HMV.out] at H
      have G := Lib.hid hig.out
      clear hir hig him
      go_wp2_with fail
      go_ret
      exact ⟨rfl, G.out, H.out⟩
theorem mark_any (g : Nat) (a b c : Nat) (m : Nat → Bool) (w : World) (h9 : a ≤ 9999 ∧ b ≤ 9999 ∧ c ≤ 9999) (hm : MkR w g m) :
    Calls Tryd.prog 24 #[.slice (some ⟨g, 0, none⟩) 1001 1001, .int .i64 a, .int .i64 b, .int .i64 c] w fun e w' => e = .returned (.bool (!badItem a b c)) ∧ w.grownBy w' (some g) ∧ MkR w' g (marksV m a b c) := by
  cases hb : badItem a b c
  · exact mark_good g a b c m w hb hm
  · refine (mark_bad g a b c w h9 hb).mono ?_
    rintro e w' ⟨rfl, hw⟩
    subst hw
    refine ⟨rfl, World.grownBy.refl _ _, ?_⟩
    unfold marksV
    rw [if_pos hb]; exact hm
end Go.Proofs.YtdhkinknhjpjmaaDoor
