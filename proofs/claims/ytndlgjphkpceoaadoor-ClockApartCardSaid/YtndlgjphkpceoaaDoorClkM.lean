/-
  clock.Minutes, gangerref07.Minutes: at any seconds.
-/
import Derived.Test.YtndlgjphkpceoaaDoorClkA
namespace Go.Proofs.YtndlgjphkpceoaaDoor
open Go Go.RowKit Go.Lib
set_option linter.unusedVariables false

/-- The minutes of seconds, upwards. -/
def minsA (x : Int) : Int := if x ≤ 0 then 0 else (x - 1) / 60 + 1
theorem mins_any (x : Int) (w : World) (h0 : -9223372036854775808 ≤ x) (h1 : x ≤ 9223372036854775807) :
    Calls Tryd.prog 15 #[.int .i64 x] w fun e w' => e = .returned (.int .i64 (minsA x)) ∧ w' = w := by
  by_cases h : x ≤ 0
  · have E : Hid (minsA x = 0) := by unfold Hid minsA; rw [if_pos h]
    have t : decide (x ≤ 0) = true := decide_eq_true h
    go_enter Tryd.func15, Tryd.ntmps15
    go_wp2_with fail
    go_ret
    exact ⟨by rw [E.out]; rfl, rfl⟩
  · have E : Hid (minsA x = (x - 1) / 60 + 1) := by unfold Hid minsA; rw [if_neg h]
    have t : decide (x ≤ 0) = false := decide_eq_false h
    have e1 : (x - 1).tdiv 60 = (x - 1) / 60 := Int.tdiv_eq_ediv_of_nonneg (by omega)
    have b1 : 0 ≤ (x - 1) / 60 := by omega
    have b2 : (x - 1) / 60 ≤ 153722867280912930 := by omega
    go_enter Tryd.func15, Tryd.ntmps15
    go_wp2_with fail
    go_ret
    exact ⟨by rw [E.out]; rfl, rfl⟩
theorem refMins_any (x : Int) (w : World) (h0 : -9223372036854775808 ≤ x) (h1 : x ≤ 9223372036854775807) :
    Calls Tryd.prog 16 #[.int .i64 x] w fun e w' => e = .returned (.int .i64 (minsA x)) ∧ w' = w := by
  by_cases h : x < 0
  · have E : Hid (minsA x = 0) := by unfold Hid minsA; rw [if_pos (by omega)]
    have t : decide (x < 0) = true := decide_eq_true h
    go_enter Tryd.func16, Tryd.ntmps16
    go_wp2_with fail
    go_ret
    exact ⟨by rw [E.out]; rfl, rfl⟩
  · have t : decide (x < 0) = false := decide_eq_false h
    have e1 : x.tdiv 60 = x / 60 := Int.tdiv_eq_ediv_of_nonneg (by omega)
    obtain ⟨q, hq⟩ : ∃ q, q = x / 60 := ⟨_, rfl⟩
    have b1 : 0 ≤ q := by omega
    have b2 : q ≤ 153722867280912930 := by omega
    rw [← hq] at e1
    by_cases he : q * 60 = x
    · have E : Hid (minsA x = q) := by unfold Hid minsA; split <;> omega
      have n1 : (q * 60 != x) = false := by rw [he]; simp
      have hq' := Lib.hid hq
      have e2 : x / 60 = q := hq.symm
      clear hq he
      go_enter Tryd.func16, Tryd.ntmps16
      go_wp2_with fail
      go_ret
      exact ⟨by rw [E.out]; rfl, rfl⟩
    · have E : Hid (minsA x = q + 1) := by unfold Hid minsA; split <;> omega
      have n1 : (q * 60 != x) = true := bne_iff_ne.2 he
      have e2 : x / 60 = q := hq.symm
      clear hq
      go_enter Tryd.func16, Tryd.ntmps16
      go_wp2_with fail
      go_ret
      exact ⟨by rw [E.out]; rfl, rfl⟩
end Go.Proofs.YtndlgjphkpceoaaDoor
