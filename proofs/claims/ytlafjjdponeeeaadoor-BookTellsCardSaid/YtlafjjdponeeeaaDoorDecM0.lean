/-
  Decay: plain mathematics of what is left.
-/
import Derived.Test.YtlafjjdponeeeaaDoorDec2
namespace Go.Proofs.YtlafjjdponeeeaaDoor
open Go.RowKit
set_option linter.unusedVariables false

theorem half_step (n i : Nat) : n / 2 ^ i / 2 = n / 2 ^ (i + 1) := by rw [Nat.div_div_eq_div_mul, Nat.pow_succ]
theorem aftN_mono {n m t h : Nat} (hnm : n ≤ m) : aftN n t h ≤ aftN m t h := by
  unfold aftN
  exact Nat.div_le_div_right (Nat.mul_le_mul_right _ (Nat.div_le_div_right hnm))
theorem aftN_ge {n t h : Nat} (h1 : 1 ≤ h) : n / 2 ^ (t / h) / 2 ≤ aftN n t h := by
  unfold aftN
  have hb := (tabN_bd _ (idx_lt (t := t) h1)).1
  generalize tabN (t % h * 16 / h) = f at *
  generalize n / 2 ^ (t / h) = x at *
  have h2 : x * 34219 ≤ x * f := Nat.mul_le_mul_left x hb
  generalize x * f = y at *
  omega
theorem aftN_anti {n t t' h : Nat} (h1 : 1 ≤ h) (ht : t ≤ t') : aftN n t' h ≤ aftN n t h := by
  have hd : t / h ≤ t' / h := Nat.div_le_div_right ht
  by_cases he : t / h = t' / h
  · have e1 := Nat.div_add_mod t h
    have e2 := Nat.div_add_mod t' h
    rw [he] at e1
    unfold aftN
    rw [he]
    refine Nat.div_le_div_right (Nat.mul_le_mul_left _ (tabN_anti _ _ (Nat.div_le_div_right ?_) (idx_lt h1)))
    omega
  · refine Nat.le_trans (aftN_le h1) (Nat.le_trans ?_ (aftN_ge h1))
    rw [half_step]
    exact Nat.div_le_div_left (Nat.pow_le_pow_right (by omega) (by omega)) (Nat.pos_of_ne_zero (by simp))
theorem aftN_zero (n h : Nat) : aftN n 0 h = n := by
  unfold aftN
  simp only [Nat.zero_div, Nat.pow_zero, Nat.div_one, Nat.zero_mod, Nat.zero_mul, tabN_zero]
  exact Nat.mul_div_cancel _ (by omega)
end Go.Proofs.YtlafjjdponeeeaaDoor
