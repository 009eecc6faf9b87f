/-
  Decay: plain mathematics.
-/
import Derived.Test.YtggamihjmggmlaaDecRef2
namespace Go.Proofs.Ytggamihjmggmlaa
open Go.RowKit
set_option linter.unusedVariables false

theorem aftN_mono {n m t h : Nat} (hnm : n ≤ m) : aftN n t h ≤ aftN m t h := by
  unfold aftN
  exact Nat.div_le_div_right (Nat.mul_le_mul_right _ (Nat.div_le_div_right hnm))
theorem aftN_ge {n t h : Nat} (h1 : 1 ≤ h) : n / 2 ^ (t / h) / 2 ≤ aftN n t h := by
  unfold aftN
  have hb := (tabN_bd _ (idx_lt (t := t) h1)).1
  generalize tabN (t % h * 16 / h) = f at *
  generalize n / 2 ^ (t / h) = x at *
  have h2 : x * 34219 ≤ x * f := Nat.mul_le_mul_left x hb
  generalize x * f = y at *
  omega
theorem aftN_anti {n t t' h : Nat} (h1 : 1 ≤ h) (ht : t ≤ t') : aftN n t' h ≤ aftN n t h := by
  have hd : t / h ≤ t' / h := Nat.div_le_div_right ht
  by_cases he : t / h = t' / h
  · have e1 := Nat.div_add_mod t h
    have e2 := Nat.div_add_mod t' h
    rw [he] at e1
    unfold aftN
    rw [he]
    refine Nat.div_le_div_right (Nat.mul_le_mul_left _ (tabN_anti _ _ (Nat.div_le_div_right ?_) (idx_lt h1)))
    omega
  · refine Nat.le_trans (aftN_le h1) (Nat.le_trans ?_ (aftN_ge h1))
    rw [half_step]
    exact Nat.div_le_div_left (Nat.pow_le_pow_right (by omega) (by omega)) (Nat.pos_of_ne_zero (by simp))
theorem aftN_zero (n h : Nat) : aftN n 0 h = n := by
  unfold aftN
  simp only [Nat.zero_div, Nat.pow_zero, Nat.div_one, Nat.zero_mod, Nat.zero_mul, tabN_zero]
  exact Nat.mul_div_cancel _ (by omega)
theorem aftN_add {n w r h : Nat} (hr : r < h) : aftN n (w * h + r) h = aftN (n / 2 ^ w) r h := by
  have e1 : (w * h + r) / h = w := by rw [Nat.mul_comm, Nat.mul_add_div (by omega), Nat.div_eq_of_lt hr, Nat.add_zero]
  have e2 : (w * h + r) % h = r := by rw [Nat.mul_comm, Nat.mul_add_mod, Nat.mod_eq_of_lt hr]
  have e3 : r / h = 0 := Nat.div_eq_of_lt hr
  have e4 : r % h = r := Nat.mod_eq_of_lt hr
  unfold aftN
  rw [e1, e2, e3, e4, Nat.pow_zero, Nat.div_one]
theorem aftN_whole {n w h : Nat} (h1 : 1 ≤ h) : aftN n (w * h) h = n / 2 ^ w := by
  have := aftN_add (n := n) (w := w) (r := 0) (h := h) h1
  rw [Nat.add_zero, aftN_zero] at this
  exact this
theorem aftN_end {n h : Nat} (hn : n < 18446744073709551616) (h1 : 1 ≤ h) : aftN n (Lib.bitLen n * h) h = 0 ∧ (0 < n → aftN n ((Lib.bitLen n - 1) * h) h ≠ 0) := by
  obtain ⟨q1, q2⟩ := bits_half n hn
  refine ⟨by rw [aftN_whole h1, q1], fun h0 => ?_⟩
  rw [aftN_whole h1]
  have hb : 0 < Lib.bitLen n := (bitLen_bounds 64 n hn (by omega) (by omega)).1
  have := q2 (Lib.bitLen n - 1) (by omega)
  omega
end Go.Proofs.Ytggamihjmggmlaa
