/-
  Plain mathematics: quotient and remainder.
-/
import Derived.Test.YtbnlmeegepgioaaDoorMath
namespace Go.Proofs.YtbnlmeegepgioaaDoor
set_option linter.unusedVariables false
set_option linter.unusedSimpArgs false

theorem ediv_of {a b q r : Int} (hb : b ≠ 0) (h : b * q + r = a) (h0 : 0 ≤ r) (h1 : r < b.natAbs) : q = a / b ∧ r = a % b := by
  rcases Int.lt_trichotomy b 0 with hn | hz | hp
  · have h2 := (Int.ediv_emod_unique (a := a) (b := -b) (r := r) (q := -q) (by omega)).2 ⟨by rw [Int.neg_mul_neg]; omega, h0, by omega⟩
    have e1 : a / b = -(a / -b) := by rw [Int.ediv_neg, Int.neg_neg]
    have e2 : a % b = a % -b := (Int.emod_neg ..).symm
    rw [e1, e2, h2.1, h2.2]; omega
  · omega
  · have h2 := (Int.ediv_emod_unique (a := a) (b := b) (r := r) (q := q) hp).2 ⟨by omega, h0, by omega⟩
    exact ⟨h2.1.symm, h2.2.symm⟩

/-- What the quotient and the remainder that are cut towards nought come to. -/
theorem div_facts {a b : Int} (ha : I64 a) (hb : I64 b) (h0 : b ≠ 0) (hmin : a = -9223372036854775808 → b ≠ -1) :
    I64 (a.tdiv b) ∧ (a.tmod b).natAbs < b.natAbs ∧ (a.tmod b < 0 → -9223372036854775807 ≤ a.tdiv b ∧ a.tdiv b ≤ 9223372036854775806) ∧
    (0 ≤ a.tmod b → a.tdiv b = a / b ∧ a.tmod b = a % b) ∧ (a.tmod b < 0 → 0 < b → a.tdiv b - 1 = a / b ∧ a.tmod b + b = a % b) ∧ (a.tmod b < 0 → b < 0 → a.tdiv b + 1 = a / b ∧ a.tmod b - b = a % b) := by
  have e := Int.mul_tdiv_add_tmod a b
  have hr : (a.tmod b).natAbs < b.natAbs := by
    rw [Int.natAbs_tmod]; exact Nat.mod_lt _ (by omega)
  have hq : (a.tdiv b).natAbs = a.natAbs / b.natAbs := Int.natAbs_tdiv a b
  have hq2 : 2 ≤ b.natAbs → (a.tdiv b).natAbs ≤ a.natAbs / 2 := fun h => by rw [hq]; exact Nat.div_le_div_left h (by omega)
  have hq1 : b = 1 → a.tdiv b = a := fun h => by rw [h]; exact Int.tdiv_one a
  have hqm : b = -1 → a.tdiv b = -a := fun h => by rw [h, Int.tdiv_neg, Int.tdiv_one]
  unfold I64 at *
  generalize a.tdiv b = q at *
  generalize a.tmod b = r at *
  clear hq
  have hcase : b = 1 ∨ b = -1 ∨ 2 ≤ b.natAbs := by omega
  refine ⟨?_, hr, ?_, ?_, ?_, ?_⟩
  · rcases hcase with h | h | h
    · have := hq1 h; omega
    · have := hqm h; omega
    · have := hq2 h; omega
  · intro h
    have := hq2 (by omega); omega
  · intro h; exact ediv_of h0 e h (by omega)
  · intro h hp
    exact ediv_of h0 (by rw [Int.mul_sub, Int.mul_one]; omega) (by omega) (by omega)
  · intro h hn
    exact ediv_of h0 (by rw [Int.mul_add, Int.mul_one]; omega) (by omega) (by omega)
end Go.Proofs.YtbnlmeegepgioaaDoor
