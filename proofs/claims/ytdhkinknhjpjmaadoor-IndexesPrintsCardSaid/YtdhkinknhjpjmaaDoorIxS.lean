/-
  Indexes, plainly: runs, one by one, as the program's Print takes them. No program is imported.
-/
import Derived.Test.YtdhkinknhjpjmaaDoorIxQ
namespace Go.Proofs.YtdhkinknhjpjmaaDoor
set_option linter.unusedVariables false

/-- k: how many consecutive numbers l begins with. -/
def RunK (l : List Nat) (k : Nat) : Prop := 0 < k ∧ k ≤ l.length ∧ (∀ j, j < k → l.getD j 0 = l.getD 0 0 + j) ∧ (k < l.length → l.getD k 0 ≠ l.getD 0 0 + k)
theorem runs_split (k : Nat) : ∀ l : List Nat, RunK l (k + 1) → runsOf l = (l.getD 0 0, l.getD 0 0 + k) :: runsOf (l.drop (k + 1)) := by
  induction k with
  | zero =>
    intro l h
    cases l with
    | nil => have := h.2.1; simp at this
    | cons x r =>
      cases r with
      | nil => rfl
      | cons y r =>
        obtain ⟨b, t, e, hb⟩ := runs_head y r
        have hne : y ≠ x + 1 := by
          have := h.2.2.2 (by simp)
          simpa using this
        rw [runs_cons e, if_neg hne]
        show _ = (x, x) :: runsOf (y :: r)
        rw [e]
  | succ k ih =>
    intro l h
    cases l with
    | nil => have := h.2.1; simp at this
    | cons x r =>
      cases r with
      | nil => have := h.2.1; simp at this
      | cons y r =>
        have hy : y = x + 1 := by
          have := h.2.2.1 1 (by omega)
          simpa using this
        have hr : RunK (y :: r) (k + 1) := by
          refine ⟨by omega, by have := h.2.1; simp at this ⊢; omega, fun j hj => ?_, fun hk => ?_⟩
          · have := h.2.2.1 (j + 1) (by omega)
            simp only [List.getD_cons_succ, List.getD_cons_zero] at this ⊢
            omega
          · have := h.2.2.2 (by simp at hk ⊢; omega)
            simp only [List.getD_cons_succ, List.getD_cons_zero] at this ⊢
            omega
        have e := ih (y :: r) hr
        simp only [List.getD_cons_zero] at e
        rw [runs_cons e, if_pos hy]
        show (x, y + k) :: _ = (x, x + (k + 1)) :: runsOf ((y :: r).drop (k + 1))
        rw [show x + (k + 1) = y + k by omega]
theorem RunK.drop_mem {l : List Nat} {k : Nat} (h : RunK l k) : (l.drop k).length < l.length := by
  rw [List.length_drop]; have := h.1; have := h.2.1; omega
theorem run_text {l : List Nat} {k : Nat} (h : RunK l k) : (if 1 < k then D (l.getD 0 0) ++ 45 :: D (l.getD (k - 1) 0) else D (l.getD 0 0)) = runT (l.getD 0 0, l.getD 0 0 + (k - 1)) := by
  have h1 := h.1
  have := h.2.2.1 (k - 1) (by omega)
  rw [this]
  unfold runT
  by_cases h2 : 1 < k
  · rw [if_pos h2, if_neg (by dsimp only; omega)]
  · rw [if_neg h2, if_pos (by dsimp only; omega)]
end Go.Proofs.YtdhkinknhjpjmaaDoor
