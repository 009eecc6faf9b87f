/-
  What the chapter's example comes to. No program is imported.
-/
import Derived.Test.YtnbgipegfnpobaaPr9
namespace Go.Proofs.Ytnbgipegfnpobaa
set_option linter.unusedVariables false

instance (p : List Lv) : Decidable (okP p) := by unfold okP; exact inferInstance
instance (x : Int) : Decidable (overT x) := by unfold overT; exact inferInstance
instance (p : List Lv) (f n k : Int) : Decidable (badCh p f n k) := by unfold badCh; exact inferInstance
instance (f n k : Int) : Decidable (badFit f n k) := by unfold badFit; exact inferInstance
instance (p : List Lv) (f n k : Int) : Decidable (Free p f n k) := by unfold Free; exact inferInstance
abbrev q0 : List Lv := [(10, 4)]
abbrev q1 : List Lv := [(10, 4), (12, 1), (17, 4)]
theorem ok0 : okP q0 := by decide +kernel
theorem ok1 : okP q1 := by decide +kernel
theorem change_known : changeV q0 12 5 (-3) = (q1, 0) := by
  rw [change_ok ok0 (by decide +kernel) (by decide +kernel)]
  decide +kernel
theorem cand1 {f s : Int} (h : Cand q1 f s) : s = max f 10 ∨ s = 10 ∨ s = 12 ∨ s = 17 := by
  rcases h with h | ⟨⟨i, hi, h⟩, _⟩
  · exact .inl h
  · have hi' : i < 3 := hi
    rcases (by omega : i = 0 ∨ i = 1 ∨ i = 2) with rfl | rfl | rfl
    · exact .inr (.inl h)
    · exact .inr (.inr (.inl h))
    · exact .inr (.inr (.inr h))
theorem fit_k1 : fitV q1 10 3 2 = (17, 0) := by
  refine fit_at ok1 (by decide +kernel) (.inr ⟨⟨2, by decide, rfl⟩, by decide +kernel⟩) (by decide +kernel) fun s hs h => ?_
  rcases cand1 hs with rfl | rfl | rfl | rfl
  · decide +kernel
  · decide +kernel
  · decide +kernel
  · omega
theorem fit_k2 : fitV q1 10 2 2 = (10, 0) := by
  refine fit_at ok1 (by decide +kernel) (.inl (by decide +kernel)) (by decide +kernel) fun s hs h => ?_
  rcases cand1 hs with rfl | rfl | rfl | rfl
  · omega
  · omega
  · omega
  · omega
theorem fit_k3 : fitV q1 10 3 5 = (0, 5) := by
  refine fit_full ok1 (by decide +kernel) fun s hs => ?_
  rcases cand1 hs with rfl | rfl | rfl | rfl
  · decide +kernel
  · decide +kernel
  · decide +kernel
  · decide +kernel
theorem at_k : atV q1 13 = 1 := by rw [atV_ok ok1]; decide +kernel
theorem check_k : checkV [] = 50 := checkV_no fun h => h.1 rfl
end Go.Proofs.Ytnbgipegfnpobaa
