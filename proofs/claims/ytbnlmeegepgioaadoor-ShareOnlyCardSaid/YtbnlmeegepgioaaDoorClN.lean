/-
  slices.Clone at a row of integers.
-/
import Derived.Test.YtbnlmeegepgioaaDoorGRw
import Derived.Test.YtbnlmeegepgioaaDoorShelf
namespace Go.Proofs.YtbnlmeegepgioaaDoor
open Go Go.RowKit
set_option linter.unusedVariables false

theorem cloneG_any (v : Value) (l : List Int) (w : World) (hn : l.length ≤ 4194304) (h : GRow w v l) :
    Calls Tryd.prog 25 #[v] w fun e w' => ∃ v', e = .returned v' ∧ NOwn w' w.heap.size v' l ∧ Below w.heap.size w w' := by
  have hz : ∀ a c, l = [] → Calls Tryd.prog 25 #[.slice a 0 c] w fun e w' => ∃ v', e = .returned v' ∧ NOwn w' w.heap.size v' l ∧ Below w.heap.size w w' := by
    rintro a c rfl
    cases a with
    | none =>
      refine (Tryd.slices_Clone_int_nil 0 c w).mono ?_
      rintro e w' ⟨rfl, rfl⟩
      exact ⟨_, rfl, NOwn.none _ _, Below.refl _ _⟩
    | some a =>
      refine (Tryd.slices_Clone_int_zero a c w).mono ?_
      rintro e w' ⟨v', rfl, ho, _, hb⟩
      exact ⟨_, rfl, ho, hb⟩
  rcases h with ⟨h0, a, c, rfl⟩ | ⟨b, off, c, rfl, h5⟩
  · exact hz a c h0
  · by_cases h0 : l.length = 0
    · rw [h0]; exact hz _ c (List.eq_nil_of_length_eq_zero h0)
    · refine (Tryd.slices_Clone_int b off l.length c l w (Nat.le_refl _) (by omega) h5).mono ?_
      rintro e w' ⟨v', rfl, ho, _, hb⟩
      rw [List.take_of_length_le (Nat.le_refl _)] at ho
      exact ⟨_, rfl, ho, hb⟩
end Go.Proofs.YtbnlmeegepgioaaDoor
