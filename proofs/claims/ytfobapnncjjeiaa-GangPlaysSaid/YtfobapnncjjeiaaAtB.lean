/-
  Where a row lies that was grown: in its own block, or in one that is new. No program is imported.
-/
import Derived.Laws.AppendOwn
namespace Go.Proofs.Ytfobapnncjjeiaa
open Go
set_option linter.unusedVariables false

def AtB (w : World) (v v' : Value) : Prop := ∀ g, v'.ownBlock = some g → v.ownBlock = some g ∨ w.heap.size ≤ g
theorem atB_of {w : World} {v v' : Value} {n : Nat} (h : v'.ownBlock = v.ownBlock ∨ v'.ownBlock = some n) (hn : w.heap.size ≤ n := by exact Nat.le_refl _) : AtB w v v' := by
  intro g hg
  rcases h with h | h
  · rw [h] at hg; exact .inl hg
  · rw [h] at hg; cases hg; exact .inr hn
theorem atB_new (w : World) (v : Value) (n c : Nat) : AtB w v (.slice (some ⟨w.heap.size, 0, none⟩) n c) := by
  intro g hg
  simp [Value.ownBlock] at hg
  exact .inr (by omega)
theorem atB_same (w : World) (g o n c m d : Nat) : AtB w (.slice (some ⟨g, o, none⟩) n c) (.slice (some ⟨g, o, none⟩) m d) := fun _ h => .inl h
theorem atB_refl (w : World) (v : Value) : AtB w v v := fun _ h => .inl h
end Go.Proofs.Ytfobapnncjjeiaa
