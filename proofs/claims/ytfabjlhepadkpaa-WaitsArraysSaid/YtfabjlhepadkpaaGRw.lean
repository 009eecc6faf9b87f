/-
  Rows of integers that are read, of any room.
-/
import Derived.Test.YtfabjlhepadkpaaNums
namespace Go.Proofs.Ytfabjlhepadkpaa
open Go Go.RowKit
set_option linter.unusedVariables false

/-- v is a row of the numbers l; nothing of its room. -/
def GRow (w : World) (v : Value) (l : List Int) : Prop := (l = [] ∧ ∃ a c, v = .slice a 0 c) ∨ ∃ b off c, v = .slice (some ⟨b, off, none⟩) l.length c ∧ ∀ j, j < l.length → w.cell? ⟨b, off + j, none⟩ = some (.int .i64 (l.getD j 0))
theorem GRow.slice {w : World} {v : Value} {l : List Int} (h : GRow w v l) : ∃ a c, v = .slice a l.length c := by
  rcases h with ⟨rfl, a, c, rfl⟩ | ⟨b, off, c, rfl, _⟩
  · exact ⟨a, c, rfl⟩
  · exact ⟨_, c, rfl⟩
theorem GRow.kept {w w' : World} {v : Value} {l : List Int} (h : GRow w v l) (hb : Below w.heap.size w w') : GRow w' v l := by
  rcases h with h | ⟨b, off, c, h1, h2⟩
  · exact .inl h
  · exact .inr ⟨b, off, c, h1, fun j hj => cell_next hb (h2 j hj)⟩
theorem GRow.none (w : World) : GRow w (.slice Option.none 0 0) [] := .inl ⟨rfl, _, _, rfl⟩
theorem grow_of_own {w : World} {base : Nat} {v : Value} {l : List Int} (h : NOwn w base v l) : GRow w v l := by
  rcases nrow_of_own h with ⟨h1, a, c, h2, _⟩ | ⟨b, off, c, h1, _, _, _, _, h2⟩
  · exact .inl ⟨h1, a, c, h2⟩
  · exact .inr ⟨b, off, c, h1, h2⟩
end Go.Proofs.Ytfabjlhepadkpaa
