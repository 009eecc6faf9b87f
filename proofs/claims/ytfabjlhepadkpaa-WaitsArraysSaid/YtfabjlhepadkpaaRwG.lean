/-
  Rows of elements of any number of cells, read. No program is imported.
-/
import Derived.Test.YtfabjlhepadkpaaMem
import Derived.OwnWalk
namespace Go.Proofs.Ytfabjlhepadkpaa
open Go Go.RowKit
set_option linter.unusedVariables false

/-- v is a row of the elements l, each of s cells, 'enc' them. -/
def RowG {α : Type} (s : Nat) (enc : α → List Value) (w : World) (v : Value) (l : List α) : Prop :=
  (l = [] ∧ ∃ a c, v = .slice a 0 c) ∨ ∃ b off c, v = .slice (some ⟨b, off, none⟩) l.length c ∧ 0 < l.length ∧ ∀ i (h : i < l.length) j u, (enc l[i])[j]? = some u → w.cell? ⟨b, off + i * s + j, none⟩ = some u
theorem RowG.kept {α : Type} {s : Nat} {enc : α → List Value} {w w' : World} {v : Value} {l : List α} (h : RowG s enc w v l) (hb : Below w.heap.size w w') : RowG s enc w' v l := by
  rcases h with h | ⟨b, off, c, h1, h2, h3⟩
  · exact .inl h
  · exact .inr ⟨b, off, c, h1, h2, fun i hi j u hu => cell_next hb (h3 i hi j u hu)⟩
theorem RowG.slice {α : Type} {s : Nat} {enc : α → List Value} {w : World} {v : Value} {l : List α} (h : RowG s enc w v l) : ∃ a c, v = .slice a l.length c := by
  rcases h with ⟨rfl, a, c, rfl⟩ | ⟨b, off, c, rfl, _⟩
  · exact ⟨a, c, rfl⟩
  · exact ⟨_, c, rfl⟩
/-- The element at a place: its cells, now and later. -/
theorem RowG.at {α : Type} {s : Nat} {enc : α → List Value} {w : World} {a : Option Addr} {n c : Nat} {l : List α} (h : RowG s enc w (.slice a n c) l) {k : Nat} (hk : k < l.length) :
    ∃ b off, a = some ⟨b, off, none⟩ ∧ ∀ w', Below w.heap.size w w' → ∀ j u, (enc l[k])[j]? = some u → w'.cell? ⟨b, off + k * s + j, none⟩ = some u := by
  rcases h with ⟨rfl, _⟩ | ⟨b, off, c', h1, h2, h3⟩
  · simp at hk
  · injection h1 with h1
    exact ⟨b, off, h1, fun w' hb j u hu => cell_next hb (h3 k hk j u hu)⟩
theorem RowG.none {α : Type} (s : Nat) (enc : α → List Value) (w : World) : RowG s enc w (.slice Option.none 0 0) [] := .inl ⟨rfl, _, _, rfl⟩
end Go.Proofs.Ytfabjlhepadkpaa
