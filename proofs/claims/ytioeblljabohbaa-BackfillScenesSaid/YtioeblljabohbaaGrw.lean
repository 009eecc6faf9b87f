/-
  What a call leaves that only makes memory, and draws. No program is imported.
-/
import Derived.Test.YtioeblljabohbaaMem
import Derived.Shelf.SlSortCmp.NoneTotal
namespace Go.Proofs.Ytioeblljabohbaa
open Go Go.RowKit Go.Lib Go.Sort
set_option linter.unusedVariables false

/-- w' has grown of w: nothing that was there has turned. -/
structure Grw (w w' : World) : Prop where
  below : Below w.heap.size w w'
  drawn : w.drawn ≤ w'.drawn
theorem world_extG {a b : World} (h1 : a.heap = b.heap) (h2 : a.tape = b.tape) (h3 : a.drawn = b.drawn) (h4 : a.os = b.os) (h5 : a.output = b.output) : a = b := by
  cases a; cases b; simp at h1 h2 h3 h4 h5; subst h1 h2 h3 h4 h5; rfl
theorem Grw.form {w w' : World} (h : Grw w w') : ∃ q os, w' = grow (w.drewN q) os := by
  obtain ⟨⟨h1, h2, h3, h4, h5⟩, hd⟩ := h
  refine ⟨w'.drawn - w.drawn, w'.heap.extract w.heap.size w'.heap.size, ?_⟩
  have hh : w'.heap = w.heap ++ w'.heap.extract w.heap.size w'.heap.size := by
    apply Array.ext_getElem?
    intro i
    rw [Array.getElem?_append]
    split
    · rename_i hi; exact h5 i hi
    · rename_i hi
      rw [Array.getElem?_extract]
      split
      · congr 1; omega
      · rw [Array.getElem?_eq_none (by omega)]
  have hd' : w'.drawn = w.drawn + (w'.drawn - w.drawn) := by omega
  exact world_extG (by exact hh) (by exact h2) (by exact hd') (by exact h1) (by exact h3)
theorem Grw.refl (w : World) : Grw w w := ⟨Below.refl _ _, Nat.le_refl _⟩
theorem Grw.trans {a b c : World} (h : Grw a b) (k : Grw b c) : Grw a c := ⟨below_next k.below h.below, Nat.le_trans h.drawn k.drawn⟩

end Go.Proofs.Ytioeblljabohbaa
