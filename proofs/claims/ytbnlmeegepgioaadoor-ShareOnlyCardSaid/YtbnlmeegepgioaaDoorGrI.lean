/-
  A row of integers that came in, read.
-/
import Derived.Test.YtbnlmeegepgioaaDoorGRw
import Derived.Test.YtbnlmeegepgioaaDoorArgs2
namespace Go.Proofs.YtbnlmeegepgioaaDoor
open Go Go.RowKit
set_option linter.unusedVariables false

theorem grow_of_ints {w : World} {v : Value} {zs : List Int} (h : IntsArg w .i64 v zs) : GRow w v zs := by
  rcases h with ⟨rfl, a, c, rfl⟩ | ⟨b, off, c, rfl, h0, _, hb, hc, _⟩
  · exact .inl ⟨rfl, a, c, rfl⟩
  · exact .inr ⟨b, off, c, rfl, hc⟩
theorem ints_top {w : World} {v : Value} {zs : List Int} (h : IntsArg w .i64 v zs) : ∀ x ∈ zs, -9223372036854775808 ≤ x ∧ x ≤ 9223372036854775807 := by
  rcases h with ⟨rfl, a, c, rfl⟩ | ⟨b, off, c, rfl, h0, _, hb, hc, h⟩
  · intro x hx; cases hx
  · intro x hx
    have := h x hx
    simpa [Lit.wf, IntKind.min, IntKind.max, IntKind.bits, IntKind.signed] using this
end Go.Proofs.YtbnlmeegepgioaaDoor
