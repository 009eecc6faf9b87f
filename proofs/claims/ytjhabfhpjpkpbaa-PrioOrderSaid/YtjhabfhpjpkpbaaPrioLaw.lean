/-
  What the laws of layer 12 take together.
-/
import Derived.Test.YtjhabfhpjpkpbaaPrioRefP
import Derived.Test.YtjhabfhpjpkpbaaLaw
namespace Go.Proofs.Ytjhabfhpjpkpbaa
open Go.ChangeShapes Go.WideShapes Go.ChangeAt Go.RowKit
set_option linter.unusedVariables false

theorem wf_u32_0 {n : Int} (h : (Lit.int .u32 n).wf = true) : 0 ≤ n := by
  have h' : 0 ≤ n ∧ n ≤ 4294967295 := by simpa [Lit.wf, IntKind.min, IntKind.max, IntKind.bits, IntKind.signed] using h
  exact h'.1

/-- What is asked of a priority that there is. -/
theorem prE_zero {f a s q p id since nice factor now all : Int} : prE f a s q p id since nice factor now all = 0 ↔ prOk f a s q p id since nice factor now all = true := by
  unfold prE; split <;> simp_all
theorem ok_prop {f a s q p id since nice factor now all : Int} (hid : 0 ≤ id) (h : prOk f a s q p id since nice factor now all = true) : okProp f a s q p id since nice factor now all := by
  by_cases k : okProp f a s q p id since nice factor now all
  · exact k
  · rw [prOk_no hid k] at h; cases h

end Go.Proofs.Ytjhabfhpjpkpbaa
