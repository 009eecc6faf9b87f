
/-
  Contracts of package gangerref01's functions: Sub, Mul, End, Up.
-/
import Derived.Test.YtjhabfhpjpkpbaaNumRef3
import Derived.Test.YtjhabfhpjpkpbaaNum4
import Derived.Deep.RegionHeld3
namespace Go.Proofs.Ytjhabfhpjpkpbaa
open Go.ChangeShapes Go.WideShapes Go.ChangeAt Go.RowKit
set_option linter.unusedVariables false

theorem ref_wide_chain {w w1 w2 w3 w4 : World} (b1 : Below w.heap.size w w1) (b2 : Below w1.heap.size w1 w2) (b3 : Below w2.heap.size w2 w3) (b4 : Below w3.heap.size w3 w4) : Below w.heap.size w w4 :=
  have h12 := b1.trans (b2.mono b1.size)
  have h13 := h12.trans (b3.mono h12.size)
  h13.trans (b4.mono h13.size)

theorem fits_mul {A B : Nat} (hA : A ≤ 9223372036854775808) (hB : B ≤ 9223372036854775808) : Fits (A * B) := by
  have : A * B ≤ 9223372036854775808 * 9223372036854775808 := Nat.mul_le_mul hA hB
  unfold Fits; omega




end Go.Proofs.Ytjhabfhpjpkpbaa
