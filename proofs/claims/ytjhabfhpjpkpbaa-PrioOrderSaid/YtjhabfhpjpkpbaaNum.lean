
/-
  Contracts of package num's functions, and of math/bits where the shelf has none.
-/
import Derived.Test.YtjhabfhpjpkpbaaRows
import Derived.Test.YtjhabfhpjpkpbaaMath
import Derived.Test.YtjhabfhpjpkpbaaShelf
import Derived.WalkKit
import Derived.ProofKit
import Derived.OpenShut
import Derived.IntWalk
import Derived.Lib.Hide
namespace Go.Proofs.Ytjhabfhpjpkpbaa
open Go.ChangeShapes Go.WideShapes Go.ChangeAt Go.RowKit
set_option linter.unusedVariables false

theorem ret_tup2 {k l : IntKind} {a b a' b' : Int} (h : a = a') (h' : b = b') : Ending.returned (.tuple #[.int k a, .int l b]) = .returned (.tuple #[.int k a', .int l b']) := by rw [h, h']
theorem ret_int {k : IntKind} {a b : Int} (h : a = b) : Ending.returned (.int k a) = .returned (.int k b) := by rw [h]






end Go.Proofs.Ytjhabfhpjpkpbaa
