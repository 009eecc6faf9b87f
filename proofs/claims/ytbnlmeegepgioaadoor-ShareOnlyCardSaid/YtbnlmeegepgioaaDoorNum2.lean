
/-
  Contracts of package num's functions: Mul, Times, Div, Sum.
-/
import Derived.Test.YtbnlmeegepgioaaDoorNum
import Derived.Handy
namespace Go.Proofs.YtbnlmeegepgioaaDoor
open Go.ChangeShapes Go.WideShapes Go.ChangeAt Go.RowKit
set_option linter.unusedVariables false

theorem mul64_any (x y : Nat) (w : World) (hx : x < 18446744073709551616) (hy : y < 18446744073709551616) :
    Calls Tryd.prog 59 #[.int .u64 x, .int .u64 y] w fun e w' => e = .returned (.tuple #[.int .u64 (hiW (x * y)), .int .u64 (loW (x * y))]) ∧ w' = w :=
  Tryd.bits_Mul64 x y hx hy w


end Go.Proofs.YtbnlmeegepgioaaDoor
