/-
  Two blocks as values: alike, or not.
-/
import Derived.Test.YtcdlfhheolbhaaaYdS
import Derived.Laws.StructEq
import Derived.Shelf.SlicesE.Kit
namespace Go.Proofs.Ytcdlfhheolbhaaa
open Go Go.ChangeShapes Go.WideShapes Go.ChangeAt Go.RowKit Go.Lib Go.Sort Go.Maps
set_option linter.unusedVariables false

def beqB (a b a' b' : Int) : Bool := decide ((a, b) = (a', b'))
theorem blk_eql (a b a' b' : Int) (w : World) : Sem.run Try.prog (binOp .eql 45 (.agg #[.int .i64 a, .int .i64 b]) (.agg #[.int .i64 a', .int .i64 b'])) w = .ok (.bool (beqB a b a' b')) w := by
  have u3 := Try.underlying3
  have a3 := Try.isAgg3
  have z3 := Try.sizeOf3
  have hS : Try.prog.underlying 45 = some (.struct (Try.prog.fieldsOf 45)) := by kernel_rfl
  have hp : Try.prog.stoodInHeld 45 = false := by kernel_rfl
  rw [run_eql_struct, show (10000 : Nat) = 9999 + 1 from rfl, run_equalIn_agg w 9999 45 _ _ hS hp]
  simp only [Program.fieldsOf, Try.underlying45]
  go_simp
  by_cases h1 : a = a' <;> by_cases h2 : b = b' <;> simp [beqB, h1, h2]
theorem blk_neq (a b a' b' : Int) (w : World) : Sem.run Try.prog (binOp .neq 45 (.agg #[.int .i64 a, .int .i64 b]) (.agg #[.int .i64 a', .int .i64 b'])) w = .ok (.bool (!beqB a b a' b')) w := by
  have u3 := Try.underlying3
  have a3 := Try.isAgg3
  have z3 := Try.sizeOf3
  have hS : Try.prog.underlying 45 = some (.struct (Try.prog.fieldsOf 45)) := by kernel_rfl
  have hp : Try.prog.stoodInHeld 45 = false := by kernel_rfl
  rw [run_neq_struct, show (10000 : Nat) = 9999 + 1 from rfl, run_equalIn_agg w 9999 45 _ _ hS hp]
  simp only [Program.fieldsOf, Try.underlying45]
  go_simp
  by_cases h1 : a = a' <;> by_cases h2 : b = b' <;> simp [beqB, h1, h2]
theorem blk_grd (op : BinOp) (x y : Operand) (a b : Array Value) (w : World) : Sem.run Try.prog (eqGuard op 45 x y (.agg a) (.agg b)) w = .ok () w := run_eqGuard_agg w op _ _ _ _ _ (by kernel_rfl)
theorem beqB_nat (a b a' b' : Nat) : beqB a b a' b' = decide (a = a' ∧ b = b') := by
  unfold beqB
  by_cases h1 : a = a' <;> by_cases h2 : b = b' <;> simp [h1, h2] <;> omega
end Go.Proofs.Ytcdlfhheolbhaaa
