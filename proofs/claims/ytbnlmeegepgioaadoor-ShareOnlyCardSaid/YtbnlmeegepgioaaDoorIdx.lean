/-
  An array's elements by an index; cells loaded whole. No program is imported.
-/
import Derived.WalkKit
import Derived.Lib.Hide
import Derived.Deep.Onto
import Derived.Maps.AppendAt
namespace Go.Proofs.YtbnlmeegepgioaaDoor
open Go Go.RowKit Go.Lib
set_option linter.unusedVariables false

section
variable {P : Program}
theorem run_index_arr {t e : TypeId} {n i : Nat} {cs : Array Value} {v : Value} {w : World} (h : P.underlying t = some (.array n e)) (hi : i < n) (ha : (isAgg e).run P w = .ok false w) (hs : (sizeOf e).run P w = .ok 1 w) (hv : cs[i]? = some v) :
    (Instr.index t (.agg cs) (.int .i64 (i : Nat))).run P w = .ok v w := by
  have h1 : (0 : Int) ≤ (i : Int) ∧ (i : Int) < (n : Int) := by omega
  simp [Instr.index, asIntOf, run_underlying h, Sem.run_bind, Sem.run_pure, Result.andThen_ok, hi, hs, part, ha, hv]
theorem wp_load_cells {o : Oper} {a : Act} {w : World} {K : Act → World → Prop} {Q : Exit → Act → World → Prop} (ty : TypeId) (x : Operand) (ho : o.op = .load ty x)
    (p : Addr) (hx : a.eval x = .pointer (some p)) (v : Value) (hr : (loadVar ty p).run P w = .ok v w) (h : K (a.put o.dst v) w) : o.wp P a w K Q := by
  unfold Oper.wp execOp
  simp only [ho, hx, Instr.loadAt, Instr.sureAddr, Sem.run_bind, Sem.run_pure, Result.andThen_ok, hr]
  exact h
theorem wpList_load_cells {ops : Array Oper} {rest : List Oper} {o : Oper} {a : Act} {w : World} {Q : Exit → Act → World → Prop} (hgd : o.guard = none) (ty : TypeId) (x : Operand) (ho : o.op = .load ty x)
    (p : Addr) (hx : a.eval x = .pointer (some p)) (v : Value) (hr : (loadVar ty p).run P w = .ok v w) (h : wpList P ops Q rest (a.put o.dst v) w) : wpList P ops Q (o :: rest) a w :=
  wpList_plain hgd fun _ hK => wp_load_cells ty x ho p hx v hr (hK _ _ h)
end
end Go.Proofs.YtbnlmeegepgioaaDoor
