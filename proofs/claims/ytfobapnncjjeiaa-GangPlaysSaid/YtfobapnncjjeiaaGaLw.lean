/-
  What the laws on a matrix share.
-/
import Derived.Test.YtfobapnncjjeiaaGaMt
import Derived.Test.YtfobapnncjjeiaaGaUp
namespace Go.Proofs.Ytfobapnncjjeiaa
open Go Go.ChangeShapes Go.WideShapes Go.ChangeAt Go.RowKit Go.Lib Go.Deep
set_option linter.unusedVariables false

theorem GM.beside {w w' : World} {m n a : Nat} {own : Nat → Prop} {l : List Ce} {v : Value} (h : GM w m own n a l) (hb : Below w.heap.size w w') (hv : ∀ g, v.ownBlock = some g → w.heap.size ≤ g ∧ g < w'.heap.size) : GM w' m (fun k => own k ∧ v.ownBlock ≠ some k) n a l := by
  cases he : v.ownBlock with
  | none =>
    have : (fun k => own k ∧ (none : Option Nat) ≠ some k) = own := by funext k; simp
    rw [this]; exact h.kept hb
  | some g =>
    have : (fun k => own k ∧ (some g : Option Nat) ≠ some k) = fun k => own k ∧ k ≠ g := by
      funext k; simp only [ne_eq, Option.some.injEq, eq_comm]
    rw [this]; exact h.minus hb (hv g he).1 (hv g he).2
theorem uni_keep {n d : Nat} {l0 l : List Ce} (h0 : OkG n l0) (h : URun l0 l0.length l d) : NoLater l0 (closeG l) ∧ Settled l ∧ closeG l = l := by
  have hi := h.inv h0
  have hs := hi.settled
  refine ⟨?_, hs, hs.close⟩
  rw [hs.close]
  exact ⟨by have := hi.ids.length_eq; simpa using this, fun c hc => hi.same c hc⟩
/-- A bool tells of a fact. -/
def BIs (β : Bool) (p : Prop) : Prop := β = true ↔ p
theorem BIs.yes {p : Prop} (h : p) : BIs true p := ⟨fun _ => h, fun _ => rfl⟩
theorem BIs.no {p : Prop} (h : ¬ p) : BIs false p := ⟨fun e => (by cases e), fun k => absurd k h⟩
theorem BIs.t {p : Prop} (h : BIs true p) : p := h.1 rfl
theorem BIs.f {p : Prop} (h : BIs false p) : ¬ p := fun k => by have := h.2 k; cases this
theorem BIs.all {β : Bool} {p : Prop} (h : BIs β p) (k : p) : β = true := h.2 k
def eqB (a b a' b' : Int) : Bool := decide (a = a' ∧ b = b')
set_option maxRecDepth 100000 in
theorem bl_eql (a b a' b' : Int) (w : World) : Sem.run Try.prog (binOp .eql 46 (.agg #[.int .i64 a, .int .i64 b]) (.agg #[.int .i64 a', .int .i64 b'])) w = .ok (.bool (eqB a b a' b')) w := by
  have u3 := Try.underlying3
  have a3 := Try.isAgg3
  have z3 := Try.sizeOf3
  have hS : Try.prog.underlying 46 = some (.struct (Try.prog.fieldsOf 46)) := by kernel_rfl
  have hp : Try.prog.stoodInHeld 46 = false := by kernel_rfl
  rw [run_eql_struct, show (10000 : Nat) = 9999 + 1 from rfl, run_equalIn_agg w 9999 46 _ _ hS hp]
  simp only [Program.fieldsOf, Try.underlying46]
  go_simp
  by_cases h1 : a = a' <;> by_cases h2 : b = b' <;> simp [eqB, h1, h2]
theorem bl_grd (op : BinOp) (x y : Operand) (a b : Array Value) (w : World) : Sem.run Try.prog (eqGuard op 46 x y (.agg a) (.agg b)) w = .ok () w := run_eqGuard_agg w op _ _ _ _ _ (by kernel_rfl)
end Go.Proofs.Ytfobapnncjjeiaa
