/-
  Arguments that are rows of accounts, opened.
-/
import Derived.Test.YtbnlmeegepgioaaDoorRdG
import Derived.Test.YtbnlmeegepgioaaDoorCfB
import Derived.Test.YtbnlmeegepgioaaDoorArgs2
namespace Go.Proofs.YtbnlmeegepgioaaDoor
open Go.ChangeShapes Go.WideShapes Go.ChangeAt Go.RowKit Go.Lib Go.Deep
set_option linter.unusedVariables false

def AccIn (a : AcT) : Prop := a.1.size ≤ maxLen ∧ a.2.1.size ≤ maxLen ∧ (Lit.int .i64 a.2.2).wf = true
/-- v is a row of accounts that came in. -/
def AcArg (w : World) (v : Value) (xs : List AcT) : Prop := AcRow w v xs ∧ xs.length ≤ maxLen ∧ ∀ x ∈ xs, AccIn x
section
variable {H : Type} {enc : TypeId × Value → H} {W : World}
set_option maxRecDepth 100000 in
theorem ac_of_cells (n : Nat) (cs : List Value) (x : DataW H × List MemPlace) (h : DataW.trod enc Tryd.prog W 0 (fun _ => true) true n 37 cs = some x) : ∃ k : AcT, cs = encAc k ∧ AccIn k := by
  have hs := Tryd.underlying37
  obtain ⟨xs, m, _, _, hl, hlen, hg⟩ := DataW.trod_struct hs h
  have hC : Tryd.prog.cellsOf 37 = 3 := by kernel_rfl
  rw [hC] at hl
  have hint : Tryd.prog.cellsOf 3 = 1 := by kernel_rfl
  have hstr : Tryd.prog.cellsOf 9 = 1 := by kernel_rfl
  match cs, hl with
  | [c0, c1, c2], _ =>
    have g0 : DataW.trod enc Tryd.prog W 0 (fun _ => true) true m 9 (List.take (Tryd.prog.cellsOf 9) [c0, c1, c2]) = xs[0]? := hg 0 _ rfl
    have g1 : DataW.trod enc Tryd.prog W 0 (fun _ => true) true m 9 (List.take (Tryd.prog.cellsOf 9) [c1, c2]) = xs[1]? := hg 1 _ rfl
    have g2 : DataW.trod enc Tryd.prog W 0 (fun _ => true) true m 3 (List.take (Tryd.prog.cellsOf 3) [c2]) = xs[2]? := hg 2 _ rfl
    have hx : ∀ i (hi : i < 3), xs[i]? = some (xs[i]'(by rw [hlen]; exact hi)) := fun i hi => List.getElem?_eq_getElem _
    rw [hx 0 (by omega), hstr] at g0
    rw [hx 1 (by omega), hstr] at g1
    rw [hx 2 (by omega), hint] at g2
    dsimp only [List.take] at g0 g1 g2
    obtain ⟨a0, rfl, w0⟩ := field_string Tryd.underlying9 g0
    obtain ⟨a1, rfl, w1⟩ := field_string Tryd.underlying9 g1
    obtain ⟨a2, rfl, w2⟩ := field_int Tryd.underlying3 g2
    exact ⟨(a0, a1, a2), rfl, w0, w1, w2⟩
theorem open_accs_arg {v : Value} {d : DataW H} {p : List MemPlace} (h : DataW.Trod enc Tryd.prog W 0 (fun _ => true) true 22 v d p) (hv : ∃ a len cap, v = .slice a len cap) : ∃ xs, AcArg W v xs :=
  open_rowG 3 encAc AccIn (by decide) (fun x => rfl) Tryd.underlying22 (by kernel_rfl) ac_of_cells h hv
end
end Go.Proofs.YtbnlmeegepgioaaDoor
