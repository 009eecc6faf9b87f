/-
  Arguments that hold rows of Held, and rows of Want, opened.
-/
import Derived.Test.YtioeblljabohbaaRdF
import Derived.Test.YtioeblljabohbaaArgs2
import Derived.Test.YtioeblljabohbaaBfSe
namespace Go.Proofs.Ytioeblljabohbaa
open Go.ChangeShapes Go.WideShapes Go.ChangeAt Go.RowKit Go.Lib Go.Deep
set_option linter.unusedVariables false

def I64 (z : Int) : Prop := (Lit.int .i64 z).wf = true
def HeW (x : HeI) : Prop := I64 x.1 ∧ I64 x.2.1 ∧ I64 x.2.2.1 ∧ I64 x.2.2.2
def WaW (x : WaI) : Prop := (Lit.int .u32 x.1).wf = true ∧ I64 x.2.1 ∧ I64 x.2.2
def HeArg (w : World) (v : Value) (l : List HeI) : Prop := HRow w v l ∧ l.length ≤ maxLen ∧ ∀ x ∈ l, HeW x
def WaArg (w : World) (v : Value) (l : List WaI) : Prop := WRow w v l ∧ l.length ≤ maxLen ∧ ∀ x ∈ l, WaW x
section
variable {H : Type} {enc : TypeId × Value → H} {W : World}
set_option maxRecDepth 100000 in
theorem bl_of_cells (n : Nat) (cs : List Value) (x : DataW H × List MemPlace) (h : DataW.trod enc Try.prog W 0 (fun _ => true) true n 27 cs = some x) : ∃ a b : Int, cs = [.int .i64 a, .int .i64 b] ∧ I64 a ∧ I64 b := by
  have hs := Try.underlying27
  obtain ⟨xs, m, _, _, hl, hlen, hg⟩ := DataW.trod_struct hs h
  have hC : Try.prog.cellsOf 27 = 2 := by kernel_rfl
  rw [hC] at hl
  have hint : Try.prog.cellsOf 3 = 1 := by kernel_rfl
  match cs, hl with
  | [c0, c1], _ =>
    have g0 : DataW.trod enc Try.prog W 0 (fun _ => true) true m 3 (List.take (Try.prog.cellsOf 3) [c0, c1]) = xs[0]? := hg 0 _ rfl
    have g1 : DataW.trod enc Try.prog W 0 (fun _ => true) true m 3 (List.take (Try.prog.cellsOf 3) [c1]) = xs[1]? := hg 1 _ rfl
    have hx : ∀ i (hi : i < 2), xs[i]? = some (xs[i]'(by rw [hlen]; exact hi)) := fun i hi => List.getElem?_eq_getElem _
    rw [hx 0 (by omega), hint] at g0
    rw [hx 1 (by omega), hint] at g1
    dsimp only [List.take] at g0 g1
    obtain ⟨a0, rfl, w0⟩ := field_int Try.underlying3 g0
    obtain ⟨a1, rfl, w1⟩ := field_int Try.underlying3 g1
    exact ⟨a0, a1, rfl, w0, w1⟩
set_option maxRecDepth 100000 in
theorem he_of_cells (n : Nat) (cs : List Value) (x : DataW H × List MemPlace) (h : DataW.trod enc Try.prog W 0 (fun _ => true) true n 57 cs = some x) : ∃ k : HeI, cs = heI k ∧ HeW k := by
  have hs := Try.underlying57
  obtain ⟨xs, m, _, _, hl, hlen, hg⟩ := DataW.trod_struct hs h
  have hC : Try.prog.cellsOf 57 = 4 := by kernel_rfl
  rw [hC] at hl
  have hint : Try.prog.cellsOf 3 = 1 := by kernel_rfl
  have hblk : Try.prog.cellsOf 27 = 2 := by kernel_rfl
  match cs, hl with
  | [c0, c1, c2, c3], _ =>
    have g0 : DataW.trod enc Try.prog W 0 (fun _ => true) true m 27 (List.take (Try.prog.cellsOf 27) [c0, c1, c2, c3]) = xs[0]? := hg 0 _ rfl
    have g1 : DataW.trod enc Try.prog W 0 (fun _ => true) true m 3 (List.take (Try.prog.cellsOf 3) [c2, c3]) = xs[1]? := hg 1 _ rfl
    have g2 : DataW.trod enc Try.prog W 0 (fun _ => true) true m 3 (List.take (Try.prog.cellsOf 3) [c3]) = xs[2]? := hg 2 _ rfl
    have hx : ∀ i (hi : i < 3), xs[i]? = some (xs[i]'(by rw [hlen]; exact hi)) := fun i hi => List.getElem?_eq_getElem _
    rw [hx 0 (by omega), hblk] at g0
    rw [hx 1 (by omega), hint] at g1
    rw [hx 2 (by omega), hint] at g2
    dsimp only [List.take] at g0 g1 g2
    obtain ⟨a0, b0, e, w0, v0⟩ := bl_of_cells _ _ _ g0
    injection e with e1 e2
    injection e2 with e2 _
    subst e1 e2
    obtain ⟨a1, rfl, w1⟩ := field_int Try.underlying3 g1
    obtain ⟨a2, rfl, w2⟩ := field_int Try.underlying3 g2
    exact ⟨(a0, b0, a1, a2), rfl, w0, v0, w1, w2⟩
set_option maxRecDepth 100000 in
theorem wa_of_cells (n : Nat) (cs : List Value) (x : DataW H × List MemPlace) (h : DataW.trod enc Try.prog W 0 (fun _ => true) true n 51 cs = some x) : ∃ k : WaI, cs = waI k ∧ WaW k := by
  have hs := Try.underlying51
  obtain ⟨xs, m, _, _, hl, hlen, hg⟩ := DataW.trod_struct hs h
  have hC : Try.prog.cellsOf 51 = 3 := by kernel_rfl
  rw [hC] at hl
  have hint : Try.prog.cellsOf 3 = 1 := by kernel_rfl
  have hu : Try.prog.cellsOf 49 = 1 := by kernel_rfl
  match cs, hl with
  | [c0, c1, c2], _ =>
    have g0 : DataW.trod enc Try.prog W 0 (fun _ => true) true m 49 (List.take (Try.prog.cellsOf 49) [c0, c1, c2]) = xs[0]? := hg 0 _ rfl
    have g1 : DataW.trod enc Try.prog W 0 (fun _ => true) true m 3 (List.take (Try.prog.cellsOf 3) [c1, c2]) = xs[1]? := hg 1 _ rfl
    have g2 : DataW.trod enc Try.prog W 0 (fun _ => true) true m 3 (List.take (Try.prog.cellsOf 3) [c2]) = xs[2]? := hg 2 _ rfl
    have hx : ∀ i (hi : i < 3), xs[i]? = some (xs[i]'(by rw [hlen]; exact hi)) := fun i hi => List.getElem?_eq_getElem _
    rw [hx 0 (by omega), hu] at g0
    rw [hx 1 (by omega), hint] at g1
    rw [hx 2 (by omega), hint] at g2
    dsimp only [List.take] at g0 g1 g2
    obtain ⟨a0, rfl, w0⟩ := field_int Try.underlying49 g0
    obtain ⟨a1, rfl, w1⟩ := field_int Try.underlying3 g1
    obtain ⟨a2, rfl, w2⟩ := field_int Try.underlying3 g2
    exact ⟨(a0, a1, a2), rfl, w0, w1, w2⟩
theorem open_wants_arg {v : Value} {d : DataW H} {p : List MemPlace} (h : DataW.Trod enc Try.prog W 0 (fun _ => true) true 43 v d p) (hv : ∃ a len cap, v = .slice a len cap) : ∃ xs, WaArg W v xs :=
  open_rowG 3 waI WaW (by decide) (fun x => rfl) Try.underlying43 (by kernel_rfl) wa_of_cells h hv
theorem open_wantsZ {v : Value} {d : DataW H} {p : List MemPlace} (hz : ∀ k ∈ d.weights Try.prog 43, k ≤ reachBytes) (h : DataW.Trod enc Try.prog W 0 (fun _ => true) true 43 v d p) (hv : ∃ a len cap, v = .slice a len cap) : ∃ xs, WaArg W v xs ∧ xs.length ≤ 5864062014634 := by
  obtain ⟨xs, hx⟩ := open_wants_arg h hv
  refine ⟨xs, hx, ?_⟩
  obtain ⟨a, c, rfl⟩ := hx.1.slice
  have h2 := slice_reach Try.underlying43 h hz
  have hb : Try.prog.bytesOf 51 = 24 := by kernel_rfl
  rw [hb] at h2
  unfold reachBytes at h2
  omega
theorem field_helds {n : Nat} {c : Value} {y : DataW H × List MemPlace} (h : DataW.trod enc Try.prog W 0 (fun _ => true) true n 23 [c] = some y) : ∃ xs, HeArg W c xs :=
  field_rowG 4 heI HeW (by decide) (fun x => rfl) Try.underlying23 (by kernel_rfl) he_of_cells h
end
end Go.Proofs.Ytioeblljabohbaa
