/-
  Arguments that are dependencies, and rows of Where, opened.
-/
import Derived.Test.YtpobghdiecfoaaaDoorRdZ
import Derived.Test.YtpobghdiecfoaaaDoorDeMy
import Derived.Test.YtpobghdiecfoaaaDoorDeKn
namespace Go.Proofs.YtpobghdiecfoaaaDoor
open Go.ChangeShapes Go.WideShapes Go.ChangeAt Go.RowKit Go.Lib Go.Deep
set_option linter.unusedVariables false

theorem u32_wf8 {x : Int} (h : (Lit.int .u32 x).wf = true) : 0 ≤ x ∧ x < 4294967296 := by
  have h2 : 0 ≤ x ∧ x ≤ 4294967295 := by simpa [Lit.wf, IntKind.min, IntKind.max, IntKind.bits, IntKind.signed] using h
  omega
def NdOkA (W : World) (p : NdM) : Prop := (Lit.int .i64 p.1).wf = true ∧ URow W p.2.1 p.2.2 ∧ p.2.2.length ≤ 140737488351232 ∧ ∀ j ∈ p.2.2, j < 4294967296
def WhOkA (p : Wh) : Prop := p.1 < 4294967296 ∧ (Lit.int .i64 p.2).wf = true
/-- A row of Where as it is handed in. -/
def WhArg (w : World) (v : Value) (l : List Wh) : Prop := RowG 2 whV w v l ∧ l.length ≤ 281474976710656 ∧ ∀ p ∈ l, p.1 < 4294967296 ∧ (Lit.int .i64 p.2).wf = true
section
variable {H : Type} {enc : TypeId × Value → H} {W : World}
theorem u_of_cells (n : Nat) (cs : List Value) (x : DataW H × List MemPlace) (h : DataW.trod enc Tryd.prog W 0 (fun _ => true) true n 38 cs = some x) : ∃ k : Nat, cs = uV k ∧ k < 4294967296 := by
  obtain ⟨z, hz, _, hw⟩ := DataW.trod_int Tryd.underlying38 h
  obtain ⟨h0, h1⟩ := u32_wf8 hw
  obtain ⟨k, rfl⟩ := Int.eq_ofNat_of_zero_le h0
  exact ⟨k, by simpa [uV] using hz, by omega⟩
set_option maxRecDepth 100000 in
theorem nd_of_cells (n : Nat) (cs : List Value) (x : DataW H × List MemPlace) (h : DataW.trod enc Tryd.prog W 0 (fun _ => true) true n 46 cs = some x) (hz : ∀ k ∈ x.1.weights Tryd.prog 46, k ≤ reachBytes) : ∃ p : NdM, cs = ndV p ∧ NdOkA W p := by
  obtain ⟨hl, hg⟩ := cells_structZ Tryd.underlying46 (by kernel_rfl) (by kernel_rfl) h hz
  obtain ⟨c0, y0, n0, e0, t0, z0⟩ := hg 0 _ rfl
  obtain ⟨c1, y1, n1, e1, t1, z1⟩ := hg 1 _ rfl
  obtain ⟨a0, rfl, w0⟩ := field_int Tryd.underlying3 t0
  obtain ⟨js, h1, h2, h3⟩ := field_rowZ 1 uV (fun k => k < 4294967296) (by decide) uV_len Tryd.underlying34 (by kernel_rfl) (fun n cs x h _ => u_of_cells n cs x h) t1 z1
  have hb : Tryd.prog.bytesOf 38 = 4 := by kernel_rfl
  rw [hb] at h2
  have h2' : js.length * 4 ≤ 140737488351232 := h2
  refine ⟨(a0, c1, js), ?_, w0, h1, by dsimp only; omega, h3⟩
  match cs, hl, e0, e1 with
  | [a, b], _, e0, e1 =>
    simp at e0 e1
    rw [e0, e1]; rfl
set_option maxRecDepth 100000 in
theorem wh_of_cells (n : Nat) (cs : List Value) (x : DataW H × List MemPlace) (h : DataW.trod enc Tryd.prog W 0 (fun _ => true) true n 54 cs = some x) (hz : ∀ k ∈ x.1.weights Tryd.prog 54, k ≤ reachBytes) : ∃ p : Wh, cs = whV p ∧ WhOkA p := by
  obtain ⟨hl, hg⟩ := cells_structZ Tryd.underlying54 (by kernel_rfl) (by kernel_rfl) h hz
  obtain ⟨c0, y0, n0, e0, t0, z0⟩ := hg 0 _ rfl
  obtain ⟨c1, y1, n1, e1, t1, z1⟩ := hg 1 _ rfl
  obtain ⟨a0, rfl, w0⟩ := field_int Tryd.underlying38 t0
  obtain ⟨a1, rfl, w1⟩ := field_int Tryd.underlying3 t1
  obtain ⟨h0, h1⟩ := u32_wf8 w0
  obtain ⟨k, rfl⟩ := Int.eq_ofNat_of_zero_le h0
  refine ⟨(k, a1), ?_, by dsimp only; omega, w1⟩
  match cs, hl, e0, e1 with
  | [a, b], _, e0, e1 =>
    simp at e0 e1
    rw [e0, e1]; rfl
/-- A field that is a row of needs. -/
theorem field_needs {n : Nat} {c : Value} {y : DataW H × List MemPlace} (h : DataW.trod enc Tryd.prog W 0 (fun _ => true) true n 22 [c] = some y) (hz : ∀ k ∈ y.1.weights Tryd.prog 22, k ≤ reachBytes) : ∃ l : List NdM, NRx W c l := by
  obtain ⟨l, h1, h2, h3⟩ := field_rowZ 2 ndV (NdOkA W) (by decide) ndV_len Tryd.underlying22 (by kernel_rfl) nd_of_cells h hz
  have hb : Tryd.prog.bytesOf 46 = 32 := by kernel_rfl
  rw [hb] at h2
  have h2' : l.length * 32 ≤ 140737488351232 := h2
  exact ⟨l, h1, fun p hp => (h3 p hp).2.1, by omega, fun p hp => by have := (h3 p hp).2.2.1; omega, fun p hp => (h3 p hp).2.2.2⟩
theorem open_wheres {v : Value} {d : DataW H} {p : List MemPlace} (hz : ∀ k ∈ d.weights Tryd.prog 48, k ≤ reachBytes) (h : DataW.Trod enc Tryd.prog W 0 (fun _ => true) true 48 v d p) (hv : ∃ a len cap, v = .slice a len cap) : ∃ l : List Wh, WhArg W v l := by
  obtain ⟨l, h1, h2, h3⟩ := open_rowZ 2 whV WhOkA (by decide) whV_len Tryd.underlying48 (by kernel_rfl) wh_of_cells h hz hv
  have hb : Tryd.prog.bytesOf 54 = 16 := by kernel_rfl
  rw [hb] at h2
  have h2' : l.length * 16 ≤ 140737488351232 := h2
  exact ⟨l, h1, by omega, h3⟩
end
end Go.Proofs.YtpobghdiecfoaaaDoor
