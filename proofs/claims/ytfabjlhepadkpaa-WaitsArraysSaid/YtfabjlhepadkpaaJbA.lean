/-
  Arguments that are rows of jobs, opened.
-/
import Derived.Test.YtfabjlhepadkpaaRdF
import Derived.Test.YtfabjlhepadkpaaArgs2
import Derived.Test.YtfabjlhepadkpaaJbP
namespace Go.Proofs.Ytfabjlhepadkpaa
open Go.ChangeShapes Go.WideShapes Go.ChangeAt Go.RowKit Go.Lib Go.Deep
set_option linter.unusedVariables false

theorem u32_wfJ {x : Int} (h : (Lit.int .u32 x).wf = true) : 0 ≤ x ∧ x < 4294967296 := by
  have h2 : 0 ≤ x ∧ x ≤ 4294967295 := by simpa [Lit.wf, IntKind.min, IntKind.max, IntKind.bits, IntKind.signed] using h
  omega
def I64J (z : Int) : Prop := (Lit.int .i64 z).wf = true
/-- A row of needs as it is handed in, of any length. -/
structure NRp (w : World) (v : Value) (l : List NdM) : Prop where
  row : RowG 2 ndV w v l
  jobs : ∀ p ∈ l, URow w p.2.1 p.2.2
  small : ∀ p ∈ l, ∀ j ∈ p.2.2, j < 4294967296
theorem NRp.kept {w w' : World} {v : Value} {l : List NdM} (h : NRp w v l) (hb : Below w.heap.size w w') : NRp w' v l := ⟨h.row.kept hb, fun p hp => (h.jobs p hp).kept hb, h.small⟩
def NdA (W : World) (p : NdM) : Prop := URow W p.2.1 p.2.2 ∧ ∀ j ∈ p.2.2, j < 4294967296
structure JbA (W : World) (j : Jb) : Prop where
  nds : NRp W j.dv j.nd
  als : GRow W j.av j.al
  ok : JbOk j
theorem JbA.kept {w w' : World} {j : Jb} (h : JbA w j) (hb : Below w.heap.size w w') : JbA w' j := ⟨h.nds.kept hb, h.als.kept hb, h.ok⟩
/-- A row of jobs as it is handed in. -/
structure JArg (w : World) (v : Value) (l : List Jb) : Prop where
  row : RowG 26 jbV w v l
  all : ∀ j ∈ l, JbA w j
theorem JArg.kept {w w' : World} {v : Value} {l : List Jb} (h : JArg w v l) (hb : Below w.heap.size w w') : JArg w' v l := ⟨h.row.kept hb, fun j hj => (h.all j hj).kept hb⟩
def FewJ (l : List Jb) : Prop := l.length ≤ 60 ∧ ∀ j ∈ l, j.nd.length ≤ 30 ∧ ∀ p ∈ j.nd, p.2.2.length ≤ 30
theorem NRp.few {w : World} {v : Value} {l : List NdM} (h : NRp w v l) (h1 : l.length ≤ 30) (h2 : ∀ p ∈ l, p.2.2.length ≤ 30) : NRw w v l := ⟨h.row, h.jobs, by omega, fun p hp => by have := h2 p hp; omega, h.small⟩
theorem JArg.few {w : World} {v : Value} {l : List Jb} (h : JArg w v l) (hf : FewJ l) : JRw w v l :=
  ⟨h.row, fun j hj => (h.all j hj).nds.few (hf.2 j hj).1 (hf.2 j hj).2, fun j hj => (h.all j hj).als, fun j hj => (h.all j hj).ok, by have := hf.1; omega⟩
section
variable {H : Type} {enc : TypeId × Value → H} {W : World}
theorem u_of_cellsJ (n : Nat) (cs : List Value) (x : DataW H × List MemPlace) (h : DataW.trod enc Try.prog W 0 (fun _ => true) true n 23 cs = some x) : ∃ k : Nat, cs = uV k ∧ k < 4294967296 := by
  obtain ⟨z, hz, _, hw⟩ := DataW.trod_int Try.underlying23 h
  obtain ⟨h0, h1⟩ := u32_wfJ hw
  obtain ⟨k, rfl⟩ := Int.eq_ofNat_of_zero_le h0
  exact ⟨k, by simpa [uV] using hz, by omega⟩
set_option maxRecDepth 100000 in
theorem nd_of_cellsJ (n : Nat) (cs : List Value) (x : DataW H × List MemPlace) (h : DataW.trod enc Try.prog W 0 (fun _ => true) true n 58 cs = some x) : ∃ p : NdM, cs = ndV p ∧ NdA W p := by
  have hs := Try.underlying58
  obtain ⟨xs, m, _, _, hl, hlen, hg⟩ := DataW.trod_struct hs h
  have hC : Try.prog.cellsOf 58 = 2 := by kernel_rfl
  rw [hC] at hl
  have z_0 : Try.prog.cellsOf 45 = 1 := by kernel_rfl
  have z_1 : Try.prog.cellsOf 3 = 1 := by kernel_rfl
  match cs, hl with
  | [c0, c1], _ =>
    have g0 : DataW.trod enc Try.prog W 0 (fun _ => true) true m 3 (List.take (Try.prog.cellsOf 3) [c0, c1]) = xs[0]? := hg 0 _ rfl
    have g1 : DataW.trod enc Try.prog W 0 (fun _ => true) true m 45 (List.take (Try.prog.cellsOf 45) [c1]) = xs[1]? := hg 1 _ rfl
    have hx : ∀ i (hi : i < 2), xs[i]? = some (xs[i]'(by rw [hlen]; exact hi)) := fun i hi => List.getElem?_eq_getElem _
    rw [hx 0 (by omega), z_1] at g0
    rw [hx 1 (by omega), z_0] at g1
    dsimp only [List.take] at g0 g1
    obtain ⟨a0, rfl, w0⟩ := field_int Try.underlying3 g0
    obtain ⟨js, h1, _, h3⟩ := field_rowG 1 uV (fun k => k < 4294967296) (by decide) uV_len Try.underlying45 (by kernel_rfl) u_of_cellsJ g1
    exact ⟨(a0, c1, js), rfl, h1, h3⟩
theorem field_needsJ {n : Nat} {c : Value} {y : DataW H × List MemPlace} (h : DataW.trod enc Try.prog W 0 (fun _ => true) true n 33 [c] = some y) : ∃ l : List NdM, NRp W c l := by
  obtain ⟨l, h1, _, h3⟩ := field_rowG 2 ndV (NdA W) (by decide) ndV_len Try.underlying33 (by kernel_rfl) nd_of_cellsJ h
  exact ⟨l, h1, fun p hp => (h3 p hp).1, fun p hp => (h3 p hp).2⟩
set_option maxRecDepth 100000 in
theorem de_of_cellsJ (n : Nat) (cs : List Value) (x : DataW H × List MemPlace) (h : DataW.trod enc Try.prog W 0 (fun _ => true) true n 35 cs = some x) : ∃ (any : Bool) (dv : Value) (nd : List NdM), cs = [.bool any, dv] ∧ NRp W dv nd := by
  have hs := Try.underlying35
  obtain ⟨xs, m, _, _, hl, hlen, hg⟩ := DataW.trod_struct hs h
  have hC : Try.prog.cellsOf 35 = 2 := by kernel_rfl
  rw [hC] at hl
  have z_0 : Try.prog.cellsOf 33 = 1 := by kernel_rfl
  have z_1 : Try.prog.cellsOf 4 = 1 := by kernel_rfl
  match cs, hl with
  | [c0, c1], _ =>
    have g0 : DataW.trod enc Try.prog W 0 (fun _ => true) true m 4 (List.take (Try.prog.cellsOf 4) [c0, c1]) = xs[0]? := hg 0 _ rfl
    have g1 : DataW.trod enc Try.prog W 0 (fun _ => true) true m 33 (List.take (Try.prog.cellsOf 33) [c1]) = xs[1]? := hg 1 _ rfl
    have hx : ∀ i (hi : i < 2), xs[i]? = some (xs[i]'(by rw [hlen]; exact hi)) := fun i hi => List.getElem?_eq_getElem _
    rw [hx 0 (by omega), z_1] at g0
    rw [hx 1 (by omega), z_0] at g1
    dsimp only [List.take] at g0 g1
    obtain ⟨a0, rfl⟩ := field_bool Try.underlying4 g0
    obtain ⟨nd, h1⟩ := field_needsJ g1
    exact ⟨a0, c1, nd, rfl, h1⟩
set_option maxRecDepth 100000 in
theorem ar_of_cellsJ (n : Nat) (cs : List Value) (x : DataW H × List MemPlace) (h : DataW.trod enc Try.prog W 0 (fun _ => true) true n 32 cs = some x) : ∃ (av : Value) (al : List Int) (most : Int), cs = [av, .int .i64 most] ∧ GRow W av al ∧ I64J most := by
  have hs := Try.underlying32
  obtain ⟨xs, m, _, _, hl, hlen, hg⟩ := DataW.trod_struct hs h
  have hC : Try.prog.cellsOf 32 = 2 := by kernel_rfl
  rw [hC] at hl
  have z_0 : Try.prog.cellsOf 30 = 1 := by kernel_rfl
  have z_1 : Try.prog.cellsOf 3 = 1 := by kernel_rfl
  match cs, hl with
  | [c0, c1], _ =>
    have g0 : DataW.trod enc Try.prog W 0 (fun _ => true) true m 30 (List.take (Try.prog.cellsOf 30) [c0, c1]) = xs[0]? := hg 0 _ rfl
    have g1 : DataW.trod enc Try.prog W 0 (fun _ => true) true m 3 (List.take (Try.prog.cellsOf 3) [c1]) = xs[1]? := hg 1 _ rfl
    have hx : ∀ i (hi : i < 2), xs[i]? = some (xs[i]'(by rw [hlen]; exact hi)) := fun i hi => List.getElem?_eq_getElem _
    rw [hx 0 (by omega), z_0] at g0
    rw [hx 1 (by omega), z_1] at g1
    dsimp only [List.take] at g0 g1
    obtain ⟨al, h1, _, _⟩ := field_growG Try.underlying30 Try.underlying3 (by kernel_rfl) g0
    obtain ⟨a1, rfl, w1⟩ := field_int Try.underlying3 g1
    exact ⟨c0, al, a1, rfl, h1, w1⟩
set_option maxRecDepth 100000 in
theorem bl_of_cellsJ (n : Nat) (cs : List Value) (x : DataW H × List MemPlace) (h : DataW.trod enc Try.prog W 0 (fun _ => true) true n 39 cs = some x) : ∃ a b : Int, cs = [.int .i64 a, .int .i64 b] ∧ I64J a ∧ I64J b := by
  have hs := Try.underlying39
  obtain ⟨xs, m, _, _, hl, hlen, hg⟩ := DataW.trod_struct hs h
  have hC : Try.prog.cellsOf 39 = 2 := by kernel_rfl
  rw [hC] at hl
  have z_0 : Try.prog.cellsOf 3 = 1 := by kernel_rfl
  match cs, hl with
  | [c0, c1], _ =>
    have g0 : DataW.trod enc Try.prog W 0 (fun _ => true) true m 3 (List.take (Try.prog.cellsOf 3) [c0, c1]) = xs[0]? := hg 0 _ rfl
    have g1 : DataW.trod enc Try.prog W 0 (fun _ => true) true m 3 (List.take (Try.prog.cellsOf 3) [c1]) = xs[1]? := hg 1 _ rfl
    have hx : ∀ i (hi : i < 2), xs[i]? = some (xs[i]'(by rw [hlen]; exact hi)) := fun i hi => List.getElem?_eq_getElem _
    rw [hx 0 (by omega), z_0] at g0
    rw [hx 1 (by omega), z_0] at g1
    dsimp only [List.take] at g0 g1
    obtain ⟨a0, rfl, w0⟩ := field_int Try.underlying3 g0
    obtain ⟨a1, rfl, w1⟩ := field_int Try.underlying3 g1
    exact ⟨a0, a1, rfl, w0, w1⟩
/-- A spec's fifteen cells. -/
def spV (name acct prt qos : ByteArray) (size limit : Int) (av : Value) (most : Int) (any : Bool) (dv : Value) (nice beg : Int) (hold requ : Bool) (run : ByteArray) : List Value :=
  [.string name, .string acct, .string prt, .string qos, .int .i64 size, .int .i64 limit, av, .int .i64 most, .bool any, dv, .int .i64 nice, .int .i64 beg, .bool hold, .bool requ, .string run]
set_option maxRecDepth 100000 in
theorem sp_of_cellsJ (n : Nat) (cs : List Value) (x : DataW H × List MemPlace) (h : DataW.trod enc Try.prog W 0 (fun _ => true) true n 37 cs = some x) : ∃ name acct prt qos size limit av al most any dv nd nice beg hold requ run, cs = spV name acct prt qos size limit av most any dv nice beg hold requ run ∧ GRow W av al ∧ NRp W dv nd ∧ (name.size ≤ maxLen ∧ acct.size ≤ maxLen ∧ prt.size ≤ maxLen ∧ qos.size ≤ maxLen ∧ run.size ≤ maxLen) ∧ ∀ z ∈ [size, limit, most, nice, beg], I64J z := by
  have hs := Try.underlying37
  obtain ⟨xs, m, _, _, hl, hlen, hg⟩ := DataW.trod_struct hs h
  have hC : Try.prog.cellsOf 37 = 15 := by kernel_rfl
  rw [hC] at hl
  have z_0 : Try.prog.cellsOf 32 = 2 := by kernel_rfl
  have z_1 : Try.prog.cellsOf 35 = 2 := by kernel_rfl
  have z_2 : Try.prog.cellsOf 4 = 1 := by kernel_rfl
  have z_3 : Try.prog.cellsOf 3 = 1 := by kernel_rfl
  have z_4 : Try.prog.cellsOf 9 = 1 := by kernel_rfl
  match cs, hl with
  | [c0, c1, c2, c3, c4, c5, c6, c7, c8, c9, c10, c11, c12, c13, c14], _ =>
    have g0 : DataW.trod enc Try.prog W 0 (fun _ => true) true m 9 (List.take (Try.prog.cellsOf 9) [c0, c1, c2, c3, c4, c5, c6, c7, c8, c9, c10, c11, c12, c13, c14]) = xs[0]? := hg 0 _ rfl
    have g1 : DataW.trod enc Try.prog W 0 (fun _ => true) true m 9 (List.take (Try.prog.cellsOf 9) [c1, c2, c3, c4, c5, c6, c7, c8, c9, c10, c11, c12, c13, c14]) = xs[1]? := hg 1 _ rfl
    have g2 : DataW.trod enc Try.prog W 0 (fun _ => true) true m 9 (List.take (Try.prog.cellsOf 9) [c2, c3, c4, c5, c6, c7, c8, c9, c10, c11, c12, c13, c14]) = xs[2]? := hg 2 _ rfl
    have g3 : DataW.trod enc Try.prog W 0 (fun _ => true) true m 9 (List.take (Try.prog.cellsOf 9) [c3, c4, c5, c6, c7, c8, c9, c10, c11, c12, c13, c14]) = xs[3]? := hg 3 _ rfl
    have g4 : DataW.trod enc Try.prog W 0 (fun _ => true) true m 3 (List.take (Try.prog.cellsOf 3) [c4, c5, c6, c7, c8, c9, c10, c11, c12, c13, c14]) = xs[4]? := hg 4 _ rfl
    have g5 : DataW.trod enc Try.prog W 0 (fun _ => true) true m 3 (List.take (Try.prog.cellsOf 3) [c5, c6, c7, c8, c9, c10, c11, c12, c13, c14]) = xs[5]? := hg 5 _ rfl
    have g6 : DataW.trod enc Try.prog W 0 (fun _ => true) true m 32 (List.take (Try.prog.cellsOf 32) [c6, c7, c8, c9, c10, c11, c12, c13, c14]) = xs[6]? := hg 6 _ rfl
    have g7 : DataW.trod enc Try.prog W 0 (fun _ => true) true m 35 (List.take (Try.prog.cellsOf 35) [c8, c9, c10, c11, c12, c13, c14]) = xs[7]? := hg 7 _ rfl
    have g8 : DataW.trod enc Try.prog W 0 (fun _ => true) true m 3 (List.take (Try.prog.cellsOf 3) [c10, c11, c12, c13, c14]) = xs[8]? := hg 8 _ rfl
    have g9 : DataW.trod enc Try.prog W 0 (fun _ => true) true m 3 (List.take (Try.prog.cellsOf 3) [c11, c12, c13, c14]) = xs[9]? := hg 9 _ rfl
    have g10 : DataW.trod enc Try.prog W 0 (fun _ => true) true m 4 (List.take (Try.prog.cellsOf 4) [c12, c13, c14]) = xs[10]? := hg 10 _ rfl
    have g11 : DataW.trod enc Try.prog W 0 (fun _ => true) true m 4 (List.take (Try.prog.cellsOf 4) [c13, c14]) = xs[11]? := hg 11 _ rfl
    have g12 : DataW.trod enc Try.prog W 0 (fun _ => true) true m 9 (List.take (Try.prog.cellsOf 9) [c14]) = xs[12]? := hg 12 _ rfl
    have hx : ∀ i (hi : i < 13), xs[i]? = some (xs[i]'(by rw [hlen]; exact hi)) := fun i hi => List.getElem?_eq_getElem _
    rw [hx 0 (by omega), z_4] at g0
    rw [hx 1 (by omega), z_4] at g1
    rw [hx 2 (by omega), z_4] at g2
    rw [hx 3 (by omega), z_4] at g3
    rw [hx 4 (by omega), z_3] at g4
    rw [hx 5 (by omega), z_3] at g5
    rw [hx 6 (by omega), z_0] at g6
    rw [hx 7 (by omega), z_1] at g7
    rw [hx 8 (by omega), z_3] at g8
    rw [hx 9 (by omega), z_3] at g9
    rw [hx 10 (by omega), z_2] at g10
    rw [hx 11 (by omega), z_2] at g11
    rw [hx 12 (by omega), z_4] at g12
    dsimp only [List.take] at g0 g1 g2 g3 g4 g5 g6 g7 g8 g9 g10 g11 g12
    obtain ⟨a0, rfl, w0⟩ := field_string Try.underlying9 g0
    obtain ⟨a1, rfl, w1⟩ := field_string Try.underlying9 g1
    obtain ⟨a2, rfl, w2⟩ := field_string Try.underlying9 g2
    obtain ⟨a3, rfl, w3⟩ := field_string Try.underlying9 g3
    obtain ⟨a4, rfl, w4⟩ := field_int Try.underlying3 g4
    obtain ⟨a5, rfl, w5⟩ := field_int Try.underlying3 g5
    obtain ⟨av, al, mo, e6, ha, wm⟩ := ar_of_cellsJ _ _ _ g6
    injection e6 with q1 q2; injection q2 with q2 _; subst q1 q2
    obtain ⟨an, dv, nd, e7, hd⟩ := de_of_cellsJ _ _ _ g7
    injection e7 with q1 q2; injection q2 with q2 _; subst q1 q2
    obtain ⟨a8, rfl, w8⟩ := field_int Try.underlying3 g8
    obtain ⟨a9, rfl, w9⟩ := field_int Try.underlying3 g9
    obtain ⟨a10, rfl⟩ := field_bool Try.underlying4 g10
    obtain ⟨a11, rfl⟩ := field_bool Try.underlying4 g11
    obtain ⟨a12, rfl, w12⟩ := field_string Try.underlying9 g12
    exact ⟨a0, a1, a2, a3, a4, a5, c6, al, mo, an, c9, nd, a8, a9, a10, a11, a12, rfl, ha, hd, ⟨w0, w1, w2, w3, w12⟩, by
      intro z hz
      simp only [List.mem_cons, List.not_mem_nil, or_false] at hz
      rcases hz with rfl | rfl | rfl | rfl | rfl <;> assumption⟩
set_option maxRecDepth 100000 in
theorem jb_of_cellsJ (n : Nat) (cs : List Value) (x : DataW H × List MemPlace) (h : DataW.trod enc Try.prog W 0 (fun _ => true) true n 41 cs = some x) : ∃ j : Jb, cs = jbV j ∧ JbA W j := by
  have hs := Try.underlying41
  obtain ⟨xs, m, _, _, hl, hlen, hg⟩ := DataW.trod_struct hs h
  have hC : Try.prog.cellsOf 41 = 26 := by kernel_rfl
  rw [hC] at hl
  have z_0 : Try.prog.cellsOf 39 = 2 := by kernel_rfl
  have z_1 : Try.prog.cellsOf 37 = 15 := by kernel_rfl
  have z_2 : Try.prog.cellsOf 3 = 1 := by kernel_rfl
  have z_3 : Try.prog.cellsOf 23 = 1 := by kernel_rfl
  match cs, hl with
  | [c0, c1, c2, c3, c4, c5, c6, c7, c8, c9, c10, c11, c12, c13, c14, c15, c16, c17, c18, c19, c20, c21, c22, c23, c24, c25], _ =>
    have g0 : DataW.trod enc Try.prog W 0 (fun _ => true) true m 23 (List.take (Try.prog.cellsOf 23) [c0, c1, c2, c3, c4, c5, c6, c7, c8, c9, c10, c11, c12, c13, c14, c15, c16, c17, c18, c19, c20, c21, c22, c23, c24, c25]) = xs[0]? := hg 0 _ rfl
    have g1 : DataW.trod enc Try.prog W 0 (fun _ => true) true m 23 (List.take (Try.prog.cellsOf 23) [c1, c2, c3, c4, c5, c6, c7, c8, c9, c10, c11, c12, c13, c14, c15, c16, c17, c18, c19, c20, c21, c22, c23, c24, c25]) = xs[1]? := hg 1 _ rfl
    have g2 : DataW.trod enc Try.prog W 0 (fun _ => true) true m 3 (List.take (Try.prog.cellsOf 3) [c2, c3, c4, c5, c6, c7, c8, c9, c10, c11, c12, c13, c14, c15, c16, c17, c18, c19, c20, c21, c22, c23, c24, c25]) = xs[2]? := hg 2 _ rfl
    have g3 : DataW.trod enc Try.prog W 0 (fun _ => true) true m 37 (List.take (Try.prog.cellsOf 37) [c3, c4, c5, c6, c7, c8, c9, c10, c11, c12, c13, c14, c15, c16, c17, c18, c19, c20, c21, c22, c23, c24, c25]) = xs[3]? := hg 3 _ rfl
    have g4 : DataW.trod enc Try.prog W 0 (fun _ => true) true m 3 (List.take (Try.prog.cellsOf 3) [c18, c19, c20, c21, c22, c23, c24, c25]) = xs[4]? := hg 4 _ rfl
    have g5 : DataW.trod enc Try.prog W 0 (fun _ => true) true m 3 (List.take (Try.prog.cellsOf 3) [c19, c20, c21, c22, c23, c24, c25]) = xs[5]? := hg 5 _ rfl
    have g6 : DataW.trod enc Try.prog W 0 (fun _ => true) true m 3 (List.take (Try.prog.cellsOf 3) [c20, c21, c22, c23, c24, c25]) = xs[6]? := hg 6 _ rfl
    have g7 : DataW.trod enc Try.prog W 0 (fun _ => true) true m 3 (List.take (Try.prog.cellsOf 3) [c21, c22, c23, c24, c25]) = xs[7]? := hg 7 _ rfl
    have g8 : DataW.trod enc Try.prog W 0 (fun _ => true) true m 3 (List.take (Try.prog.cellsOf 3) [c22, c23, c24, c25]) = xs[8]? := hg 8 _ rfl
    have g9 : DataW.trod enc Try.prog W 0 (fun _ => true) true m 3 (List.take (Try.prog.cellsOf 3) [c23, c24, c25]) = xs[9]? := hg 9 _ rfl
    have g10 : DataW.trod enc Try.prog W 0 (fun _ => true) true m 39 (List.take (Try.prog.cellsOf 39) [c24, c25]) = xs[10]? := hg 10 _ rfl
    have hx : ∀ i (hi : i < 11), xs[i]? = some (xs[i]'(by rw [hlen]; exact hi)) := fun i hi => List.getElem?_eq_getElem _
    rw [hx 0 (by omega), z_3] at g0
    rw [hx 1 (by omega), z_3] at g1
    rw [hx 2 (by omega), z_2] at g2
    rw [hx 3 (by omega), z_1] at g3
    rw [hx 4 (by omega), z_2] at g4
    rw [hx 5 (by omega), z_2] at g5
    rw [hx 6 (by omega), z_2] at g6
    rw [hx 7 (by omega), z_2] at g7
    rw [hx 8 (by omega), z_2] at g8
    rw [hx 9 (by omega), z_2] at g9
    rw [hx 10 (by omega), z_0] at g10
    dsimp only [List.take] at g0 g1 g2 g3 g4 g5 g6 g7 g8 g9 g10
    obtain ⟨a0, rfl, w0⟩ := field_int Try.underlying23 g0
    obtain ⟨a1, rfl, w1⟩ := field_int Try.underlying23 g1
    obtain ⟨a2, rfl, w2⟩ := field_int Try.underlying3 g2
    obtain ⟨name, acct, prt, qos, size, limit, av, al, most, any, dv, nd, nice, beg, hold, requ, run, e3, ha, hd, hss, hz⟩ := sp_of_cellsJ _ _ _ g3
    unfold spV at e3
    injection e3 with q0 e3
    injection e3 with q1 e3
    injection e3 with q2 e3
    injection e3 with q3 e3
    injection e3 with q4 e3
    injection e3 with q5 e3
    injection e3 with q6 e3
    injection e3 with q7 e3
    injection e3 with q8 e3
    injection e3 with q9 e3
    injection e3 with q10 e3
    injection e3 with q11 e3
    injection e3 with q12 e3
    injection e3 with q13 e3
    injection e3 with q14 e3
    subst q0 q1 q2 q3 q4 q5 q6 q7 q8 q9 q10 q11 q12 q13 q14
    obtain ⟨a4, rfl, w4⟩ := field_int Try.underlying3 g4
    obtain ⟨a5, rfl, w5⟩ := field_int Try.underlying3 g5
    obtain ⟨a6, rfl, w6⟩ := field_int Try.underlying3 g6
    obtain ⟨a7, rfl, w7⟩ := field_int Try.underlying3 g7
    obtain ⟨a8, rfl, w8⟩ := field_int Try.underlying3 g8
    obtain ⟨a9, rfl, w9⟩ := field_int Try.underlying3 g9
    obtain ⟨bs, bo, e10, wbs, wbo⟩ := bl_of_cellsJ _ _ _ g10
    injection e10 with q1 q2; injection q2 with q2 _; subst q1 q2
    obtain ⟨u0, u1⟩ := u32_wfJ w0
    obtain ⟨k0, rfl⟩ := Int.eq_ofNat_of_zero_le u0
    obtain ⟨t0, t1⟩ := u32_wfJ w1
    obtain ⟨k1, rfl⟩ := Int.eq_ofNat_of_zero_le t0
    refine ⟨⟨k0, k1, a2, name, acct, prt, qos, size, limit, c9, most, any, c12, nice, beg, hold, requ, run, a4, a5, a6, a7, a8, a9, bs, bo, al, nd⟩, rfl, hd, ha, ⟨by dsimp only; omega, by dsimp only; omega, ?_, hss.1, hss.2.1, hss.2.2.1, hss.2.2.2.1, hss.2.2.2.2⟩⟩
    have hz2 := fun z hzz => hz z hzz
    intro z hzz
    simp only [List.mem_cons, List.not_mem_nil, or_false] at hzz
    rcases hzz with rfl | rfl | rfl | rfl | rfl | rfl | rfl | rfl | rfl | rfl | rfl | rfl | rfl | rfl
    all_goals first | assumption | exact hz _ (by simp)
theorem open_jobs_arg {v : Value} {d : DataW H} {p : List MemPlace} (h : DataW.Trod enc Try.prog W 0 (fun _ => true) true 22 v d p) (hv : ∃ a len cap, v = .slice a len cap) : ∃ l : List Jb, JArg W v l := by
  obtain ⟨l, h1, _, h3⟩ := open_rowG 26 jbV (JbA W) (by decide) jbV_len Try.underlying22 (by kernel_rfl) jb_of_cellsJ h hv
  exact ⟨l, h1, h3⟩
end
end Go.Proofs.Ytfabjlhepadkpaa
