/-
  Arguments that are charges and rows of charges, opened.
-/
import Derived.Test.YtlafjjdponeeeaaDoorBkK
import Derived.Test.YtlafjjdponeeeaaDoorArgs2
import Derived.Deep.Slices
namespace Go.Proofs.YtlafjjdponeeeaaDoor
open Go.ChangeShapes Go.WideShapes Go.ChangeAt Go.RowKit Go.Lib Go.Deep
set_option linter.unusedVariables false

/-- The numbers are of their types. -/
structure ChgOk (c : Chg) : Prop where
  id : (Lit.int .u32 c.id).wf = true
  acct : c.acct.size ≤ maxLen
  wk : (Lit.int .i64 c.wk).wf = true
  sc : (Lit.int .i64 c.sc).wf = true
  how : (Lit.int .i64 c.how).wf = true
  ax : (Lit.int .i64 c.ax).wf = true
theorem wf_u32' {n : Int} (h : (Lit.int .u32 n).wf = true) : 0 ≤ n ∧ n ≤ 4294967295 := by
  simpa [Lit.wf, IntKind.min, IntKind.max, IntKind.bits, IntKind.signed] using h
theorem ChgOk.wf {c : Chg} (h : ChgOk c) (hs : c.acct.size ≤ 300) : ChWf c := ⟨(wf_u32' h.id).1, (wf_u32' h.id).2, wf_i64' h.wk, wf_i64' h.sc, wf_i64' h.how, wf_i64' h.ax, by omega⟩
/-- v is a row of charges that came in. -/
def ChArg (w : World) (v : Value) (cs : List Chg) : Prop := ChRow w v cs ∧ ∀ c ∈ cs, ChgOk c

section
variable {H : Type} {enc : TypeId × Value → H} {W : World}
set_option maxRecDepth 100000 in
theorem chg_of_cells {n : Nat} {cs : List Value} {x : DataW H × List MemPlace} (h : DataW.trod enc Tryd.prog W 0 (fun _ => true) true n 24 cs = some x) : ∃ k : Chg, cs = (chCs k).toList ∧ ChgOk k := by
  have hs := Tryd.underlying24
  obtain ⟨xs, m, _, _, hl, hlen, hg⟩ := DataW.trod_struct hs h
  have hC : Tryd.prog.cellsOf 24 = 6 := by kernel_rfl
  rw [hC] at hl
  have hint : Tryd.prog.cellsOf 3 = 1 := by kernel_rfl
  have hu32 : Tryd.prog.cellsOf 22 = 1 := by kernel_rfl
  have hstr : Tryd.prog.cellsOf 9 = 1 := by kernel_rfl
  match cs, hl with
  | [c0, c1, c2, c3, c4, c5], _ =>
    have g0 : DataW.trod enc Tryd.prog W 0 (fun _ => true) true m 22 (List.take (Tryd.prog.cellsOf 22) [c0, c1, c2, c3, c4, c5]) = xs[0]? := hg 0 _ rfl
    have g1 : DataW.trod enc Tryd.prog W 0 (fun _ => true) true m 9 (List.take (Tryd.prog.cellsOf 9) [c1, c2, c3, c4, c5]) = xs[1]? := hg 1 _ rfl
    have g2 : DataW.trod enc Tryd.prog W 0 (fun _ => true) true m 3 (List.take (Tryd.prog.cellsOf 3) [c2, c3, c4, c5]) = xs[2]? := hg 2 _ rfl
    have g3 : DataW.trod enc Tryd.prog W 0 (fun _ => true) true m 3 (List.take (Tryd.prog.cellsOf 3) [c3, c4, c5]) = xs[3]? := hg 3 _ rfl
    have g4 : DataW.trod enc Tryd.prog W 0 (fun _ => true) true m 3 (List.take (Tryd.prog.cellsOf 3) [c4, c5]) = xs[4]? := hg 4 _ rfl
    have g5 : DataW.trod enc Tryd.prog W 0 (fun _ => true) true m 3 (List.take (Tryd.prog.cellsOf 3) [c5]) = xs[5]? := hg 5 _ rfl
    have hx : ∀ i (hi : i < 6), xs[i]? = some (xs[i]'(by rw [hlen]; exact hi)) := fun i hi => List.getElem?_eq_getElem _
    rw [hx 0 (by omega), hu32] at g0
    rw [hx 1 (by omega), hstr] at g1
    rw [hx 2 (by omega), hint] at g2
    rw [hx 3 (by omega), hint] at g3
    rw [hx 4 (by omega), hint] at g4
    rw [hx 5 (by omega), hint] at g5
    dsimp only [List.take] at g0 g1 g2 g3 g4 g5
    obtain ⟨a0, rfl, w0⟩ := field_int Tryd.underlying22 g0
    obtain ⟨a1, rfl, w1⟩ := field_string Tryd.underlying9 g1
    obtain ⟨a2, rfl, w2⟩ := field_int Tryd.underlying3 g2
    obtain ⟨a3, rfl, w3⟩ := field_int Tryd.underlying3 g3
    obtain ⟨a4, rfl, w4⟩ := field_int Tryd.underlying3 g4
    obtain ⟨a5, rfl, w5⟩ := field_int Tryd.underlying3 g5
    exact ⟨⟨a0, a1, a2, a3, a4, a5⟩, rfl, ⟨w0, w1, w2, w3, w4, w5⟩⟩
theorem open_charges_arg {v : Value} {d : DataW H} {p : List MemPlace} (h : DataW.Trod enc Tryd.prog W 0 (fun _ => true) true 32 v d p) (hv : ∃ a len cap, v = .slice a len cap) : ∃ xs, ChArg W v xs := by
  obtain ⟨n, hf⟩ := h
  obtain ⟨a0, len0, cap0, rfl⟩ := hv
  have hC : Tryd.prog.cellsOf 24 = 6 := by kernel_rfl
  rcases open_slice Tryd.underlying32 hf with ⟨hcs, _⟩ | ⟨a, len, cap, m, q, D, Pl, hcs, _, hl, hm, hmm, _, hi⟩
  · have e1 : Value.slice a0 len0 cap0 = .slice none 0 0 := by simpa [Value.cells] using hcs
    rw [e1]
    exact ⟨[], ⟨none, 0, rfl, Nat.le_refl _, Nat.zero_le _, fun h => absurd h (by simp)⟩, fun x hx => nomatch hx⟩
  · have e1 : Value.slice a0 len0 cap0 = .slice (some a) len cap := by simpa [Value.cells] using hcs
    rw [e1]
    simp only [if_true] at hmm
    rw [hC] at hi
    by_cases h0 : len = 0
    · subst h0
      exact ⟨[], ⟨some a, cap, rfl, Nat.zero_le _, hm, fun h => absurd h (by simp)⟩, fun x hx => nomatch hx⟩
    · have hk : ∀ i, i < len → ∃ k : Chg, ChgOk k ∧ ∀ j, j < 6 → W.cell? (a.add (i * 6 + j)) = (chCs k).toList[j]? := by
        intro i hil
        obtain ⟨cs', hc, ht⟩ := hi i (by omega)
        obtain ⟨k, rfl, hok⟩ := chg_of_cells ht
        obtain ⟨_, _, hat⟩ := World.cells?_some hc
        refine ⟨k, hok, fun j hj => ?_⟩
        rw [← hat j hj, add_add]
      obtain ⟨b, off, spot⟩ := a
      have hspot : spot = none := by
        obtain ⟨k, _, hh⟩ := hk 0 (by omega)
        have := hh 0 (by omega)
        simpa [Addr.add] using World.cell?_spot (this.trans (show (chCs k).toList[0]? = some (.int .u32 k.id) from rfl))
      subst hspot
      have hbl : b < W.heap.size := by
        obtain ⟨k, _, hh⟩ := hk 0 (by omega)
        have := World.block_lt_of_cell? W _ ((hh 0 (by omega)).trans (show (chCs k).toList[0]? = some (.int .u32 k.id) from rfl))
        simpa [Addr.add] using this
      let f : Nat → Chg := fun i => if h : i < len then (hk i h).choose else zeroCh
      have hf : ∀ i (h : i < len), f i = (hk i h).choose := fun i h => by simp [f, h]
      let xs := (List.range len).map f
      have hlen : xs.length = len := by simp [xs]
      have hat : ∀ i, i < len → chAt xs i = f i := fun i h => by simp [xs, chAt, List.getD, h]
      refine ⟨xs, ⟨_, cap, by rw [hlen], by omega, hm, fun _ => ⟨b, off, rfl, hbl, fun j hj => ?_⟩⟩, fun x hx => ?_⟩
      · rw [hlen] at hj
        rw [hat j hj, hf j hj]
        have hh := (hk j hj).choose_spec.2
        refine ⟨?_, ?_, ?_, ?_, ?_, ?_⟩
        · have := hh 0 (by omega); rw [Addr.add_lit] at this; exact this
        · have := hh 1 (by omega); rw [Addr.add_lit, ← Nat.add_assoc] at this; exact this
        · have := hh 2 (by omega); rw [Addr.add_lit, ← Nat.add_assoc] at this; exact this
        · have := hh 3 (by omega); rw [Addr.add_lit, ← Nat.add_assoc] at this; exact this
        · have := hh 4 (by omega); rw [Addr.add_lit, ← Nat.add_assoc] at this; exact this
        · have := hh 5 (by omega); rw [Addr.add_lit, ← Nat.add_assoc] at this; exact this
      · obtain ⟨i, hi', rfl⟩ := List.mem_map.1 hx
        have hi' : i < len := by simpa using hi'
        rw [hf i hi']; exact (hk i hi').choose_spec.1
end
end Go.Proofs.YtlafjjdponeeeaaDoor
