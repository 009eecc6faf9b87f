/-
  Arguments that are rows of levels, opened.
-/
import Derived.Test.YtnbgipegfnpobaaLvR
import Derived.Test.YtnbgipegfnpobaaArgs2
import Derived.Deep.Slices
namespace Go.Proofs.Ytnbgipegfnpobaa
open Go.ChangeShapes Go.WideShapes Go.ChangeAt Go.RowKit Go.Lib Go.Sort Go.Maps Go.Deep
set_option linter.unusedVariables false

def LevOk (x : Lv) : Prop := (Lit.int .i64 x.1).wf = true ∧ (Lit.int .i64 x.2).wf = true
/-- v is a row of levels that came in. -/
def LArg (w : World) (v : Value) (xs : List Lv) : Prop := LRow w v xs ∧ (∃ a c, v = .slice a xs.length c) ∧ xs.length ≤ maxLen ∧ ∀ x ∈ xs, LevOk x

section
variable {H : Type} {enc : TypeId × Value → H} {W : World}
theorem lev_of_cells {n : Nat} {cs : List Value} {x : DataW H × List MemPlace} (h : DataW.trod enc Try.prog W 0 (fun _ => true) true n 49 cs = some x) : ∃ k : Lv, cs = encV k ∧ LevOk k := by
  have hs := Try.underlying49
  obtain ⟨xs, m, _, _, hl, hlen, hg⟩ := DataW.trod_struct hs h
  have hC : Try.prog.cellsOf 49 = 2 := by kernel_rfl
  rw [hC] at hl
  have hint : Try.prog.cellsOf 3 = 1 := by kernel_rfl
  match cs, hl with
  | [c0, c1], _ =>
    have g0 : DataW.trod enc Try.prog W 0 (fun _ => true) true m 3 (List.take (Try.prog.cellsOf 3) [c0, c1]) = xs[0]? := hg 0 _ rfl
    have g1 : DataW.trod enc Try.prog W 0 (fun _ => true) true m 3 (List.take (Try.prog.cellsOf 3) [c1]) = xs[1]? := hg 1 _ rfl
    have hx0 : xs[0]? = some (xs[0]'(by rw [hlen]; decide)) := List.getElem?_eq_getElem _
    have hx1 : xs[1]? = some (xs[1]'(by rw [hlen]; decide)) := List.getElem?_eq_getElem _
    rw [hx0] at g0
    rw [hx1] at g1
    rw [hint] at g0 g1
    dsimp only [List.take] at g0 g1
    obtain ⟨p, rfl, wp⟩ := field_int Try.underlying3 g0
    obtain ⟨t, rfl, wt⟩ := field_int Try.underlying3 g1
    exact ⟨(p, t), rfl, wp, wt⟩
theorem open_levels_arg {v : Value} {d : DataW H} {p : List MemPlace} (h : DataW.Trod enc Try.prog W 0 (fun _ => true) true 22 v d p) (hv : ∃ a len cap, v = .slice a len cap) : ∃ xs, LArg W v xs := by
  obtain ⟨n, hf⟩ := h
  obtain ⟨a0, len0, cap0, rfl⟩ := hv
  have hC : Try.prog.cellsOf 49 = 2 := by kernel_rfl
  rcases open_slice Try.underlying22 hf with ⟨hcs, _⟩ | ⟨a, len, cap, m, q, D, Pl, hcs, _, hl, hm, hmm, _, hi⟩
  · have e1 : Value.slice a0 len0 cap0 = .slice none 0 0 := by simpa [Value.cells] using hcs
    rw [e1]
    exact ⟨[], .inl ⟨rfl, none, 0, rfl, Nat.zero_le _⟩, ⟨none, 0, rfl⟩, Nat.zero_le _, fun x hx => nomatch hx⟩
  · have e1 : Value.slice a0 len0 cap0 = .slice (some a) len cap := by simpa [Value.cells] using hcs
    rw [e1]
    simp only [if_true] at hmm
    rw [hC] at hi
    by_cases h0 : len = 0
    · subst h0
      exact ⟨[], .inl ⟨rfl, some a, cap, rfl, hm⟩, ⟨some a, cap, rfl⟩, Nat.zero_le _, fun x hx => nomatch hx⟩
    · have hk : ∀ i, i < len → ∃ k : Lv, LevOk k ∧ ∀ j, j < 2 → W.cell? (a.add (i * 2 + j)) = (encV k)[j]? := by
        intro i hil
        obtain ⟨cs', hc, ht⟩ := hi i (by omega)
        obtain ⟨k, rfl, hok⟩ := lev_of_cells ht
        obtain ⟨_, _, hat⟩ := World.cells?_some hc
        refine ⟨k, hok, fun j hj => ?_⟩
        rw [← hat j hj, add_add]
      obtain ⟨b, off, spot⟩ := a
      have hspot : spot = none := by
        obtain ⟨k, _, hh⟩ := hk 0 (by omega)
        have := hh 0 (by omega)
        simpa [Addr.add] using World.cell?_spot (this.trans (show (encV k)[0]? = some (.int .i64 k.1) from rfl))
      subst hspot
      have hbl : b < W.heap.size := by
        obtain ⟨k, _, hh⟩ := hk 0 (by omega)
        have := World.block_lt_of_cell? W _ ((hh 0 (by omega)).trans (show (encV k)[0]? = some (.int .i64 k.1) from rfl))
        simpa [Addr.add] using this
      let f : Nat → Lv := fun i => if h : i < len then (hk i h).choose else (0, 0)
      have hf : ∀ i (h : i < len), f i = (hk i h).choose := fun i h => by simp [f, h]
      let xs := (List.range len).map f
      have hlen : xs.length = len := by simp [xs]
      have hat : ∀ i, i < len → lv xs i = f i := fun i h => by simp [xs, lv, List.getD, h]
      refine ⟨xs, .inr ⟨b, off, cap, by rw [hlen], by omega, by omega, hm, hbl, fun j hj => ?_⟩, ⟨_, cap, by rw [hlen]⟩, by omega, fun x hx => ?_⟩
      · rw [hlen] at hj
        rw [hat j hj, hf j hj]
        have hh := (hk j hj).choose_spec.2
        refine ⟨?_, ?_⟩
        · have := hh 0 (by omega); rw [Addr.add_lit] at this; exact this
        · have := hh 1 (by omega); rw [Addr.add_lit, ← Nat.add_assoc] at this; exact this
      · obtain ⟨i, hi', rfl⟩ := List.mem_map.1 hx
        have hi' : i < len := by simpa using hi'
        rw [hf i hi']; exact (hk i hi').choose_spec.1
end
end Go.Proofs.Ytnbgipegfnpobaa
