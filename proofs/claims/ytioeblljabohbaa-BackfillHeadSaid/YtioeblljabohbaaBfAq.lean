/-
  What BackfillApart and BackfillHead say, plainly.
-/
import Derived.Test.YtioeblljabohbaaBfLw
namespace Go.Proofs.Ytioeblljabohbaa
open Go Go.RowKit Go.Lib Go.Sort
set_option linter.unusedVariables false

theorem ws_named {WL : List WaI} {WS : List (Nat × Nat × Nat)} (h : namedL WL = WS.map waN) : ∀ (j : Nat) (y : Nat × Nat × Nat), WS[j]? = some y → y.1 = j + 1 := by
  intro j y hy
  have hl : WL.length = WS.length := by rw [← namedL_len, h, List.length_map]
  have hj : j < WL.length := by rw [hl]; exact (List.getElem?_eq_some_iff.1 hy).1
  have e : (namedL WL)[j]? = (WS.map waN)[j]? := by rw [h]
  rw [namedL, namedF_get WL 0 j hj, List.getElem?_map, hy] at e
  have e2 := Option.some.inj e
  have e3 := congrArg (fun x : WaI => x.1) e2
  dsimp only [waN] at e3
  omega
theorem named_inc {WS : List (Nat × Nat × Nat)} (h : ∀ (j : Nat) (y : Nat × Nat × Nat), WS[j]? = some y → y.1 = j + 1) : WS.Pairwise fun x y => x.1 < y.1 := by
  rw [List.pairwise_iff_getElem]
  intro i j hi hj hlt
  rw [h i _ (List.getElem?_eq_getElem hi), h j _ (List.getElem?_eq_getElem hj)]
  omega
/-- Slots that lie apart in a scene, of jobs that are numbered by their places. -/
structure ApOk (n : Nat) (fl : List Nat) (hl : List HeT) (WS : List (Nat × Nat × Nat)) (nw : Nat) (S : List SlT) : Prop where
  job : ∀ x ∈ S, ∃ j, WS[j]? = some (jobOf x) ∧ x.1 = j + 1
  inc : S.Pairwise fun x y => x.1 < y.1
  free : ∀ x ∈ S, blkOk n x.2.1 x.2.2.1 ∧ nw ≤ x.2.2.2.1 ∧ freeB ⟨n, fl, hl⟩ x.2.1 x.2.2.1 x.2.2.2.1 (x.2.2.2.1 + x.2.2.2.2) = true
  apart : S.Pairwise noC
  len : hl.length + S.length ≤ 300
  fin : ∀ x ∈ S, (heOf x).2.2.2 ≤ endT ∧ 1 ≤ x.2.2.2.2
theorem ap_of {n : Nat} {fl : List Nat} {hl : List HeT} {WS : List (Nat × Nat × Nat)} {nw wt af f0 M : Nat} (hN : ∀ (j : Nat) (y : Nat × Nat × Nat), WS[j]? = some y → y.1 = j + 1) (hl3 : hl.length + WS.length ≤ 300) (hj : ∀ x ∈ WS, 1 ≤ x.2.2 ∧ x.2.2 ≤ 1099511627776)
    (h1 : nw ≤ M) (h2 : ∀ h ∈ hl, h.2.2.2 ≤ M) (h3 : M + (WS.map fun j => j.2.2).sum ≤ endT) : ApOk n fl hl WS nw (planL n fl nw wt af WS hl f0 false) := by
  have hs := planL_sub n fl nw wt af WS hl f0 false
  have hf := planL_free n fl nw wt af WS hl f0 false
  have he := planL_end n fl nw wt af WS hl f0 false M h1 h2
  generalize planL n fl nw wt af WS hl f0 false = S at *
  have hmem : ∀ x ∈ S, jobOf x ∈ WS := fun x hx => hs.subset (List.mem_map.2 ⟨x, hx, rfl⟩)
  refine ⟨fun x hx => ?_, ?_, hf.1, hf.2, ?_, fun x hx => ⟨Nat.le_trans (he x hx) h3, (hj _ (hmem x hx)).1⟩⟩
  · obtain ⟨j, hj, e⟩ := List.getElem_of_mem (hmem x hx)
    have e2 : WS[j]? = some (jobOf x) := by rw [List.getElem?_eq_getElem hj, e]
    exact ⟨j, e2, hN j _ e2⟩
  · have := (named_inc hN).sublist hs
    rw [List.pairwise_map] at this
    exact this
  · have := hs.length_le
    rw [List.length_map] at this
    omega
section
variable {n : Nat} {fl : List Nat} {hl : List HeT} {WS : List (Nat × Nat × Nat)} {nw : Nat} {S : List SlT}
theorem ApOk.sc (h : ApOk n fl hl WS nw S) (hc : ScOk ⟨n, fl, hl⟩) {T : List SlT} (hT : ∀ x ∈ T, x ∈ S) (hl3 : T.length ≤ S.length) : ScOk ⟨n, fl, hl ++ T.map heOf⟩ := by
  refine ⟨hc.n10, hc.inc, hc.lt, ?_, fun x hx => ?_⟩
  · have := h.len
    show (hl ++ T.map heOf).length ≤ 300
    rw [List.length_append, List.length_map]; omega
  · rcases List.mem_append.1 hx with hx | hx
    · exact hc.he x hx
    · obtain ⟨y, hy, rfl⟩ := List.mem_map.1 hx
      obtain ⟨a, b⟩ := h.fin y (hT y hy)
      refine ⟨(h.free y (hT y hy)).1, ?_, a⟩
      show y.2.2.2.1 < y.2.2.2.1 + y.2.2.2.2
      omega
theorem ApOk.take (h : ApOk n fl hl WS nw S) {k : Nat} (hk : k < S.length) : freeB ⟨n, fl, hl ++ (S.take k).map heOf⟩ S[k].2.1 S[k].2.2.1 S[k].2.2.2.1 (S[k].2.2.2.1 + S[k].2.2.2.2) = true := by
  refine freeB_app (h.free _ (List.getElem_mem hk)).2.2 fun x hx => ?_
  obtain ⟨i, hi, rfl⟩ := List.getElem_of_mem hx
  rw [List.length_take] at hi
  rw [List.getElem_take]
  exact List.pairwise_iff_getElem.1 h.apart i k (by omega) hk (by omega)
/-- The job of a slot, as it is found. -/
theorem ApOk.want (h : ApOk n fl hl WS nw S) (hN : ∀ (j : Nat) (y : Nat × Nat × Nat), WS[j]? = some y → y.1 = j + 1) {k : Nat} (hk : k < S.length) : ∃ j, (WS.map waN)[j]? = some (waN (jobOf S[k])) ∧ ∀ i (hi : i < (WS.map waN).length), i < j → (WS.map waN)[i].1 ≠ ((S[k].1 : Nat) : Int) := by
  obtain ⟨j, h1, h2⟩ := h.job _ (List.getElem_mem hk)
  refine ⟨j, by rw [List.getElem?_map, h1]; rfl, fun i hi hij e => ?_⟩
  rw [List.getElem_map] at e
  rw [List.length_map] at hi
  have := hN i _ (List.getElem?_eq_getElem hi)
  unfold waN at e
  dsimp only at e
  omega
theorem ApOk.last (h : ApOk n fl hl WS nw S) {k : Nat} (hk : k < S.length) {j : Nat} (hj : j < S.length) (hkj : k + 1 ≤ j) : S[k].1 < S[j].1 := List.pairwise_iff_getElem.1 h.inc k j hk hj (by omega)
theorem ApOk.pos (h : ApOk n fl hl WS nw S) {k : Nat} (hk : k < S.length) : 0 < S[k].1 := by
  obtain ⟨j, _, h2⟩ := h.job _ (List.getElem_mem hk)
  omega
end
theorem hl_take {hl : List HeT} {S : List SlT} {k : Nat} (hk : k < S.length) : hl ++ (S.take (k + 1)).map heOf = (hl ++ (S.take k).map heOf) ++ [heOf S[k]] := by
  rw [List.take_add_one, List.getElem?_eq_getElem hk, List.map_append, List.append_assoc]; rfl
/-- What 'far' says of a plan. -/
theorem far_end {hl : List HeT} {WL : List WaI} {WS : List (Nat × Nat × Nat)} {nw : Nat} (h : farB (hl.map heZ) (namedL WL) (nw : Int) = false) (hWS : namedL WL = WS.map waN) (hj : ∀ x ∈ WS, 1 ≤ x.2.2 ∧ x.2.2 ≤ 1099511627776) (hH : ∀ h ∈ hl, h.2.2.2 ≤ endT) (hn : nw ≤ 1099511627776) :
    ∃ M : Nat, nw ≤ M ∧ (∀ h ∈ hl, h.2.2.2 ≤ M) ∧ M + (WS.map fun j => j.2.2).sum ≤ endT := by
  rw [hWS] at h
  obtain ⟨M, h1, h2, h3⟩ := far_no h (fun x hx => by
    obtain ⟨y, hy, rfl⟩ := List.mem_map.1 hx
    have := hj y hy
    unfold waN
    dsimp only
    omega) hH hn
  refine ⟨M, h1, h2, ?_⟩
  have e : ((WS.map waN).map fun x => x.2.2).sum = (((WS.map fun j => j.2.2).sum : Nat) : Int) := by
    clear h h3 hj hWS
    induction WS with
    | nil => rfl
    | cons y l ih =>
      rw [List.map_cons, List.map_cons, List.map_cons, List.sum_cons, List.sum_cons, ih]
      push_cast
      rfl
  rw [e] at h3
  unfold endT
  omega
end Go.Proofs.Ytioeblljabohbaa
