/-
  BackfillHead, plainly: the one that waits, and the others.
-/
import Derived.Test.YtioeblljabohbaaBfAx
namespace Go.Proofs.Ytioeblljabohbaa
open Go Go.RowKit Go.Lib Go.Sort
set_option linter.unusedVariables false

theorem rowG_take {α : Type} {s : Nat} {enc : α → List Value} {w : World} {a : Option Addr} {n c : Nat} {l : List α} (h : RowG s enc w (.slice a n c) l) {k : Nat} (hk : k ≤ l.length) (c' : Nat) : RowG s enc w (.slice a k c') (l.take k) := by
  rcases h with ⟨rfl, _⟩ | ⟨b, off, c2, h1, h2, h3⟩
  · obtain rfl : k = 0 := by simpa using hk
    exact .inl ⟨rfl, a, c', rfl⟩
  · injection h1 with h1 _ _
    by_cases h0 : k = 0
    · subst h0; exact .inl ⟨rfl, a, c', rfl⟩
    · have hl : (l.take k).length = k := by rw [List.length_take]; omega
      refine .inr ⟨b, off, c', by rw [h1, hl], by omega, fun i hi j u hu => ?_⟩
      rw [List.getElem_take] at hu
      exact h3 i (by rw [hl] at hi; omega) j u hu
/-- The slots ahead of place k, but for the one at place P. -/
def othL (S : List SlT) (P k : Nat) : List SlT := (S.take k).eraseIdx P
def cntL (P k : Nat) : Nat := if k ≤ P then k else k - 1
theorem othL_zero (S : List SlT) (P : Nat) : othL S P 0 = [] := by unfold othL; simp
theorem othL_head {S : List SlT} {P : Nat} (h : P < S.length) : othL S P (P + 1) = othL S P P := by
  unfold othL
  rw [List.take_add_one, List.getElem?_eq_getElem h]
  have hl : (S.take P).length = P := by rw [List.length_take]; omega
  show (S.take P ++ [S[P]]).eraseIdx P = _
  rw [List.eraseIdx_append_of_length_le (by omega), hl, Nat.sub_self, List.eraseIdx_of_length_le (l := S.take P) (by omega)]
  simp
theorem othL_other {S : List SlT} {P k : Nat} (hk : k < S.length) (hne : k ≠ P) : othL S P (k + 1) = othL S P k ++ [S[k]] := by
  unfold othL
  rw [List.take_add_one, List.getElem?_eq_getElem hk]
  have hl : (S.take k).length = k := by rw [List.length_take]; omega
  show (S.take k ++ [S[k]]).eraseIdx P = _
  rcases Nat.lt_or_ge P k with h | h
  · rw [List.eraseIdx_append_of_lt_length (by omega)]
  · rw [List.eraseIdx_append_of_length_le (by omega), hl, List.eraseIdx_of_length_le (l := S.take k) (by omega)]
    rw [List.eraseIdx_of_length_le (by simp; omega)]
theorem cntL_head (P : Nat) : cntL P (P + 1) = cntL P P := by unfold cntL; rw [if_neg (by omega), if_pos (Nat.le_refl _)]; omega
theorem cntL_other {P k : Nat} (hne : k ≠ P) : cntL P (k + 1) = cntL P k + 1 := by
  unfold cntL
  rcases Nat.lt_or_ge P k with h | h
  · rw [if_neg (by omega), if_neg (by omega)]; omega
  · rw [if_pos (by omega), if_pos (by omega)]
theorem othL_all {S A B : List SlT} {h : SlT} (e : S = A ++ h :: B) : othL S A.length S.length = A ++ B := by
  unfold othL
  rw [List.take_length, e, List.eraseIdx_append_of_length_le (Nat.le_refl _), Nat.sub_self]
  rfl
theorem othL_sub {S : List SlT} {P k : Nat} : ∀ x ∈ othL S P k, x ∈ S := fun x hx => List.mem_of_mem_take (List.mem_of_mem_eraseIdx hx)
/-- The place of the one that waits; else the end. -/
structure HeadAtP (n : Nat) (fl : List Nat) (hl : List HeT) (WS : List (Nat × Nat × Nat)) (nw : Nat) (S : List SlT) (P : Nat) : Prop where
  le : P ≤ S.length
  at_ : ∀ k (h : k < S.length), (nw < S[k].2.2.2.1 ↔ k = P)
  pre : ∀ (h : P < S.length), S[P].1 ≤ WS.length ∧ planL n fl nw 2 1 (WS.take S[P].1) hl 1 false = S.take (P + 1)
theorem head_of {n : Nat} {fl : List Nat} {hl : List HeT} {WS : List (Nat × Nat × Nat)} {nw : Nat} {S : List SlT} (hS : S = planL n fl nw 2 1 WS hl 1 false) (hN : ∀ (j : Nat) (y : Nat × Nat × Nat), WS[j]? = some y → y.1 = j + 1) (hnw : ∀ x ∈ S, nw ≤ x.2.2.2.1) : ∃ P, HeadAtP n fl hl WS nw S P := by
  by_cases hex : ∃ h ∈ S, nw < h.2.2.2.1
  · obtain ⟨h, hh, hlt⟩ := hex
    rw [hS] at hh
    obtain ⟨ws1, ws2, A, B, e1, e2, e3, e4, e5⟩ := planE_head n fl nw WS hl h hh hlt
    rw [← hS] at e2
    have hid : h.1 = ws1.length + 1 := by
      have := hN ws1.length (jobOf h) (by rw [e1]; simp)
      exact this
    refine ⟨A.length, by rw [e2]; simp, fun k hk => ?_, fun hP => ?_⟩
    · constructor
      · intro hlt2
        rcases Nat.lt_trichotomy k A.length with h1 | h1 | h1
        · have : S[k] = A[k] := by simp only [e2]; rw [List.getElem_append_left h1]
          rw [this, e3 _ (List.getElem_mem h1)] at hlt2
          omega
        · exact h1
        · have hb : k - A.length - 1 < B.length := by rw [e2] at hk; simp at hk; omega
          have : S[k] = B[k - A.length - 1] := by
            simp only [e2]
            rw [List.getElem_append_right (by omega), List.getElem_cons, dif_neg (by omega)]
          rw [this, e4 _ (List.getElem_mem hb)] at hlt2
          omega
      · rintro rfl
        have : S[A.length] = h := by simp only [e2]; rw [List.getElem_append_right (Nat.le_refl _)]; simp
        rw [this]; exact hlt
    · have : S[A.length] = h := by simp only [e2]; rw [List.getElem_append_right (Nat.le_refl _)]; simp
      rw [this, hid]
      refine ⟨by rw [e1]; simp, ?_⟩
      have et : WS.take (ws1.length + 1) = ws1 ++ [jobOf h] := by
        rw [e1, List.take_append, List.take_of_length_le (by omega), Nat.add_sub_cancel_left]; rfl
      have es : S.take (A.length + 1) = A ++ [h] := by
        rw [e2, List.take_append, List.take_of_length_le (by omega), Nat.add_sub_cancel_left]; rfl
      rw [et, e5, es]
  · refine ⟨S.length, Nat.le_refl _, fun k hk => ?_, fun hP => absurd hP (Nat.lt_irrefl _)⟩
    constructor
    · intro h; exact absurd ⟨_, List.getElem_mem hk, h⟩ hex
    · intro h; omega
/-- The one that waits, among all the others: its block is free, and it comes no later. -/
theorem head_free {n : Nat} {fl : List Nat} {hl : List HeT} {WS : List (Nat × Nat × Nat)} {nw : Nat} {S : List SlT} {P : Nat} (hA : ApOk n fl hl WS nw S) (hP : P < S.length) :
    freeB ⟨n, fl, hl ++ (othL S P S.length).map heOf⟩ S[P].2.1 S[P].2.2.1 S[P].2.2.2.1 (S[P].2.2.2.1 + S[P].2.2.2.2) = true ∧ ∃ t s, earlyC ⟨n, fl, hl ++ (othL S P S.length).map heOf⟩ S[P].2.2.1 nw S[P].2.2.2.2 = some (t, s) ∧ t ≤ S[P].2.2.2.1 := by
  obtain ⟨h1, h2, h3⟩ := hA.free _ (List.getElem_mem hP)
  have hf : freeB ⟨n, fl, hl ++ (othL S P S.length).map heOf⟩ S[P].2.1 S[P].2.2.1 S[P].2.2.2.1 (S[P].2.2.2.1 + S[P].2.2.2.2) = true := by
    refine freeB_app h3 fun x hx => ?_
    unfold othL at hx
    rw [List.take_length] at hx
    obtain ⟨i, hi, rfl⟩ := List.getElem_of_mem hx
    rw [List.length_eraseIdx_of_lt hP] at hi
    rw [List.getElem_eraseIdx]
    split
    · rename_i hlt
      exact List.pairwise_iff_getElem.1 hA.apart i P (by omega) hP hlt
    · rename_i hge
      exact (List.pairwise_iff_getElem.1 hA.apart P (i + 1) hP (by omega) (by omega)).symm
  exact ⟨hf, earlyC_le h2 h1 hf⟩
end Go.Proofs.Ytioeblljabohbaa
