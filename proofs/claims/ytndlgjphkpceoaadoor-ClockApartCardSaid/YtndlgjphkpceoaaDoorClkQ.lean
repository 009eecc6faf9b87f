/-
  The words of a time limit, one behind the other: what clock.Parse adds up, plainly. No program is imported.
-/
import Derived.Test.YtndlgjphkpceoaaDoorClkL
namespace Go.Proofs.YtndlgjphkpceoaaDoor
set_option linter.unusedVariables false

def nthW (ws : List Bs) (i : Nat) : Bs := ws.getD i []
def nthU (us : List (Nat × Nat)) (i : Nat) : Nat × Nat := us.getD i (0, 0)
def numD (ws : List Bs) (i : Nat) : Nat := (numW (nthW ws i)).getD 0
def totN (ws : List Bs) (us : List (Nat × Nat)) : Nat → Nat
  | 0 => 0
  | i + 1 => totN ws us i + numD ws i * (nthU us i).1
def grN (ws : List Bs) (us : List (Nat × Nat)) : Nat → Bool
  | 0 => false
  | i + 1 => grN ws us i || (decide (0 < i) && decide ((nthU us i).2 < numD ws i))
theorem nthW_get {ws : List Bs} {i : Nat} (h : i < ws.length) : ws[i]? = some (nthW ws i) := by simp [nthW, List.getD, List.getElem?_eq_getElem h]
theorem nthU_get {us : List (Nat × Nat)} {i : Nat} (h : i < us.length) : us[i]? = some (nthU us i) := by simp [nthU, List.getD, List.getElem?_eq_getElem h]
theorem numW_lt {s : Bs} {n : Nat} (h : numW s = some n) : n < 1000000 := by
  unfold numW at h
  split at h
  · rename_i hh
    obtain ⟨_, hl, ha⟩ := hh
    simp only [Option.some.injEq] at h
    subst h
    have key : ∀ (s : Bs) (a : Nat), s.all isDig = true → s.foldl (fun n c => n * 10 + (c.toNat - 48)) a < (a + 1) * 10 ^ s.length := by
      intro s
      induction s with
      | nil => intro a _; simp
      | cons c s ih =>
        intro a ha
        simp only [List.all_cons, Bool.and_eq_true] at ha
        have h1 := ih (a * 10 + (c.toNat - 48)) ha.2
        have hb : 48 ≤ c.toNat ∧ c.toNat ≤ 57 := by have := ha.1; unfold isDig at this; simpa using this
        have h2 : (a * 10 + (c.toNat - 48) + 1) * 10 ^ s.length ≤ ((a + 1) * 10) * 10 ^ s.length := Nat.mul_le_mul_right _ (by omega)
        rw [List.foldl_cons, List.length_cons, Nat.pow_succ, Nat.mul_comm (10 ^ s.length) 10, ← Nat.mul_assoc]
        exact Nat.lt_of_lt_of_le h1 h2
    have h1 := key s 0 ha
    unfold valD
    have h2 : (10 : Nat) ^ s.length ≤ 10 ^ 6 := Nat.pow_le_pow_right (by decide) hl
    omega
  · cases h
theorem numD_lt (ws : List Bs) (i : Nat) : numD ws i < 1000000 := by
  unfold numD
  cases h : numW (nthW ws i) with
  | none => decide
  | some n => exact numW_lt h
theorem mapM_all {ws : List Bs} (h : ∀ w ∈ ws, numW w ≠ none) : ws.mapM numW = some (ws.map fun w => (numW w).getD 0) := by
  induction ws with
  | nil => rfl
  | cons w ws ih =>
    rw [List.mapM_cons, ih fun x hx => h x (List.mem_cons_of_mem _ hx)]
    cases hw : numW w with
    | none => exact absurd hw (h w List.mem_cons_self)
    | some n => simp [hw]
theorem mapM_no {ws : List Bs} {w : Bs} (hm : w ∈ ws) (h : numW w = none) : ws.mapM numW = none := by
  cases hh : ws.mapM numW with
  | none => rfl
  | some ns =>
    exfalso
    induction ws generalizing ns with
    | nil => cases hm
    | cons x ws ih =>
      rw [List.mapM_cons] at hh
      rcases List.mem_cons.1 hm with rfl | hm
      · rw [h] at hh; simp at hh
      · cases hx : numW x with
        | none => rw [hx] at hh; simp at hh
        | some n =>
          rw [hx] at hh
          cases hp : ws.mapM numW with
          | none => rw [hp] at hh; simp at hh
          | some ms => exact ih hm ms hp
theorem words_units (s : Bs) : (wordsA s).2 = unitsA ∨ (wordsA s).2 = unitsA.drop 1 ∨ (wordsA s).2 = unitsA.drop 2 := by
  unfold wordsA
  split
  · exact .inl rfl
  · split
    · exact .inr (.inr rfl)
    · exact .inr (.inl rfl)
theorem words_pos (s : Bs) : 0 < (wordsA s).1.length := by
  unfold wordsA
  split
  · simp
  · split <;> exact split_pos 3 s
theorem words_le (s : Bs) : (wordsA s).1.length ≤ 5 := by
  unfold wordsA
  split
  · rename_i d r _; have := split_le 3 r; simp; omega
  · have := split_le 3 s; split <;> simp <;> omega
/-- More words than units: no form. -/
theorem parse_long {s : Bs} (h : (wordsA s).2.length < (wordsA s).1.length) : parseA s = (0, 60) := by unfold parseA; rw [if_pos h]
/-- A word that is no number. -/
theorem parse_bad {s : Bs} {i : Nat} (hi : i < (wordsA s).1.length) (h : numW (nthW (wordsA s).1 i) = none) : parseA s = (0, 60) := by
  unfold parseA
  split
  · rfl
  · rw [mapM_no (List.mem_of_getElem? (nthW_get hi)) h]
/-- All words are numbers. -/
theorem parse_good {s : Bs} (hl : (wordsA s).1.length ≤ (wordsA s).2.length) (h : ∀ i, i < (wordsA s).1.length → numW (nthW (wordsA s).1 i) ≠ none) :
    parseA s = endA (grN (wordsA s).1 (wordsA s).2 (wordsA s).1.length) (totN (wordsA s).1 (wordsA s).2 (wordsA s).1.length) := by
  have hm := mapM_all (ws := (wordsA s).1) fun w hw => by
    obtain ⟨i, hi, rfl⟩ := List.mem_iff_getElem.1 hw
    have := h i hi
    have e := nthW_get hi
    rw [List.getElem?_eq_getElem hi] at e
    rw [Option.some.inj e]; exact this
  have hu := words_units s
  have h0 := words_pos s
  unfold parseA
  rw [if_neg (by omega), hm]
  simp only
  generalize (wordsA s).1 = ws at *
  generalize (wordsA s).2 = us at *
  match ws with
  | [] => simp at h0
  | [a] => rcases hu with rfl | rfl | rfl <;> exact end_eq (by simp [greatA, grN, unitsA]) (by simp [totalA, totN, unitsA, numD, nthW, nthU])
  | [a, b] => rcases hu with rfl | rfl | rfl <;> exact end_eq (by simp [greatA, grN, unitsA, numD, nthW, nthU]) (by simp [totalA, totN, unitsA, numD, nthW, nthU])
  | [a, b, c] =>
    rcases hu with rfl | rfl | rfl
    · exact end_eq (by simp [greatA, grN, unitsA, numD, nthW, nthU]) (by simp [totalA, totN, unitsA, numD, nthW, nthU]; omega)
    · exact end_eq (by simp [greatA, grN, unitsA, numD, nthW, nthU]) (by simp [totalA, totN, unitsA, numD, nthW, nthU]; omega)
    · simp [unitsA] at hl
  | [a, b, c, d] =>
    rcases hu with rfl | rfl | rfl
    · exact end_eq (by simp [greatA, grN, unitsA, numD, nthW, nthU, Bool.or_assoc]) (by simp [totalA, totN, unitsA, numD, nthW, nthU]; omega)
    · simp [unitsA] at hl
    · simp [unitsA] at hl
  | a :: b :: c :: d :: e :: r => rcases hu with rfl | rfl | rfl <;> simp [unitsA] at hl <;> omega
theorem totN_le (ws : List Bs) (us : List (Nat × Nat)) (hu : us = unitsA ∨ us = unitsA.drop 1 ∨ us = unitsA.drop 2) : ∀ i, i ≤ 5 → totN ws us i ≤ i * 86400000000
  | 0, _ => by simp [totN]
  | i + 1, h => by
    have ih := totN_le ws us hu i (by omega)
    have hd := numD_lt ws i
    have hw : (nthU us i).1 ≤ 86400 := by
      have hi : i = 0 ∨ i = 1 ∨ i = 2 ∨ i = 3 ∨ i = 4 := by omega
      rcases hu with rfl | rfl | rfl <;> rcases hi with rfl | rfl | rfl | rfl | rfl <;> decide
    have := Nat.mul_le_mul (Nat.le_of_lt hd) hw
    show totN ws us i + numD ws i * (nthU us i).1 ≤ _
    omega
theorem unit_bd (us : List (Nat × Nat)) (hu : us = unitsA ∨ us = unitsA.drop 1 ∨ us = unitsA.drop 2) (i : Nat) (h : i ≤ 5) : (nthU us i).1 ≤ 86400 ∧ (nthU us i).2 ≤ 59 := by
  have hi : i = 0 ∨ i = 1 ∨ i = 2 ∨ i = 3 ∨ i = 4 ∨ i = 5 := by omega
  rcases hu with rfl | rfl | rfl <;> rcases hi with rfl | rfl | rfl | rfl | rfl | rfl <;> decide
theorem split_len (k : Nat) : ∀ (s : Bs), ∀ w ∈ splitK 58 k s, w.length ≤ s.length := by
  induction k with
  | zero => intro s w hw; simp [splitK] at hw; subst hw; exact Nat.le_refl _
  | succ k ih =>
    intro s w hw
    unfold splitK at hw
    cases hc : cut1 58 s with
    | none => rw [hc] at hw; simp at hw; subst hw; exact Nat.le_refl _
    | some p =>
      obtain ⟨a, b⟩ := p
      have hl : s.length = a.length + (b.length + 1) := by rw [(cut1_some hc).1]; simp
      rw [hc] at hw
      simp only [List.mem_cons] at hw
      rcases hw with rfl | hw
      · omega
      · have := ih b w hw; omega
theorem word_len (s : Bs) (i : Nat) (hi : i < (wordsA s).1.length) : (nthW (wordsA s).1 i).length ≤ s.length := by
  have hm := List.mem_of_getElem? (nthW_get hi)
  generalize nthW (wordsA s).1 i = w at *
  unfold wordsA at hm
  cases hc : cut1 45 s with
  | none =>
    rw [hc] at hm
    simp only at hm
    split at hm <;> exact split_len 3 s w hm
  | some p =>
    obtain ⟨a, b⟩ := p
    have hl : s.length = a.length + (b.length + 1) := by rw [(cut1_some hc).1]; simp
    rw [hc] at hm
    simp only [List.mem_cons] at hm
    rcases hm with rfl | hm
    · omega
    · have := split_len 3 b w hm; omega
theorem endA_wf (g : Bool) (t : Nat) : 0 ≤ (endA g t).1 ∧ (endA g t).1 ≤ 1073741824 := by
  unfold endA; split
  · simp
  · rename_i h; simp only [not_or] at h; simp; omega
end Go.Proofs.YtndlgjphkpceoaaDoor
