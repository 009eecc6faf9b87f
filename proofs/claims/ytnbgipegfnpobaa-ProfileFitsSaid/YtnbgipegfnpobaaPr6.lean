/-
  Compacted, place by place, plainly. No program is imported.
-/
import Derived.Test.YtnbgipegfnpobaaPr5
namespace Go.Proofs.Ytnbgipegfnpobaa
set_option linter.unusedVariables false

def dupAt (xs : List Lv) (q : Nat) : Prop := 0 < q ∧ (lv xs (q - 1)).2 = (lv xs q).2
instance (xs : List Lv) (q : Nat) : Decidable (dupAt xs q) := by unfold dupAt; exact inferInstance
/-- What is kept of the first k. -/
def cN (xs : List Lv) : Nat → List Lv
  | 0 => []
  | k + 1 => cN xs k ++ if dupAt xs k then [] else [lv xs k]
theorem cN_succ_dup {xs : List Lv} {k : Nat} (h : dupAt xs k) : cN xs (k + 1) = cN xs k := by rw [cN, if_pos h, List.append_nil]
theorem cN_succ_new {xs : List Lv} {k : Nat} (h : ¬ dupAt xs k) : cN xs (k + 1) = cN xs k ++ [lv xs k] := by rw [cN, if_neg h]
theorem cN_le (xs : List Lv) : ∀ k, (cN xs k).length ≤ k
  | 0 => Nat.le_refl _
  | k + 1 => by
    have := cN_le xs k
    unfold cN; split <;> simp <;> omega
theorem take_lv1 {xs : List Lv} {k : Nat} (h : k < xs.length) : xs.take (k + 1) = xs.take k ++ [lv xs k] := by rw [List.take_add_one, lv_get h]; rfl
theorem cN_none {xs : List Lv} : ∀ {k : Nat}, k ≤ xs.length → (∀ q, q < k → ¬ dupAt xs q) → cN xs k = xs.take k
  | 0, _, _ => rfl
  | k + 1, h, hno => by rw [cN_succ_new (hno k (Nat.lt_succ_self _)), cN_none (k := k) (by omega) fun q hq => hno q (by omega), take_lv1 (by omega)]
theorem cN_dup {xs : List Lv} : ∀ {k : Nat}, (∃ q, q < k ∧ dupAt xs q) → (cN xs k).length + 1 ≤ k
  | 0, ⟨q, hq, _⟩ => absurd hq (Nat.not_lt_zero _)
  | k + 1, ⟨q, hq, hd⟩ => by
    by_cases h : dupAt xs k
    · rw [cN_succ_dup h]; have := cN_le xs k; omega
    · have : q < k := by
        rcases Nat.lt_or_ge q k with h1 | h1
        · exact h1
        · exact absurd (show dupAt xs k by rw [show k = q by omega]; exact hd) h
      rw [cN_succ_new h]
      have := cN_dup (k := k) ⟨q, this, hd⟩
      simp; omega
def lastF (f : Int) : List Lv → Int
  | [] => f
  | c :: r => lastF c.2 r
theorem cmpR_snoc (b : Lv) : ∀ (l : List Lv) (f : Int), cmpR f (l ++ [b]) = cmpR f l ++ if b.2 = lastF f l then [] else [b]
  | [], f => by show cmpR f [b] = _; unfold cmpR lastF; split <;> rfl
  | c :: l, f => by
    show cmpR f (c :: (l ++ [b])) = _
    by_cases h : c.2 = f
    · have e1 : ∀ r, cmpR f (c :: r) = cmpR f r := fun r => by rw [cmpR, if_pos h]
      rw [e1, e1, cmpR_snoc b l f]
      show _ = _ ++ if b.2 = lastF c.2 l then [] else [b]
      rw [h]
    · have e1 : ∀ r, cmpR f (c :: r) = c :: cmpR c.2 r := fun r => by rw [cmpR, if_neg h]
      rw [e1, e1, cmpR_snoc b l c.2]; rfl
theorem lastF_snoc (b : Lv) : ∀ (l : List Lv) (f : Int), lastF f (l ++ [b]) = b.2
  | [], _ => rfl
  | c :: l, _ => lastF_snoc b l c.2
theorem cN_cons (a : Lv) (r : List Lv) : ∀ k, k ≤ r.length → cN (a :: r) (k + 1) = a :: cmpR a.2 (r.take k) ∧ lastF a.2 (r.take k) = (lv (a :: r) k).2
  | 0, _ => ⟨by rw [cN_succ_new fun h => absurd h.1 (Nat.lt_irrefl 0)]; rfl, rfl⟩
  | k + 1, h => by
    obtain ⟨h1, h2⟩ := cN_cons a r k (by omega)
    have ht := take_lv1 (xs := r) (k := k) (by omega)
    refine ⟨?_, by rw [ht, lastF_snoc, lv_cons_succ]⟩
    rw [ht, cmpR_snoc, h2]
    by_cases hd : dupAt (a :: r) (k + 1)
    · rw [cN_succ_dup hd, h1]
      have := hd.2
      rw [Nat.add_sub_cancel, lv_cons_succ] at this
      rw [if_pos this.symm, List.append_nil]
    · rw [cN_succ_new hd, h1, lv_cons_succ]
      have : ¬ (lv r k).2 = (lv (a :: r) k).2 := fun e => hd ⟨Nat.succ_pos _, by rw [Nat.add_sub_cancel, lv_cons_succ]; exact e.symm⟩
      rw [if_neg this]; rfl
theorem cN_all (xs : List Lv) : cN xs xs.length = cmpct xs := by
  cases xs with
  | nil => rfl
  | cons a r =>
    have := (cN_cons a r r.length (Nat.le_refl _)).1
    rw [List.take_length] at this
    exact this
theorem lv_append_left {a b : List Lv} {i : Nat} (h : i < a.length) : lv (a ++ b) i = lv a i := by
  unfold lv; rw [List.getD_eq_getElem?_getD, List.getD_eq_getElem?_getD, List.getElem?_append_left h]
theorem lv_append_mid (a : List Lv) (x : Lv) : lv (a ++ [x]) a.length = x := by
  unfold lv; rw [List.getD_eq_getElem?_getD, List.getElem?_append_right (Nat.le_refl _)]; simp
theorem lv_take {xs : List Lv} {k i : Nat} (h : i < k) : lv (xs.take k) i = lv xs i := by
  unfold lv; rw [List.getD_eq_getElem?_getD, List.getD_eq_getElem?_getD, List.getElem?_take, if_pos h]
end Go.Proofs.Ytnbgipegfnpobaa
