/-
  Profiles, plainly: by their places. No program is imported.
-/
import Derived.Test.YtnbgipegfnpobaaPr
namespace Go.Proofs.Ytnbgipegfnpobaa
set_option linter.unusedVariables false

def lv (p : List Lv) (i : Nat) : Lv := p.getD i (0, 0)
theorem lv_get {p : List Lv} {i : Nat} (h : i < p.length) : p[i]? = some (lv p i) := by simp [lv, List.getD, List.getElem?_eq_getElem h]
theorem lv_mem {p : List Lv} {i : Nat} (h : i < p.length) : lv p i ∈ p := List.mem_of_getElem? (lv_get h)
theorem mem_lv {p : List Lv} {x : Lv} (h : x ∈ p) : ∃ i, i < p.length ∧ lv p i = x := by
  obtain ⟨i, hi, e⟩ := List.mem_iff_getElem.1 h
  refine ⟨i, hi, ?_⟩
  have := lv_get hi
  rw [List.getElem?_eq_getElem hi, e] at this
  exact (Option.some.inj this).symm
theorem lv_cons_succ (a : Lv) (p : List Lv) (i : Nat) : lv (a :: p) (i + 1) = lv p i := by simp [lv]
theorem lv_zero (a : Lv) (p : List Lv) : lv (a :: p) 0 = a := by simp [lv]
/-- A profile. -/
def okL (a : Lv) : Prop := (0 ≤ a.1 ∧ a.1 ≤ MaxT) ∧ (0 ≤ a.2 ∧ a.2 ≤ MaxT)
instance (a : Lv) : Decidable (okL a) := by unfold okL; exact inferInstance
def okAt (p : List Lv) (i : Nat) : Prop := okL (lv p i) ∧ (0 < i → (lv p (i - 1)).1 < (lv p i).1 ∧ (lv p (i - 1)).2 ≠ (lv p i).2)
instance (p : List Lv) (i : Nat) : Decidable (okAt p i) := by unfold okAt; exact inferInstance
def okP (p : List Lv) : Prop := p ≠ [] ∧ ∀ i, i < p.length → okAt p i
open Classical in
noncomputable def checkV (p : List Lv) : Int := if okP p then 0 else 50
theorem checkV_ok {p : List Lv} (h : okP p) : checkV p = 0 := by unfold checkV; rw [if_pos h]
theorem checkV_no {p : List Lv} (h : ¬ okP p) : checkV p = 50 := by unfold checkV; rw [if_neg h]
theorem chain_of : ∀ {p : List Lv}, (∀ i, i + 1 < p.length → (lv p i).1 < (lv p (i + 1)).1 ∧ (lv p i).2 ≠ (lv p (i + 1)).2) → Chain p
  | [], _ => trivial
  | [_], _ => trivial
  | a :: b :: r, h => ⟨by simpa [lv] using h 0 (by simp), chain_of (p := b :: r) fun i hi => by
      have := h (i + 1) (by simp at hi ⊢; omega)
      simpa [lv] using this⟩
theorem Chain.at : ∀ {p : List Lv}, Chain p → ∀ i, i + 1 < p.length → (lv p i).1 < (lv p (i + 1)).1 ∧ (lv p i).2 ≠ (lv p (i + 1)).2
  | [], _, i, hi => by simp at hi
  | [_], _, i, hi => by simp at hi
  | a :: b :: r, h, 0, _ => by simpa [lv] using h.1
  | a :: b :: r, h, i + 1, hi => by
    have := Chain.at (p := b :: r) h.2 i (by simp at hi ⊢; omega)
    simpa [lv] using this
theorem Inc.at : ∀ {p : List Lv}, Inc p → ∀ i j, i < j → j < p.length → (lv p i).1 < (lv p j).1
  | [], _, i, j, _, hj => by simp at hj
  | a :: r, h, 0, j + 1, _, hj => by
    rw [lv_zero, lv_cons_succ]
    exact Inc.head h _ (lv_mem (by simpa using hj))
  | a :: r, h, i + 1, j + 1, hij, hj => by
    rw [lv_cons_succ, lv_cons_succ]
    exact Inc.at h.tail i j (by omega) (by simpa using hj)
theorem okP.chain {p : List Lv} (h : okP p) : Chain p := chain_of fun i hi => (h.2 (i + 1) hi).2 (by omega)
theorem okP.inc {p : List Lv} (h : okP p) : Inc p := h.chain.inc
theorem okP.all {p : List Lv} (h : okP p) : ∀ x ∈ p, okL x := fun x hx => by
  obtain ⟨i, hi, rfl⟩ := mem_lv hx
  exact (h.2 i hi).1
theorem okP_of {p : List Lv} (h0 : p ≠ []) (hc : Chain p) (ha : ∀ x ∈ p, okL x) : okP p :=
  ⟨h0, fun i hi => ⟨ha _ (lv_mem hi), fun h => by
    have := hc.at (i - 1) (by omega)
    rw [show i - 1 + 1 = i by omega] at this
    exact this⟩⟩

/-- How many levels have begun. -/
def num : List Lv → Int → Nat
  | [], _ => 0
  | a :: r, t => if a.1 ≤ t then num r t + 1 else 0
theorem num_cons (a : Lv) (r : List Lv) (t : Int) : num (a :: r) t = if a.1 ≤ t then num r t + 1 else 0 := rfl
theorem num_le : ∀ (p : List Lv) (t : Int), num p t ≤ p.length
  | [], _ => Nat.le_refl _
  | a :: r, t => by unfold num; split <;> simp; exact num_le r t
theorem num_lt : ∀ (p : List Lv) (t : Int) (i : Nat), i < num p t → (lv p i).1 ≤ t
  | [], _, i, h => by simp [num] at h
  | a :: r, t, i, h => by
    unfold num at h
    split at h
    · cases i with
      | zero => rw [lv_zero]; assumption
      | succ i => rw [lv_cons_succ]; exact num_lt r t i (by omega)
    · omega
theorem num_ge : ∀ {p : List Lv}, Inc p → ∀ (t : Int) (i : Nat), num p t ≤ i → i < p.length → t < (lv p i).1
  | [], _, _, i, _, hi => by simp at hi
  | a :: r, h, t, i, h1, hi => by
    unfold num at h1
    split at h1
    · cases i with
      | zero => omega
      | succ i => rw [lv_cons_succ]; exact num_ge h.tail t i (by omega) (by simpa using hi)
    · rename_i ha
      have : a.1 ≤ (lv (a :: r) i).1 := by
        rcases List.mem_cons.1 (lv_mem hi) with e | e
        · rw [e]; exact Int.le_refl _
        · exact Int.le_of_lt (Inc.head h _ e)
      omega
/-- The number is told by its place. -/
theorem num_uniq {p : List Lv} (h : Inc p) {t : Int} {k : Nat} (hk : k ≤ p.length) (h1 : ∀ i, i < k → (lv p i).1 ≤ t) (h2 : ∀ i, k ≤ i → i < p.length → t < (lv p i).1) : num p t = k := by
  have a1 := num_le p t
  rcases Nat.lt_trichotomy (num p t) k with hh | hh | hh
  · have := num_ge h t (num p t) (Nat.le_refl _) (by omega)
    have := h1 (num p t) hh
    omega
  · exact hh
  · have := num_lt p t k hh
    have := h2 k (Nat.le_refl _) (by omega)
    omega
theorem vG_num (p : List Lv) : ∀ (n : Int) (t : Int), Inc p → vG n p t = if num p t = 0 then n else (lv p (num p t - 1)).2 := by
  induction p with
  | nil => intro n t _; rfl
  | cons a r ih =>
    intro n t h
    show vG (if a.1 ≤ t then a.2 else n) r t = _
    rw [ih _ t h.tail]
    rw [num_cons]
    by_cases ha : a.1 ≤ t
    · rw [if_pos ha, if_pos ha, if_neg (show ¬ num r t + 1 = 0 by omega), Nat.add_sub_cancel]
      by_cases h0 : num r t = 0
      · rw [if_pos h0, h0, lv_zero]
      · rw [if_neg h0]
        obtain ⟨k, hk⟩ : ∃ k, num r t = k + 1 := ⟨num r t - 1, by omega⟩
        rw [hk, lv_cons_succ, Nat.add_sub_cancel]
    · rw [if_neg ha, if_neg ha, if_pos rfl]
      have : num r t = 0 := by
        cases r with
        | nil => rfl
        | cons b r => rw [num_cons, if_neg (by have := h.1; omega)]
      rw [if_pos this]
theorem vA_num {p : List Lv} (h : Inc p) (t : Int) : vA p t = if num p t = 0 then 0 else (lv p (num p t - 1)).2 := vG_num p 0 t h
theorem num_pos {p : List Lv} (h : Inc p) (h0 : p ≠ []) {t : Int} : num p t = 0 ↔ t < (lv p 0).1 := by
  cases p with
  | nil => exact absurd rfl h0
  | cons a r => rw [lv_zero, num_cons]; split <;> omega
open Classical in
noncomputable def atV (p : List Lv) (t : Int) : Int := if okP p then vA p t else 0
theorem atV_ok {p : List Lv} (h : okP p) (t : Int) : atV p t = vA p t := by unfold atV; rw [if_pos h]
theorem atV_no {p : List Lv} (h : ¬ okP p) (t : Int) : atV p t = 0 := by unfold atV; rw [if_neg h]
/-- What the reference's loop has found behind i levels. -/
def vT (p : List Lv) (t : Int) (i : Nat) : Int := vG 0 (p.take i) t
theorem vT_zero (p : List Lv) (t : Int) : vT p t 0 = 0 := rfl
theorem vT_succ {p : List Lv} {i : Nat} (h : i < p.length) (t : Int) : vT p t (i + 1) = if (lv p i).1 ≤ t then (lv p i).2 else vT p t i := by
  unfold vT
  rw [List.take_add_one, lv_get h, vG_append]
  rfl
theorem vT_all (p : List Lv) (t : Int) : vT p t p.length = vA p t := by unfold vT; rw [List.take_length]
end Go.Proofs.Ytnbgipegfnpobaa
