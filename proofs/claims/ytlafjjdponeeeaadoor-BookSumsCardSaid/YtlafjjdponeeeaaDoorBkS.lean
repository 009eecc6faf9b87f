/-
  Charges, plainly: all accounts' totals are together what all charges come to; a book cut anywhere.
-/
import Derived.Test.YtlafjjdponeeeaaDoorBkF
namespace Go.Proofs.YtlafjjdponeeeaaDoor
open Go Go.RowKit Go.Lib
set_option linter.unusedVariables false

def allG : List Chg → Int
  | [] => 0
  | c :: r => c.wk * c.sc + allG r
theorem allG_app (c : Chg) : ∀ cs : List Chg, allG (cs ++ [c]) = allG cs + c.wk * c.sc
  | [] => by show allG [c] = _; unfold allG; show _ + allG [] = allG [] + _; unfold allG; omega
  | d :: r => by
    rw [List.cons_append]
    unfold allG
    rw [allG_app c r]; omega
/-- Is account i the first charge's of that name? -/
def firstB (cs : List Chg) (i : Nat) : Bool := (cs.take i).all fun c => decide (c.acct ≠ (chAt cs i).acct)
/-- What the first k charges' accounts have used, each once. -/
def sumF (cs : List Chg) : Nat → Int
  | 0 => 0
  | k + 1 => sumF cs k + if firstB cs k = true then sumG (chAt cs k).acct cs else 0
/-- The charges whose accounts stand among the first k. -/
def memB (p : List Chg) (c : Chg) : Bool := p.any fun d => decide (d.acct = c.acct)
def sumM (p : List Chg) : List Chg → Int
  | [] => 0
  | c :: r => (if memB p c = true then c.wk * c.sc else 0) + sumM p r
theorem sumM_nil : ∀ cs : List Chg, sumM [] cs = 0
  | [] => rfl
  | c :: r => by unfold sumM; rw [sumM_nil r]; rfl
theorem sumM_all : ∀ (cs p : List Chg), (∀ c ∈ cs, c ∈ p) → sumM p cs = allG cs
  | [], p, _ => rfl
  | c :: r, p, h => by
    unfold sumM allG
    rw [sumM_all r p fun d hd => h d (List.mem_cons_of_mem _ hd), if_pos]
    unfold memB
    rw [List.any_eq_true]
    exact ⟨c, h c List.mem_cons_self, by simp⟩
theorem memB_app (p : List Chg) (d c : Chg) : memB (p ++ [d]) c = (memB p c || decide (d.acct = c.acct)) := by unfold memB; rw [List.any_append]; simp
theorem sumM_old (p : List Chg) (d : Chg) (h : memB p d = true) : ∀ cs : List Chg, sumM (p ++ [d]) cs = sumM p cs
  | [] => rfl
  | c :: r => by
    unfold sumM
    rw [sumM_old p d h r, memB_app]
    by_cases hc : d.acct = c.acct
    · have : memB p c = true := by unfold memB at h ⊢; rw [← hc]; exact h
      rw [this]; simp
    · rw [decide_eq_false hc, Bool.or_false]
theorem sumM_new (p : List Chg) (d : Chg) (h : memB p d = false) : ∀ cs : List Chg, sumM (p ++ [d]) cs = sumM p cs + sumG d.acct cs
  | [] => by unfold sumM sumG; rfl
  | c :: r => by
    unfold sumM sumG
    rw [sumM_new p d h r, memB_app]
    by_cases hc : d.acct = c.acct
    · have : memB p c = false := by unfold memB at h ⊢; rw [← hc]; exact h
      rw [this, decide_eq_true hc, if_pos hc.symm]; simp; omega
    · have hne : ¬ c.acct = d.acct := fun e => hc e.symm
      rw [decide_eq_false hc, Bool.or_false]
      simp only [if_neg hne]
      generalize (if memB p c = true then c.wk * c.sc else 0) = z
      omega
theorem sumM_bd : ∀ (cs p : List Chg), (∀ c ∈ cs, okCh c = true) → 0 ≤ sumM p cs ∧ sumM p cs ≤ 1099511627776 * cs.length
  | [], p, _ => by unfold sumM; simp
  | c :: r, p, h => by
    obtain ⟨h1, h2⟩ := sumM_bd r p fun d hd => h d (List.mem_cons_of_mem _ hd)
    have hc := cost_bd (h c List.mem_cons_self)
    have e : ((c :: r).length : Int) = (r.length : Int) + 1 := by simp
    unfold sumM
    rw [e]
    split <;> omega
theorem first_mem (cs : List Chg) (i : Nat) : firstB cs i = !memB (cs.take i) (chAt cs i) := by
  unfold firstB memB
  generalize cs.take i = p
  generalize (chAt cs i).acct = a
  induction p with
  | nil => rfl
  | cons x r ih =>
    rw [List.all_cons, List.any_cons, ih]
    by_cases h : x.acct = a <;> simp [h]
theorem take_ch {cs : List Chg} {k : Nat} (h : k < cs.length) : cs.take (k + 1) = cs.take k ++ [chAt cs k] := by
  rw [List.take_add_one]
  congr 1
  unfold chAt; rw [List.getD_eq_getElem?_getD, List.getElem?_eq_getElem h]; rfl
theorem sumF_eq (cs : List Chg) : ∀ k, k ≤ cs.length → sumF cs k = sumM (cs.take k) cs
  | 0, _ => by rw [List.take_zero, sumM_nil]; rfl
  | k + 1, h => by
    unfold sumF
    rw [sumF_eq cs k (by omega), take_ch (by omega), first_mem]
    cases hm : memB (cs.take k) (chAt cs k)
    · rw [sumM_new _ _ hm]; rfl
    · rw [sumM_old _ _ hm]; simp
/-- Each account's total once: all charges. -/
theorem sumF_all (cs : List Chg) : sumF cs cs.length = allG cs := by
  rw [sumF_eq cs _ (Nat.le_refl _), List.take_length, sumM_all cs cs fun c h => h]
theorem allG_bd : ∀ (cs : List Chg), (∀ c ∈ cs, okCh c = true) → 0 ≤ allG cs ∧ allG cs ≤ 1099511627776 * cs.length
  | [], _ => by unfold allG; simp
  | c :: r, h => by
    obtain ⟨h1, h2⟩ := allG_bd r fun d hd => h d (List.mem_cons_of_mem _ hd)
    have hc := cost_bd (h c List.mem_cons_self)
    have e : ((c :: r).length : Int) = (r.length : Int) + 1 := by simp
    unfold allG
    rw [e]; omega
theorem sumG_take (acct : ByteArray) : ∀ (cs : List Chg) (k : Nat), (∀ c ∈ cs, okCh c = true) → sumG acct (cs.take k) ≤ sumG acct cs
  | [], k, _ => by simp
  | c :: r, 0, h => (sumG_bd acct (c :: r) h).1
  | c :: r, k + 1, h => by
    rw [List.take_succ_cons]
    unfold sumG
    have := sumG_take acct r k fun d hd => h d (List.mem_cons_of_mem _ hd)
    omega
theorem bookF_take : ∀ (cs : List Chg) (k : Nat) (p : Int), bookF p cs = true → bookF p (cs.take k) = true
  | [], k, p, h => by simpa using h
  | c :: r, 0, p, h => rfl
  | c :: r, k + 1, p, h => by
    rw [List.take_succ_cons]
    unfold bookF at h ⊢
    simp only [Bool.and_eq_true] at h ⊢
    exact ⟨h.1, bookF_take r k _ h.2⟩
theorem book_take {cs : List Chg} (k : Nat) (h : bookB cs = true) : bookB (cs.take k) = true := by
  have hl := (book_mem h).1
  unfold bookB at h ⊢
  simp only [Bool.and_eq_true] at h ⊢
  exact ⟨decide_eq_true (by rw [List.length_take]; omega), bookF_take cs k 0 h.2⟩
theorem tot_take {cs : List Chg} (acct : ByteArray) (k : Nat) (h : bookB cs = true) : totCh (cs.take k) acct ≤ totCh cs acct := by
  rw [totCh_sum acct h, totCh_sum acct (book_take k h)]
  exact sumG_take acct cs k (book_mem h).2
theorem take_row {w : World} {A : Option Addr} {cs : List Chg} {c k : Nat} (h : ChRow w (.slice A cs.length c) cs) (hk : k ≤ cs.length) : ChRow w (.slice A k c) (cs.take k) := by
  obtain ⟨A', c', e, hcl, hcm, hrow⟩ := h
  cases e
  have hl : (cs.take k).length = k := by rw [List.length_take]; omega
  refine ⟨A, c, by rw [hl], by omega, hcm, fun h0 => ?_⟩
  obtain ⟨b, off, e, hb, hc⟩ := hrow (by omega)
  refine ⟨b, off, e, hb, fun i hi => ?_⟩
  have e2 : chAt (cs.take k) i = chAt cs i := by unfold chAt; simp [List.getD, List.getElem?_take_of_lt (by omega : i < k)]
  rw [e2]; exact hc i (by omega)
theorem firstB_le (cs : List Chg) (i : Nat) : sumF cs (i + 1) = sumF cs i + if firstB cs i = true then sumG (chAt cs i).acct cs else 0 := rfl
theorem mod_pickS (x : Int) (n : Nat) (hn : n ≤ 1000) : ∃ U K : Nat, IntKind.u64.wrap x = (U : Int) ∧ (U : Int).tmod ((n : Int) + 1) = (K : Int) ∧ (U : Int) % ((n : Int) + 1) = (K : Int) ∧ K ≤ n ∧ ¬ ((n : Int) + 1 = 0) ∧ (((n : Int) + 1) == 0) = false := by
  have hb : 0 ≤ IntKind.u64.wrap x := by rw [IntKind.wrap_u64]; omega
  obtain ⟨U, hU⟩ := Int.eq_ofNat_of_zero_le hb
  have e : (U : Int) % ((n : Int) + 1) = ((U % (n + 1) : Nat) : Int) := by push_cast; rfl
  have hl : U % (n + 1) < n + 1 := Nat.mod_lt _ (by omega)
  refine ⟨U, U % (n + 1), hU, ?_, e, by omega, by omega, by simp; omega⟩
  rw [Int.tmod_eq_emod_of_nonneg (by omega), e]
end Go.Proofs.YtlafjjdponeeeaaDoor
