/-
  Keys of layer 3, plain: the order, and the one sorted row. No program is imported.
-/
import Derived.WalkKit
import Derived.Shelf.SlSortCmp.InsertionK
import Derived.Sort.LotA
namespace Go.Proofs.Ytpgiladbljnpcaa
open Go.RowKit Go.Sort Go.Lib
set_option linter.unusedVariables false

/-- A key: priority, time, number. -/
abbrev Key := Int × Int × Int
def encK (k : Key) : List Value := [.int .i64 k.1, .int .i64 k.2.1, .int .u32 k.2.2]
def keyV (k : Key) : Value := .agg #[.int .i64 k.1, .int .i64 k.2.1, .int .u32 k.2.2]
theorem keyV_eq (k : Key) : Value.agg (encK k).toArray = keyV k := rfl
def orI (x y : Int) : Int := if x = 0 then y else x
def cmpK (a b : Key) : Int := orI (compareInt b.1 a.1) (orI (compareInt a.2.1 b.2.1) (compareInt a.2.2 b.2.2))
def kLess (a b : Key) : Bool := decide (cmpK a b < 0)
theorem lessB_iff (a b : Key) : kLess a b = true ↔ b.1 < a.1 ∨ (b.1 = a.1 ∧ (a.2.1 < b.2.1 ∨ (a.2.1 = b.2.1 ∧ a.2.2 < b.2.2))) := by
  obtain ⟨p, t, i⟩ := a
  obtain ⟨p', t', i'⟩ := b
  unfold kLess cmpK orI compareInt
  rw [decide_eq_true_eq]
  dsimp only
  by_cases h1 : p' < p
  · simp [h1]
  · by_cases h2 : p < p'
    · simp [h1, h2]; omega
    · have e : p' = p := by omega
      by_cases h3 : t < t'
      · simp [e, h3]
      · by_cases h4 : t' < t
        · simp [e, h3, h4]; omega
        · have e2 : t = t' := by omega
          by_cases h5 : i < i'
          · simp [e, e2, h5]
          · by_cases h6 : i' < i <;> simp [e, e2, h5, h6]
theorem lessB_false (a b : Key) : kLess a b = false ↔ ¬ (b.1 < a.1 ∨ (b.1 = a.1 ∧ (a.2.1 < b.2.1 ∨ (a.2.1 = b.2.1 ∧ a.2.2 < b.2.2)))) := by
  rw [← lessB_iff]; simp
theorem ltOf_cmpK : ltOf cmpK = kLess := rfl
theorem key_ext {a b : Key} (h1 : a.1 = b.1) (h2 : a.2.1 = b.2.1) (h3 : a.2.2 = b.2.2) : a = b := by
  obtain ⟨x, y, z⟩ := a; obtain ⟨x', y', z'⟩ := b; simp_all
theorem swoK : SWO (ltOf cmpK) where
  irrefl x := by rw [ltOf_cmpK, lessB_false]; omega
  trans x y z h1 h2 := by rw [ltOf_cmpK, lessB_iff] at *; omega
  ntrans x y z h1 h2 := by rw [ltOf_cmpK, lessB_false] at *; omega
theorem totK (x y : Key) (h1 : kLess x y = false) (h2 : kLess y x = false) : x = y := by
  rw [lessB_false] at h1 h2
  exact key_ext (by omega) (by omega) (by omega)
theorem less_irrefl (x : Key) : kLess x x = false := by rw [lessB_false]; omega
theorem less_trans {x y z : Key} (h1 : kLess x y = true) (h2 : kLess y z = true) : kLess x z = true := by rw [lessB_iff] at *; omega
theorem less_asymm {x y : Key} (h1 : kLess x y = true) : kLess y x = false := by rw [lessB_iff] at h1; rw [lessB_false]; omega
theorem less_ne {x y : Key} (h1 : kLess x y = true) : x ≠ y := fun e => by subst e; rw [less_irrefl] at h1; cases h1

/-- The ranked row of some keys. -/
def sortK (l : List Key) : List Key := l.mergeSort fun x y => !(ltOf cmpK) y x
theorem sortK_perm (l : List Key) : (sortK l).Perm l := List.mergeSort_perm _ _
theorem sortK_sorted (l : List Key) : (sortK l).Pairwise fun x y => kLess y x = false := by
  have h := List.pairwise_mergeSort (le := fun x y : Key => !(ltOf cmpK) y x) (fun a b c h1 h2 => by
      simp only [Bool.not_eq_true'] at *; exact swoK.ntrans _ _ _ h2 h1) (fun a b => by
      rw [ltOf_cmpK]
      cases h : kLess b a
      · simp
      · rw [less_asymm h]; simp) l
  exact h.imp fun {a b} h => by rw [Bool.not_eq_true'] at h; exact h
/-- A permutation that is sorted is the ranked row. -/
theorem sortK_eq {l m : List Key} (hp : m.Perm l) (hs : m.Pairwise fun x y => kLess y x = false) : m = sortK l :=
  List.Perm.eq_of_pairwise (le := fun x y => kLess y x = false) (fun a b _ _ h1 h2 => totK a b h2 h1) hs (sortK_sorted l) (hp.trans (sortK_perm l).symm)

/-- No two have one number. -/
def idsOk (l : List Key) : Prop := l.Pairwise fun x y => x.2.2 ≠ y.2.2
/-- Ranked: each ahead of the next. -/
def rankedB (l : List Key) : Bool := match l with | [] => true | [_] => true | a :: b :: r => kLess a b && rankedB (b :: r)
theorem rankedB_iff (l : List Key) : rankedB l = true ↔ l.Pairwise fun x y => kLess x y = true := by
  induction l with
  | nil => simp [rankedB]
  | cons a l ih =>
    cases l with
    | nil => simp [rankedB]
    | cons b r =>
      rw [rankedB, Bool.and_eq_true, ih, List.pairwise_cons (a := a)]
      constructor
      · rintro ⟨h1, h2⟩
        refine ⟨fun x hx => ?_, h2⟩
        rcases List.mem_cons.1 hx with rfl | hx
        · exact h1
        · exact less_trans h1 ((List.pairwise_cons.1 h2).1 x hx)
      · rintro ⟨h1, h2⟩
        exact ⟨h1 b List.mem_cons_self, h2⟩
instance (l : List Key) : Decidable (idsOk l) := by unfold idsOk; infer_instance
def twiceB (l : List Key) : Bool := !decide (idsOk l)
/-- What Check says. -/
def checkV (l : List Key) : Int := if twiceB l then 30 else if rankedB l then 0 else 2
end Go.Proofs.Ytpgiladbljnpcaa
