/-
  The free blocks, reckoned.
-/
import Derived.Test.YtcdlfhheolbhaaaYdR
namespace Go.Proofs.Ytcdlfhheolbhaaa
set_option linter.unusedVariables false

/-- The same as isF, reckoned. -/
def allC (op : Opn) (o s : Nat) : Bool := (List.range (2 ^ o)).all fun i => op (s + i)
theorem allC_iff {op : Opn} {o s : Nat} : allC op o s = true ↔ allB op o s := by
  unfold allC allB inB
  rw [List.all_eq_true]
  constructor
  · intro h x hx
    have := h (x - s) (List.mem_range.2 (by omega))
    rwa [show s + (x - s) = x by omega] at this
  · intro h i hi
    exact h (s + i) ⟨by omega, by have := List.mem_range.1 hi; omega⟩
def isC (n : Nat) (op : Opn) (o s : Nat) : Bool := decide (o ≤ n) && (s % 2 ^ o == 0) && decide (s + 2 ^ o ≤ 2 ^ n) && allC op o s && (decide (o = n) || !allC op (o + 1) (up o s))
theorem isC_iff {n : Nat} {op : Opn} {o s : Nat} : isC n op o s = true ↔ isF n op o s := by
  unfold isC isF
  rw [Bool.and_eq_true, Bool.and_eq_true, Bool.and_eq_true, Bool.and_eq_true, decide_eq_true_eq, beq_iff_eq, decide_eq_true_eq, allC_iff, Bool.or_eq_true, decide_eq_true_eq, Bool.not_eq_true', ← Bool.not_eq_true, allC_iff]
  constructor
  · rintro ⟨⟨⟨⟨h1, h2⟩, h3⟩, h4⟩, h5⟩
    exact ⟨h1, h2, h3, h4, fun hlt => h5.resolve_left (by omega)⟩
  · rintro ⟨h1, h2, h3, h4, h5⟩
    refine ⟨⟨⟨⟨h1, h2⟩, h3⟩, h4⟩, ?_⟩
    rcases Nat.lt_or_eq_of_le h1 with h | h
    · exact .inr (h5 h)
    · exact .inl h
def frC (n : Nat) (op : Opn) (o : Nat) : List Nat := (List.range (2 ^ n)).filter fun s => isC n op o s
theorem frC_eq (n : Nat) (op : Opn) (o : Nat) : frL n op o = frC n op o := by
  symm
  refine frL_of (List.Pairwise.filter _ List.pairwise_lt_range) fun s => ?_
  unfold frC
  rw [List.mem_filter, isC_iff]
  exact ⟨fun h => h.2, fun h => ⟨List.mem_range.2 (by have := h.2.2.1; have := two_pos o; omega), h⟩⟩
def freeC (n : Nat) (op : Opn) : List Bk := (List.range (2 ^ n)).flatMap fun s => ((List.range (n + 1)).filter fun o => isC n op o s).map fun o => (s, o)
open Classical in
theorem freeC_eq (n : Nat) (op : Opn) : freeL n op = freeC n op := by
  unfold freeL freeC
  congr 1
  funext s
  congr 1
  refine List.filter_congr fun o _ => ?_
  rw [Bool.eq_iff_iff, isC_iff]
  exact ⟨fun h => of_decide_eq_true h, fun h => decide_eq_true h⟩
/-! The chapter's example. -/
theorem ex0 : frL 3 (opn 3 [] []) 1 = [] ∧ frL 3 (opn 3 [] []) 2 = [] ∧ frL 3 (opn 3 [] []) 3 = [0] := by rw [frC_eq, frC_eq, frC_eq]; decide
theorem ex1 : frL 3 (opn 3 [(0, 1)] []) 0 = [] ∧ frL 3 (opn 3 [(0, 1)] []) 1 = [2] := by rw [frC_eq, frC_eq]; decide
theorem ex2 : frL 3 (opn 3 [(0, 1), (2, 0)] []) 1 = [] ∧ frL 3 (opn 3 [(0, 1), (2, 0)] []) 2 = [4] := by rw [frC_eq, frC_eq]; decide
theorem ex3 : freeL 3 (opn 3 [(0, 1), (2, 0), (4, 1)] []) = [(3, 0), (6, 1)] := by rw [freeC_eq]; decide
theorem ex4 : freeL 3 (opn 3 [(0, 1), (2, 0), (4, 1)] [7]) = [(3, 0), (6, 0)] := by rw [freeC_eq]; decide
theorem ex5 : freeL 3 (opn 3 [(2, 0), (4, 1)] [7]) = [(0, 1), (3, 0), (6, 0)] := by rw [freeC_eq]; decide
theorem ex6 : frL 3 (opn 3 [(4, 1)] [7]) 2 = [0] := by rw [frC_eq]; decide
theorem ex7 : frL 3 (opn 3 [(2, 0), (4, 1)] [7]) 2 = [] ∧ frL 3 (opn 3 [(2, 0), (4, 1)] [7]) 3 = [] := by rw [frC_eq, frC_eq]; decide
end Go.Proofs.Ytcdlfhheolbhaaa
