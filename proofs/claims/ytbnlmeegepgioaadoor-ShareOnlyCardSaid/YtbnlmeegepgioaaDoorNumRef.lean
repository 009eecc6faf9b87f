
/-
  Contracts of package gangerref01's functions (numbers of 128 bits with a sign).
-/
import Derived.Test.YtbnlmeegepgioaaDoorNum
import Derived.Handy
namespace Go.Proofs.YtbnlmeegepgioaaDoor
open Go.ChangeShapes Go.WideShapes Go.ChangeAt Go.RowKit
set_option linter.unusedVariables false

theorem ret_wide {m m' : Bool} {h h' l l' : Int} (e1 : m = m') (e2 : h = h') (e3 : l = l') :
    Ending.returned (.agg #[.bool m, .int .u64 h, .int .u64 l]) = .returned (.agg #[.bool m', .int .u64 h', .int .u64 l']) := by rw [e1, e2, e3]

theorem plus_nc (a b : Bool) (h1 l1 h2 l2 : Int) (w : World) (ht : l1 ≤ IntKind.u64.wrap (l1 + l2)) :
    Calls Tryd.prog 44 #[.agg #[.bool a, .int .u64 h1, .int .u64 l1], .agg #[.bool b, .int .u64 h2, .int .u64 l2]] w
      fun e w' => e = .returned (.agg #[.bool a, .int .u64 (IntKind.u64.wrap (h1 + h2)), .int .u64 (IntKind.u64.wrap (l1 + l2))]) ∧ Below w.heap.size w w' := by
  go_enter Tryd.func44, Tryd.ntmps44
  go_wp2
  go_returns
  exact ⟨rfl, by go_grown⟩

theorem plus_c (a b : Bool) (h1 l1 h2 l2 : Int) (w : World) (ht : IntKind.u64.wrap (l1 + l2) < l1) :
    Calls Tryd.prog 44 #[.agg #[.bool a, .int .u64 h1, .int .u64 l1], .agg #[.bool b, .int .u64 h2, .int .u64 l2]] w
      fun e w' => e = .returned (.agg #[.bool a, .int .u64 (IntKind.u64.wrap (IntKind.u64.wrap (h1 + h2) + 1)), .int .u64 (IntKind.u64.wrap (l1 + l2))]) ∧ Below w.heap.size w w' := by
  go_enter Tryd.func44, Tryd.ntmps44
  go_wp2
  go_returns
  exact ⟨rfl, by go_grown⟩

theorem plus_any (a b : Bool) (A B : Nat) (w : World) (h : Fits (A + B)) :
    Calls Tryd.prog 44 #[.agg #[.bool a, .int .u64 (hiW A), .int .u64 (loW A)], .agg #[.bool b, .int .u64 (hiW B), .int .u64 (loW B)]] w
      fun e w' => e = .returned (.agg #[.bool a, .int .u64 (hiW (A + B)), .int .u64 (loW (A + B))]) ∧ Below w.heap.size w w' := by
  have h1 := hiW_bd (N := A) (by unfold Fits at *; omega)
  have h2 := loW_bd A
  have h3 := hiW_bd (N := B) (by unfold Fits at *; omega)
  have h4 := loW_bd B
  by_cases hc : loW A + loW B < 18446744073709551616
  · refine (plus_nc a b _ _ _ _ w (by rw [IntKind.wrap_u64]; omega)).mono ?_
    rintro e w' ⟨rfl, hg⟩
    exact ⟨ret_wide rfl (sum_hi0 h hc) sum_lo, hg⟩
  · refine (plus_c a b _ _ _ _ w (by rw [IntKind.wrap_u64]; omega)).mono ?_
    rintro e w' ⟨rfl, hg⟩
    exact ⟨ret_wide rfl (sum_hi1 h hc) sum_lo, hg⟩

theorem minus_nc (a b : Bool) (h1 l1 h2 l2 : Int) (w : World) (ht : l2 ≤ l1) :
    Calls Tryd.prog 52 #[.agg #[.bool a, .int .u64 h1, .int .u64 l1], .agg #[.bool b, .int .u64 h2, .int .u64 l2]] w
      fun e w' => e = .returned (.agg #[.bool a, .int .u64 (IntKind.u64.wrap (h1 - h2)), .int .u64 (IntKind.u64.wrap (l1 - l2))]) ∧ Below w.heap.size w w' := by
  go_enter Tryd.func52, Tryd.ntmps52
  go_wp2
  go_returns
  exact ⟨rfl, by go_grown⟩

theorem minus_c (a b : Bool) (h1 l1 h2 l2 : Int) (w : World) (ht : l1 < l2) :
    Calls Tryd.prog 52 #[.agg #[.bool a, .int .u64 h1, .int .u64 l1], .agg #[.bool b, .int .u64 h2, .int .u64 l2]] w
      fun e w' => e = .returned (.agg #[.bool a, .int .u64 (IntKind.u64.wrap (IntKind.u64.wrap (h1 - h2) - 1)), .int .u64 (IntKind.u64.wrap (l1 - l2))]) ∧ Below w.heap.size w w' := by
  go_enter Tryd.func52, Tryd.ntmps52
  go_wp2
  go_returns
  exact ⟨rfl, by go_grown⟩

theorem minus_any (a b : Bool) (A B : Nat) (w : World) (hA : Fits A) (h : B ≤ A) :
    Calls Tryd.prog 52 #[.agg #[.bool a, .int .u64 (hiW A), .int .u64 (loW A)], .agg #[.bool b, .int .u64 (hiW B), .int .u64 (loW B)]] w
      fun e w' => e = .returned (.agg #[.bool a, .int .u64 (hiW (A - B)), .int .u64 (loW (A - B))]) ∧ Below w.heap.size w w' := by
  by_cases hc : loW B ≤ loW A
  · refine (minus_nc a b _ _ _ _ w hc).mono ?_
    rintro e w' ⟨rfl, hg⟩
    refine ⟨ret_wide rfl ?_ ?_, hg⟩ <;> rw [IntKind.wrap_u64] <;> unfold Fits at hA <;> unfold loW at hc <;> (first | unfold hiW | unfold loW) <;> omega
  · refine (minus_c a b _ _ _ _ w (by omega)).mono ?_
    rintro e w' ⟨rfl, hg⟩
    refine ⟨ret_wide rfl ?_ ?_, hg⟩ <;> simp only [IntKind.wrap_u64] <;> unfold Fits at hA <;> unfold loW at hc <;> (first | unfold hiW | unfold loW) <;> omega

def lessB (h1 l1 h2 l2 : Int) : Bool := decide (h1 < h2 ∨ h1 = h2 ∧ l1 < l2)
theorem ret_bool {a b : Bool} (h : a = b) : Ending.returned (.bool a) = .returned (.bool b) := by rw [h]
theorem less_raw (a b : Bool) (h1 l1 h2 l2 : Int) (w : World) :
    Calls Tryd.prog 51 #[.agg #[.bool a, .int .u64 h1, .int .u64 l1], .agg #[.bool b, .int .u64 h2, .int .u64 l2]] w
      fun e w' => e = .returned (.bool (lessB h1 l1 h2 l2)) ∧ Below w.heap.size w w' := by
  by_cases c1 : h1 < h2
  · have H : Hid (true = lessB h1 l1 h2 l2) := by show _ = _; simp [lessB, c1]
    go_enter Tryd.func51, Tryd.ntmps51
    go_wp2
    go_ret
    exact ⟨ret_bool H.out, by go_grown⟩
  · by_cases c2 : h1 = h2
    · subst c2
      by_cases c3 : l1 < l2
      · have H : Hid (true = lessB h1 l1 h1 l2) := by show _ = _; simp [lessB, c3]
        go_enter Tryd.func51, Tryd.ntmps51
        go_wp2
        go_ret
        exact ⟨ret_bool H.out, by go_grown⟩
      · have H : Hid (false = lessB h1 l1 h1 l2) := by show _ = _; simp [lessB, c3]
        go_enter Tryd.func51, Tryd.ntmps51
        go_wp2
        go_ret
        exact ⟨ret_bool H.out, by go_grown⟩
    · have H : Hid (false = lessB h1 l1 h2 l2) := by show _ = _; simp [lessB, c1, c2]
      have c2' : (h1 == h2) = false := by simpa using c2
      go_enter Tryd.func51, Tryd.ntmps51
      go_wp2
      go_ret
      exact ⟨ret_bool H.out, by go_grown⟩

def ltB (A B : Nat) : Bool := decide (A < B)
theorem less_any (a b : Bool) (A B : Nat) (w : World) (hA : Fits A) (hB : Fits B) :
    Calls Tryd.prog 51 #[.agg #[.bool a, .int .u64 (hiW A), .int .u64 (loW A)], .agg #[.bool b, .int .u64 (hiW B), .int .u64 (loW B)]] w
      fun e w' => e = .returned (.bool (ltB A B)) ∧ Below w.heap.size w w' := by
  refine (less_raw a b _ _ _ _ w).mono ?_
  rintro e w' ⟨rfl, hg⟩
  refine ⟨ret_bool ?_, hg⟩
  unfold lessB ltB
  have : (hiW A < hiW B ∨ hiW A = hiW B ∧ loW A < loW B) ↔ A < B := by unfold hiW loW; omega
  rw [decide_eq_decide.2 this]

end Go.Proofs.YtbnlmeegepgioaaDoor
