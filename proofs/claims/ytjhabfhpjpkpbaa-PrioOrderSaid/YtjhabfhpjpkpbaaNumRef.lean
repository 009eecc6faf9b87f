
/-
  Contracts of package gangerref01's functions (numbers of 128 bits with a sign).
-/
import Derived.Test.YtjhabfhpjpkpbaaNum
import Derived.Handy
namespace Go.Proofs.Ytjhabfhpjpkpbaa
open Go.ChangeShapes Go.WideShapes Go.ChangeAt Go.RowKit
set_option linter.unusedVariables false

theorem ret_wide {m m' : Bool} {h h' l l' : Int} (e1 : m = m') (e2 : h = h') (e3 : l = l') :
    Ending.returned (.agg #[.bool m, .int .u64 h, .int .u64 l]) = .returned (.agg #[.bool m', .int .u64 h', .int .u64 l']) := by rw [e1, e2, e3]

theorem plus_nc (a b : Bool) (h1 l1 h2 l2 : Int) (w : World) (ht : l1 ≤ IntKind.u64.wrap (l1 + l2)) :
    Calls Try.prog 34 #[.agg #[.bool a, .int .u64 h1, .int .u64 l1], .agg #[.bool b, .int .u64 h2, .int .u64 l2]] w
      fun e w' => e = .returned (.agg #[.bool a, .int .u64 (IntKind.u64.wrap (h1 + h2)), .int .u64 (IntKind.u64.wrap (l1 + l2))]) ∧ Below w.heap.size w w' := by
  go_enter Try.func34, Try.ntmps34
  go_wp2
  go_returns
  exact ⟨rfl, by go_grown⟩

theorem plus_c (a b : Bool) (h1 l1 h2 l2 : Int) (w : World) (ht : IntKind.u64.wrap (l1 + l2) < l1) :
    Calls Try.prog 34 #[.agg #[.bool a, .int .u64 h1, .int .u64 l1], .agg #[.bool b, .int .u64 h2, .int .u64 l2]] w
      fun e w' => e = .returned (.agg #[.bool a, .int .u64 (IntKind.u64.wrap (IntKind.u64.wrap (h1 + h2) + 1)), .int .u64 (IntKind.u64.wrap (l1 + l2))]) ∧ Below w.heap.size w w' := by
  go_enter Try.func34, Try.ntmps34
  go_wp2
  go_returns
  exact ⟨rfl, by go_grown⟩

theorem plus_any (a b : Bool) (A B : Nat) (w : World) (h : Fits (A + B)) :
    Calls Try.prog 34 #[.agg #[.bool a, .int .u64 (hiW A), .int .u64 (loW A)], .agg #[.bool b, .int .u64 (hiW B), .int .u64 (loW B)]] w
      fun e w' => e = .returned (.agg #[.bool a, .int .u64 (hiW (A + B)), .int .u64 (loW (A + B))]) ∧ Below w.heap.size w w' := by
  have h1 := hiW_bd (N := A) (by unfold Fits at *; omega)
  have h2 := loW_bd A
  have h3 := hiW_bd (N := B) (by unfold Fits at *; omega)
  have h4 := loW_bd B
  by_cases hc : loW A + loW B < 18446744073709551616
  · refine (plus_nc a b _ _ _ _ w (by rw [IntKind.wrap_u64]; omega)).mono ?_
    rintro e w' ⟨rfl, hg⟩
    exact ⟨ret_wide rfl (sum_hi0 h hc) sum_lo, hg⟩
  · refine (plus_c a b _ _ _ _ w (by rw [IntKind.wrap_u64]; omega)).mono ?_
    rintro e w' ⟨rfl, hg⟩
    exact ⟨ret_wide rfl (sum_hi1 h hc) sum_lo, hg⟩




def lessB (h1 l1 h2 l2 : Int) : Bool := decide (h1 < h2 ∨ h1 = h2 ∧ l1 < l2)
theorem ret_bool {a b : Bool} (h : a = b) : Ending.returned (.bool a) = .returned (.bool b) := by rw [h]

def ltB (A B : Nat) : Bool := decide (A < B)

end Go.Proofs.Ytjhabfhpjpkpbaa
