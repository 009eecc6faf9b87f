
/-
  Contracts of package num's functions, and of math/bits where the shelf has none.
-/
import Derived.Test.YtbnlmeegepgioaaDoorRows
import Derived.Test.YtbnlmeegepgioaaDoorMath
import Derived.Test.YtbnlmeegepgioaaDoorShelf
import Derived.WalkKit
import Derived.ProofKit
import Derived.OpenShut
import Derived.IntWalk
import Derived.Lib.Hide
namespace Go.Proofs.YtbnlmeegepgioaaDoor
open Go.ChangeShapes Go.WideShapes Go.ChangeAt Go.RowKit
set_option linter.unusedVariables false

theorem ret_tup2 {k l : IntKind} {a b a' b' : Int} (h : a = a') (h' : b = b') : Ending.returned (.tuple #[.int k a, .int l b]) = .returned (.tuple #[.int k a', .int l b']) := by rw [h, h']
theorem ret_int {k : IntKind} {a b : Int} (h : a = b) : Ending.returned (.int k a) = .returned (.int k b) := by rw [h]

theorem add_any (a b : Int) (w : World) (h1 : I64 a) (h2 : I64 b) :
   Calls Tryd.prog 35 #[.int .i64 a, .int .i64 b] w fun e w' => e = .returned (.tuple #[.int .i64 (fitV (a+b)), .int .i64 (fitE (a+b))]) ∧ w' = w := by
  obtain ⟨h1, h1'⟩ := h1
  obtain ⟨h2, h2'⟩ := h2
  by_cases hf : I64 (a + b)
  · have hv := Lib.hid (fitV_in hf)
    have he := Lib.hid (fitE_in hf)
    obtain ⟨h3, h4⟩ := hf
    have ht : (decide (a < a + b) == decide (0 < b)) = true := by
      rw [beq_iff_eq, decide_eq_decide]; omega
    go_enter Tryd.func35, Tryd.ntmps35
    go_wp2
    go_ret2
    rw [hv.out, he.out]
    exact ⟨rfl, rfl⟩
  · have hv := Lib.hid (fitV_out hf)
    have he := Lib.hid (fitE_out hf)
    have hw : wrap64 (a + b) = a + b - 18446744073709551616 ∧ 0 < b ∨ wrap64 (a + b) = a + b + 18446744073709551616 ∧ b ≤ 0 := by
      unfold wrap64; unfold I64 at hf; omega
    have ht : (decide (a < wrap64 (a + b)) == decide (0 < b)) = false := by
      rw [beq_eq_false_iff_ne]; intro h
      have h' := decide_eq_decide.1 h
      omega
    clear hw
    go_enter Tryd.func35, Tryd.ntmps35
    go_wp2
    go_ret2
    rw [hv.out, he.out]
    exact ⟨rfl, rfl⟩


theorem bound_t (w : World) : Calls Tryd.prog 36 #[.bool true] w fun e w' => e = .returned (.int .i64 (-9223372036854775808)) ∧ w' = w := by
  go_enter Tryd.func36, Tryd.ntmps36
  go_wp2
  go_ret
  exact ⟨rfl, rfl⟩

theorem bound_f (w : World) : Calls Tryd.prog 36 #[.bool false] w fun e w' => e = .returned (.int .i64 9223372036854775807) ∧ w' = w := by
  go_enter Tryd.func36, Tryd.ntmps36
  go_wp2
  go_ret
  exact ⟨rfl, rfl⟩


end Go.Proofs.YtbnlmeegepgioaaDoor
