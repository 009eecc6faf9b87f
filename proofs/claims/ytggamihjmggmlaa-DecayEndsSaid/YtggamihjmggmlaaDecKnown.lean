/-
  gangerlaw02.known: what the chapter's examples fix holds.
-/
import Derived.Test.YtggamihjmggmlaaDec3
namespace Go.Proofs.Ytggamihjmggmlaa
open Go.ChangeShapes Go.WideShapes Go.ChangeAt Go.RowKit
set_option linter.unusedVariables false

theorem kd_after (w : World) (t : Int) (r : Int) (T R : Nat) (hT : t = T) (hb : T ≤ 1099511627776) (hR : r = R) (h : aftN 1000 T 10 = R) : Calls Try.prog 13 #[.int .i64 1000, .int .i64 t, .int .i64 10] w fun e w' => e = .returned (.tuple #[.int .i64 r, .int .i64 0]) ∧ Below w.heap.size w w' := by
  subst hT hR
  have := after_ok 1000 T 10 w (by omega) hb (by omega) (by omega)
  rw [h] at this; exact this
theorem kd_charge (w : World) : Calls Try.prog 17 #[.agg #[.int .i64 100, .int .i64 0], .int .i64 10, .int .i64 7, .int .i64 10] w
      fun e w' => e = .returned (.tuple #[.agg #[.int .i64 57, .int .i64 10], .int .i64 0]) ∧ Below w.heap.size w w' :=
  (charge_ok 100 0 10 7 10 w (by omega) (by omega) (by omega) (by omega) (by omega) (by omega)).mono fun _ _ ⟨h, h'⟩ => ⟨h.trans (ret_use (by decide) rfl rfl), h'⟩
theorem kd_until (w : World) : Calls Try.prog 15 #[.int .i64 1000, .int .i64 10] w fun e w' => e = .returned (.tuple #[.int .i64 100, .int .i64 0]) ∧ w' = w :=
  (until_ok 1000 10 w (by omega) (by omega) (by omega)).mono fun _ _ ⟨h, h'⟩ => ⟨h.trans (ret_tup2 (by decide) rfl), h'⟩

theorem known_any (w : World) : Calls Try.prog 12 #[] w fun e w' => e = .returned (.bool true) ∧ Below w.heap.size w w' := by
  go_enter Try.func12, Try.ntmps12
  go_wp2_with fail
  refine (kd_after _ 10 500 10 500 rfl (by omega) rfl (by decide)).mono ?_; rintro e w1 ⟨rfl, b1⟩
  go_wp2_with fail
  refine (kd_after _ 5 707 5 707 rfl (by omega) rfl (by decide)).mono ?_; rintro e w2 ⟨rfl, b2⟩
  go_wp2_with fail
  refine (kd_after _ 25 176 25 176 rfl (by omega) rfl (by decide)).mono ?_; rintro e w3 ⟨rfl, b3⟩
  have B3 := below_next b3 (below_next b2 b1)
  clear b1 b2 b3
  go_wp2_with fail
  refine (kd_charge _).mono ?_; rintro e w4 ⟨rfl, b4⟩
  have B4 := below_next b4 B3
  go_wp2_with fail
  refine (kd_until _).mono ?_; rintro e w5 ⟨rfl, hw5⟩
  obtain rfl := hw5
  go_wp2_with fail
  go_ret
  exact ⟨rfl, by have := B4.size; go_grown⟩
end Go.Proofs.Ytggamihjmggmlaa
