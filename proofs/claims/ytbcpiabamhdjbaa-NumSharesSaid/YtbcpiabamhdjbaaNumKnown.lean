/-
  gangerlaw01.known: what the chapter's examples fix holds.
-/
import Derived.Test.YtbcpiabamhdjbaaCut
namespace Go.Proofs.Ytbcpiabamhdjbaa
open Go.ChangeShapes Go.WideShapes Go.ChangeAt Go.RowKit
set_option linter.unusedVariables false

theorem k_add (w : World) : Calls Try.prog 11 #[.int .i64 9223372036854775807, .int .i64 1] w fun e w' => e = .returned (.tuple #[.int .i64 0, .int .i64 10]) ∧ w' = w :=
  (add_any 9223372036854775807 1 w (by decide) (by decide)).mono fun _ _ ⟨h, h'⟩ => ⟨h.trans (ret_tup2 (by decide) (by decide)), h'⟩
theorem k_div (w : World) : Calls Try.prog 22 #[.int .i64 (-7), .int .i64 2] w fun e w' => e = .returned (.tuple #[.int .i64 (-4), .int .i64 1, .int .i64 0]) ∧ Below w.heap.size w w' :=
  (div_any (-7) 2 w (by decide) (by decide)).mono fun _ _ ⟨h, h'⟩ => ⟨h.trans (ret_tup3 (by decide) (by decide) (by decide)), h'⟩
theorem k_div2 (w : World) : Calls Try.prog 22 #[.int .i64 (-7), .int .i64 (-2)] w fun e w' => e = .returned (.tuple #[.int .i64 4, .int .i64 1, .int .i64 0]) ∧ Below w.heap.size w w' :=
  (div_any (-7) (-2) w (by decide) (by decide)).mono fun _ _ ⟨h, h'⟩ => ⟨h.trans (ret_tup3 (by decide) (by decide) (by decide)), h'⟩
theorem k_muldiv (w : World) : Calls Try.prog 26 #[.int .i64 9223372036854775807, .int .i64 10, .int .i64 20] w fun e w' => e = .returned (.tuple #[.int .i64 4611686018427387903, .int .i64 0]) ∧ Below w.heap.size w w' :=
  (muldiv_any 9223372036854775807 10 20 w (by decide) (by decide) (by decide)).mono fun _ _ ⟨h, h'⟩ => ⟨h.trans (ret_tup2 (by decide) (by decide)), h'⟩
theorem k_up (w : World) : Calls Try.prog 28 #[.int .i64 5] w fun e w' => e = .returned (.tuple #[.int .i64 8, .int .i64 3]) ∧ w' = w :=
  (up_any 5 w (by decide)).mono fun _ _ ⟨h, h'⟩ => ⟨h.trans (ret_tup2 (by decide) (by decide)), h'⟩
theorem k_cut (w : World) : Calls Try.prog 33 #[.int .i64 300, .int .i8 (-5), .int .i8 7] w fun e w' => e = .returned (.int .i8 7) ∧ w' = w :=
  (cut_i8 300 (-5) 7 w (by decide) (by decide) (by decide) (by decide) (by decide)).mono fun _ _ ⟨h, h'⟩ => ⟨h.trans (ret_int (by decide)), h'⟩
theorem k_sum (b c : Nat) (w : World) (h0 : w.cell? ⟨b, 0, none⟩ = some (.int .i64 9223372036854775807)) (h1 : w.cell? ⟨b, 1, none⟩ = some (.int .i64 1)) (h2 : w.cell? ⟨b, 2, none⟩ = some (.int .i64 (-1))) :
    Calls Try.prog 25 #[.slice (some ⟨b, 0, none⟩) 3 c] w fun e w' => e = .returned (.int .i64 9223372036854775806) ∧ w' = w :=
  (sum_row b 0 c [9223372036854775807, 1, -1] w (by decide) (by simp [I64]) (by
    intro k hk
    match k, hk with
    | 0, _ => exact h0
    | 1, _ => exact h1
    | 2, _ => exact h2
    | k + 3, hk => simp at hk; omega)).mono fun _ _ ⟨h, h'⟩ => ⟨h.trans (ret_int (by decide)), h'⟩

theorem known_any (w : World) : Calls Try.prog 15 #[] w fun e w' => e = .returned (.bool true) ∧ Below w.heap.size w w' := by
  go_enter Try.func15, Try.ntmps15
  go_wp2_with fail
  refine (k_add _).mono ?_; rintro e w1 ⟨rfl, rfl⟩
  go_wp2_with fail
  refine (k_div _).mono ?_; rintro e w2 ⟨rfl, b2⟩
  go_wp2_with fail
  refine (k_div2 _).mono ?_; rintro e w3 ⟨rfl, b3⟩
  go_wp2_with fail
  refine (k_muldiv _).mono ?_; rintro e w4 ⟨rfl, b4⟩
  go_wp2_with fail
  refine (k_up _).mono ?_; rintro e w5 ⟨rfl, rfl⟩
  go_wp2_with fail
  refine (k_sum _ _ _ (by simp [go_sem]) (by simp [go_sem]) (by simp [go_sem])).mono ?_; rintro e w5 ⟨rfl, rfl⟩
  go_wp2_with fail
  refine (k_cut _).mono ?_; rintro e w6 ⟨rfl, rfl⟩
  go_wp2_with fail
  go_ret
  exact ⟨rfl, ((b2.trans (b3.mono b2.size)).trans (b4.mono (b2.trans (b3.mono b2.size)).size)).alloc (by have := b2.size; have := b3.size; have := b4.size; omega) _⟩
end Go.Proofs.Ytbcpiabamhdjbaa
