/-
  Contracts of the reference's factors (layer 12).
-/
import Derived.Test.YtjhabfhpjpkpbaaPrio
namespace Go.Proofs.Ytjhabfhpjpkpbaa
open Go.ChangeShapes Go.WideShapes Go.ChangeAt Go.RowKit
set_option linter.unusedVariables false

theorem refOf_any (n most : Int) (w : World) (h : I64 n) (h' : I64 most) :
    Calls Try.prog 15 #[.int .i64 n, .int .i64 most] w fun e w' => e = .returned (.int .i64 (ofV n most)) ∧ Below w.heap.size w w' := by
  by_cases c : n < 0 ∨ most < 1
  · rw [ofV_zero c]
    by_cases c1 : n < 0
    · have d1 : decide (n < 0) = true := decide_eq_true c1
      clear h h' c c1
      go_enter Try.func15, Try.ntmps15
      go_wp2_with fail
      go_ret
      exact ⟨rfl, Below.refl _ _⟩
    · have d1 : decide (n < 0) = false := decide_eq_false c1
      have d2 : decide (most < 1) = true := decide_eq_true (by omega)
      clear h h' c c1
      go_enter Try.func15, Try.ntmps15
      go_wp2_with fail
      go_ret
      exact ⟨rfl, Below.refl _ _⟩
  · have d1 : decide (n < 0) = false := decide_eq_false (by omega)
    have d2 : decide (most < 1) = false := decide_eq_false (by omega)
    by_cases c1 : most ≤ n
    · rw [ofV_top (by omega) c1]
      have d3 : decide (most ≤ n) = true := decide_eq_true c1
      clear h h' c c1
      go_enter Try.func15, Try.ntmps15
      go_wp2_with fail
      go_ret
      exact ⟨rfl, Below.refl _ _⟩
    · have d3 : decide (most ≤ n) = false := decide_eq_false c1
      have M : Hid (∀ w, Calls Try.prog 25 #[.int .i64 n, .int .i64 65536, .int .i64 most] w fun e w' => e = .returned (.tuple #[.int .i64 (ofV n most), .int .i64 0]) ∧ Below w.heap.size w w') := by
        intro w
        refine (MulDiv_any n 65536 most w h (by decide) h').mono ?_
        have e1 : ofV n most = n * 65536 / most := by unfold ofV; rw [if_neg c, if_neg c1]
        have hb := ofV_bd n most
        have e2 : I64 (n * 65536 / most) := by rw [e1] at hb; unfold I64; omega
        have e3 : ¬ (n < 0 ∨ (65536 : Int) < 0 ∨ most < 1) := by omega
        rintro e w' ⟨rfl, hb⟩
        exact ⟨ret_tup2 (by rw [mdV, if_neg e3, e1, fitV_in e2]) (by rw [mdE, if_neg e3, fitE_in e2]), hb⟩
      generalize ofV n most = r at *
      clear h h' c c1
      go_enter Try.func15, Try.ntmps15
      go_wp2_with fail
      refine (M.out _).mono ?_; rintro e w1 ⟨rfl, b1⟩
      go_wp2_with fail
      go_ret
      exact ⟨rfl, b1⟩

theorem refAge_any (a b : Int) (w : World) (h : I64 a) (h' : I64 b) :
    Calls Try.prog 13 #[.int .i64 a, .int .i64 b] w fun e w' => e = .returned (.int .i64 (ageV a b)) ∧ Below w.heap.size w w' := by
  unfold I64 at h h'
  by_cases c : a < 0 ∨ b ≤ a
  · have e1 : ageV a b = 0 := if_pos c
    rw [e1]
    by_cases c1 : a < 0
    · have d1 : decide (a < 0) = true := decide_eq_true c1
      clear h h' c c1 e1
      go_enter Try.func13, Try.ntmps13
      go_wp2_with fail
      go_ret
      exact ⟨rfl, Below.refl _ _⟩
    · have d1 : decide (a < 0) = false := decide_eq_false c1
      have d2 : decide (b ≤ a) = true := decide_eq_true (by omega)
      clear h h' c c1 e1
      go_enter Try.func13, Try.ntmps13
      go_wp2_with fail
      go_ret
      exact ⟨rfl, Below.refl _ _⟩
  · have d1 : decide (a < 0) = false := decide_eq_false (by omega)
    have d2 : decide (b ≤ a) = false := decide_eq_false (by omega)
    have e1 : ageV a b = ofV (b - a) 1048576 := if_neg c
    have M : Hid (∀ w, Calls Try.prog 15 #[.int .i64 (b - a), .int .i64 1048576] w fun e w' => e = .returned (.int .i64 (ageV a b)) ∧ Below w.heap.size w w') := by
      intro w; rw [e1]
      exact refOf_any _ _ w (by unfold I64; omega) (by unfold I64; omega)
    have h1 : 0 ≤ b - a := by omega
    have h2 : b - a ≤ 9223372036854775807 := by omega
    clear e1
    generalize ageV a b = r at *
    clear h h' c
    go_enter Try.func13, Try.ntmps13
    go_wp2_with fail
    refine (M.out _).mono ?_; rintro e w1 ⟨rfl, b1⟩
    go_wp2_with fail
    go_ret
    exact ⟨rfl, b1⟩

theorem refSize_any (a b : Int) (w : World) (h : I64 a) (h' : I64 b) :
    Calls Try.prog 14 #[.int .i64 a, .int .i64 b] w fun e w' => e = .returned (.int .i64 (sizeV a b)) ∧ Below w.heap.size w w' := by
  unfold I64 at h h'
  by_cases c : a < 1 ∨ b < a
  · have e1 : sizeV a b = 0 := if_pos c
    rw [e1]
    by_cases c1 : a < 1
    · have d1 : decide (a < 1) = true := decide_eq_true c1
      clear h h' c c1 e1
      go_enter Try.func14, Try.ntmps14
      go_wp2_with fail
      go_ret
      exact ⟨rfl, Below.refl _ _⟩
    · have d1 : decide (a < 1) = false := decide_eq_false c1
      have d2 : decide (b < a) = true := decide_eq_true (by omega)
      clear h h' c c1 e1
      go_enter Try.func14, Try.ntmps14
      go_wp2_with fail
      go_ret
      exact ⟨rfl, Below.refl _ _⟩
  · have d1 : decide (a < 1) = false := decide_eq_false (by omega)
    have d2 : decide (b < a) = false := decide_eq_false (by omega)
    have e1 : sizeV a b = ofV a b := if_neg c
    have M : Hid (∀ w, Calls Try.prog 15 #[.int .i64 a, .int .i64 b] w fun e w' => e = .returned (.int .i64 (sizeV a b)) ∧ Below w.heap.size w w') := by
      intro w; rw [e1]
      exact refOf_any a b w (by unfold I64; omega) (by unfold I64; omega)
    clear e1
    generalize sizeV a b = r at *
    clear h h' c
    go_enter Try.func14, Try.ntmps14
    go_wp2_with fail
    refine (M.out _).mono ?_; rintro e w1 ⟨rfl, b1⟩
    go_wp2_with fail
    go_ret
    exact ⟨rfl, b1⟩


end Go.Proofs.Ytjhabfhpjpkpbaa
