/-
  Contracts of package prio's factors (part, Of, Age, Size, within), and of the reference's.
-/
import Derived.Test.YtjhabfhpjpkpbaaNumRefMd
import Derived.Test.YtjhabfhpjpkpbaaNum4
namespace Go.Proofs.Ytjhabfhpjpkpbaa
open Go.ChangeShapes Go.WideShapes Go.ChangeAt Go.RowKit
set_option linter.unusedVariables false

/-- Which part of `most` is `n`, as a factor. -/
def ofV (n most : Int) : Int := if n < 0 ∨ most < 1 then 0 else if most ≤ n then 65536 else n * 65536 / most
def ageV (since now : Int) : Int := if since < 0 ∨ now ≤ since then 0 else ofV (now - since) 1048576
def sizeV (size all : Int) : Int := if size < 1 ∨ all < size then 0 else ofV size all

theorem ofV_zero {n most : Int} (h : n < 0 ∨ most < 1) : ofV n most = 0 := if_pos h
theorem ofV_nat {n most : Nat} (h1 : 1 ≤ most) (h2 : n ≤ most) : ofV n most = ((n * 65536 / most : Nat) : Int) := by
  unfold ofV
  rw [if_neg (by omega)]
  by_cases h : (most : Int) ≤ n
  · rw [if_pos h]
    have : n = most := by omega
    subst this
    rw [Nat.mul_div_cancel_left _ (by omega)]; rfl
  · rw [if_neg h]; simp
theorem ofV_top {n most : Int} (h1 : 1 ≤ most) (h2 : most ≤ n) : ofV n most = 65536 := by
  unfold ofV
  rw [if_neg (by omega), if_pos h2]
theorem ofV_bd (n most : Int) : 0 ≤ ofV n most ∧ ofV n most ≤ 65536 := by
  unfold ofV
  split
  · omega
  · split
    · omega
    · rename_i h1 h2
      refine ⟨Int.ediv_nonneg (by omega) (by omega), ?_⟩
      have h3 : n * 65536 / most < 65536 := by
        apply Int.ediv_lt_of_lt_mul (by omega)
        rw [Int.mul_comm 65536 most]
        exact Int.mul_lt_mul_of_pos_right (by omega) (by omega)
      omega
theorem ageV_bd (a b : Int) : 0 ≤ ageV a b ∧ ageV a b ≤ 65536 := by
  unfold ageV; split
  · omega
  · exact ofV_bd _ _
theorem sizeV_bd (a b : Int) : 0 ≤ sizeV a b ∧ sizeV a b ≤ 65536 := by
  unfold sizeV; split
  · omega
  · exact ofV_bd _ _
theorem ofV_mono {n n' most : Int} (h : n ≤ n') : ofV n most ≤ ofV n' most := by
  unfold ofV
  by_cases h1 : n < 0 ∨ most < 1
  · rw [if_pos h1]; exact (ofV_bd n' most).1
  · rw [if_neg h1, if_neg (show ¬(n' < 0 ∨ most < 1) by omega)]
    by_cases h2 : most ≤ n
    · rw [if_pos h2, if_pos (show most ≤ n' by omega)]; omega
    · rw [if_neg h2]
      by_cases h3 : most ≤ n'
      · rw [if_pos h3]
        have := (ofV_bd n most).2
        unfold ofV at this; rw [if_neg h1, if_neg h2] at this; exact this
      · rw [if_neg h3]
        exact Int.ediv_le_ediv (by omega) (by omega)
theorem ageV_mono {a b b' : Int} (h : b ≤ b') : ageV a b ≤ ageV a b' := by
  unfold ageV
  by_cases h1 : a < 0 ∨ b ≤ a
  · rw [if_pos h1]; split
    · omega
    · exact (ofV_bd _ _).1
  · rw [if_neg h1, if_neg (show ¬(a < 0 ∨ b' ≤ a) by omega)]
    exact ofV_mono (by omega)

theorem md_unit (n most : Nat) (w : World) (h1 : 1 ≤ most) (h2 : n ≤ most) (h3 : most ≤ 9223372036854775807) :
    Calls Try.prog 31 #[.int .i64 n, .int .i64 65536, .int .i64 most] w
      fun e w' => e = .returned (.tuple #[.int .i64 (ofV n most), .int .i64 0]) ∧ Below w.heap.size w w' := by
  refine (muldiv_main n 65536 most w (by omega) (by omega) h1 h3).mono ?_
  have hq := (ofV_bd n most).2
  rw [ofV_nat h1 h2] at *
  have : I64 ((n * 65536 / most : Nat) : Int) := by unfold I64; generalize n * 65536 / most = q at *; omega
  rintro e w' ⟨rfl, hb⟩
  exact ⟨ret_tup2 (fitV_in this) (fitE_in this), hb⟩

theorem part_any (n most : Nat) (w : World) (h1 : 1 ≤ most) (h2 : n ≤ most) (h3 : most ≤ 9223372036854775807) :
    Calls Try.prog 24 #[.int .i64 n, .int .i64 most] w fun e w' => e = .returned (.int .i64 (ofV n most)) ∧ Below w.heap.size w w' := by
  have M : Hid (∀ w, Calls Try.prog 31 #[.int .i64 n, .int .i64 65536, .int .i64 most] w
      fun e w' => e = .returned (.tuple #[.int .i64 (ofV n most), .int .i64 0]) ∧ Below w.heap.size w w') := fun w => md_unit n most w h1 h2 h3
  generalize ofV n most = r at *
  clear h1 h2 h3
  go_enter Try.func24, Try.ntmps24
  go_wp2_with fail
  refine (M.out _).mono ?_; rintro e w1 ⟨rfl, b1⟩
  go_wp2_with fail
  go_ret
  exact ⟨rfl, b1⟩

theorem prioOf_any (n most : Int) (w : World) (h : I64 n) (h' : I64 most) :
    Calls Try.prog 12 #[.int .i64 n, .int .i64 most] w fun e w' => e = .returned (.int .i64 (ofV n most)) ∧ Below w.heap.size w w' := by
  unfold I64 at h h'
  by_cases c : n < 0 ∨ most < 1
  · rw [ofV_zero c]
    by_cases c1 : n < 0
    · have d1 : decide (n < 0) = true := decide_eq_true c1
      clear h h' c c1
      go_enter Try.func12, Try.ntmps12
      go_wp2_with fail
      go_ret
      exact ⟨rfl, Below.refl _ _⟩
    · have d1 : decide (n < 0) = false := decide_eq_false c1
      have d2 : decide (most < 1) = true := decide_eq_true (by omega)
      clear h h' c c1
      go_enter Try.func12, Try.ntmps12
      go_wp2_with fail
      go_ret
      exact ⟨rfl, Below.refl _ _⟩
  · have d1 : decide (n < 0) = false := decide_eq_false (by omega)
    have d2 : decide (most < 1) = false := decide_eq_false (by omega)
    have M : Hid (∀ w, Calls Try.prog 24 #[.int .i64 (min n most), .int .i64 most] w fun e w' => e = .returned (.int .i64 (ofV n most)) ∧ Below w.heap.size w w') := by
      intro w
      have e1 : ofV n most = ofV (min n most) most := by
        by_cases k : n ≤ most
        · rw [Int.min_eq_left k]
        · rw [Int.min_eq_right (by omega), ofV_top (by omega) (by omega), ofV_top (by omega) (Int.le_refl _)]
      rw [e1]
      obtain ⟨m, hm⟩ := Int.eq_ofNat_of_zero_le (a := min n most) (by omega)
      obtain ⟨t, ht⟩ := Int.eq_ofNat_of_zero_le (a := most) (by omega)
      rw [hm, ht]
      exact part_any m t w (by omega) (by omega) (by omega)
    generalize ofV n most = r at *
    clear h h' c
    go_enter Try.func12, Try.ntmps12
    go_wp2_with fail
    refine (M.out _).mono ?_; rintro e w1 ⟨rfl, b1⟩
    go_wp2_with fail
    go_ret
    exact ⟨rfl, b1⟩

theorem prioAge_any (a b : Int) (w : World) (h : I64 a) (h' : I64 b) :
    Calls Try.prog 10 #[.int .i64 a, .int .i64 b] w fun e w' => e = .returned (.int .i64 (ageV a b)) ∧ Below w.heap.size w w' := by
  unfold I64 at h h'
  by_cases c : a < 0 ∨ b ≤ a
  · have e1 : ageV a b = 0 := if_pos c
    rw [e1]
    by_cases c1 : a < 0
    · have d1 : decide (a < 0) = true := decide_eq_true c1
      clear h h' c c1 e1
      go_enter Try.func10, Try.ntmps10
      go_wp2_with fail
      go_ret
      exact ⟨rfl, Below.refl _ _⟩
    · have d1 : decide (a < 0) = false := decide_eq_false c1
      have d2 : decide (b ≤ a) = true := decide_eq_true (by omega)
      clear h h' c c1 e1
      go_enter Try.func10, Try.ntmps10
      go_wp2_with fail
      go_ret
      exact ⟨rfl, Below.refl _ _⟩
  · have d1 : decide (a < 0) = false := decide_eq_false (by omega)
    have d2 : decide (b ≤ a) = false := decide_eq_false (by omega)
    have e1 : ageV a b = ofV (b - a) 1048576 := if_neg c
    have M : Hid (∀ w, Calls Try.prog 12 #[.int .i64 (b - a), .int .i64 1048576] w fun e w' => e = .returned (.int .i64 (ageV a b)) ∧ Below w.heap.size w w') := by
      intro w; rw [e1]
      exact prioOf_any _ _ w (by unfold I64; omega) (by unfold I64; omega)
    have h1 : 0 ≤ b - a := by omega
    have h2 : b - a ≤ 9223372036854775807 := by omega
    clear e1
    generalize ageV a b = r at *
    clear h h' c
    go_enter Try.func10, Try.ntmps10
    go_wp2_with fail
    refine (M.out _).mono ?_; rintro e w1 ⟨rfl, b1⟩
    go_wp2_with fail
    go_ret
    exact ⟨rfl, b1⟩

theorem prioSize_any (a b : Int) (w : World) (h : I64 a) (h' : I64 b) :
    Calls Try.prog 11 #[.int .i64 a, .int .i64 b] w fun e w' => e = .returned (.int .i64 (sizeV a b)) ∧ Below w.heap.size w w' := by
  unfold I64 at h h'
  by_cases c : a < 1 ∨ b < a
  · have e1 : sizeV a b = 0 := if_pos c
    rw [e1]
    by_cases c1 : a < 1
    · have d1 : decide (a < 1) = true := decide_eq_true c1
      clear h h' c c1 e1
      go_enter Try.func11, Try.ntmps11
      go_wp2_with fail
      go_ret
      exact ⟨rfl, Below.refl _ _⟩
    · have d1 : decide (a < 1) = false := decide_eq_false c1
      have d2 : decide (b < a) = true := decide_eq_true (by omega)
      clear h h' c c1 e1
      go_enter Try.func11, Try.ntmps11
      go_wp2_with fail
      go_ret
      exact ⟨rfl, Below.refl _ _⟩
  · have d1 : decide (a < 1) = false := decide_eq_false (by omega)
    have d2 : decide (b < a) = false := decide_eq_false (by omega)
    have e1 : sizeV a b = ofV a b := if_neg c
    have M : Hid (∀ w, Calls Try.prog 24 #[.int .i64 a, .int .i64 b] w fun e w' => e = .returned (.int .i64 (sizeV a b)) ∧ Below w.heap.size w w') := by
      intro w; rw [e1]
      obtain ⟨m, hm⟩ := Int.eq_ofNat_of_zero_le (a := a) (by omega)
      obtain ⟨t, ht⟩ := Int.eq_ofNat_of_zero_le (a := b) (by omega)
      rw [hm, ht]
      exact part_any m t w (by omega) (by omega) (by omega)
    clear e1
    generalize sizeV a b = r at *
    clear h h' c
    go_enter Try.func11, Try.ntmps11
    go_wp2_with fail
    refine (M.out _).mono ?_; rintro e w1 ⟨rfl, b1⟩
    go_wp2_with fail
    go_ret
    exact ⟨rfl, b1⟩

/-- A number lies between two ends. -/
def inB (n a b : Int) : Bool := decide (a ≤ n ∧ n ≤ b)
theorem within_any (n a b : Int) (w : World) :
    Calls Try.prog 26 #[.int .i64 n, .int .i64 a, .int .i64 b] w fun e w' => e = .returned (.bool (inB n a b)) ∧ w' = w := by
  have hr : inB n a b = (decide (a ≤ n) && decide (n ≤ b)) := by unfold inB; simp
  rw [hr]
  by_cases c1 : a ≤ n
  · have d1 : decide (a ≤ n) = true := decide_eq_true c1
    rw [d1]
    clear hr c1
    go_enter Try.func26, Try.ntmps26
    go_wp2_with fail
    go_ret
    exact ⟨rfl, rfl⟩
  · have d1 : decide (a ≤ n) = false := decide_eq_false c1
    rw [d1]
    clear hr c1
    go_enter Try.func26, Try.ntmps26
    go_wp2_with fail
    go_ret
    exact ⟨rfl, rfl⟩

end Go.Proofs.Ytjhabfhpjpkpbaa
