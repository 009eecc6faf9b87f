/-
  Contracts of package gangerref02's functions: After, Charge, Until for any arguments.
-/
import Derived.Test.YtggamihjmggmlaaDecRef
namespace Go.Proofs.Ytggamihjmggmlaa
open Go.ChangeShapes Go.WideShapes Go.ChangeAt Go.RowKit
set_option linter.unusedVariables false

theorem After_any (n t h : Int) (w : World) (hn : I64 n) : Calls Try.prog 14 #[.int .i64 n, .int .i64 t, .int .i64 h] w fun e w' => e = .returned (.tuple #[.int .i64 (aftV n t h), .int .i64 (aftE n t h)]) ∧ Below w.heap.size w w' := by
  by_cases c : FacOk t h ∧ 0 ≤ n
  · have c' := c
    obtain ⟨⟨c1, c2, c3, c4⟩, c5⟩ := c'
    obtain ⟨T, rfl⟩ := Int.eq_ofNat_of_zero_le (a := t) c1
    obtain ⟨Hh, rfl⟩ := Int.eq_ofNat_of_zero_le (a := h) (by omega)
    obtain ⟨m, rfl⟩ := Int.eq_ofNat_of_zero_le (a := n) (by omega)
    refine (After_ok m T Hh w (by have := hn.2; omega) (by omega) (by omega) (by omega)).mono ?_
    rintro e w' ⟨rfl, hb⟩
    exact ⟨ret_tup2 (by rw [aftV, if_pos c]; simp) (by rw [aftE, if_pos c]), hb⟩
  · refine (After_no n t h w c).mono ?_
    rintro e w' ⟨rfl, hb⟩
    exact ⟨ret_tup2 (by rw [aftV, if_neg c]) (by rw [aftE, if_neg c]), hb⟩

theorem Until_no (n h : Int) (w : World) (hn : ¬ UntilOk n h) : Calls Try.prog 16 #[.int .i64 n, .int .i64 h] w fun e w' => e = .returned (.tuple #[.int .i64 0, .int .i64 2]) ∧ w' = w := by
  have c : decide (n < 0) = true ∨ decide (n < 0) = false ∧ (decide (h < 1) = true ∨ decide (h < 1) = false ∧ decide (4294967296 < h) = true) := by
    unfold UntilOk at hn
    simp only [decide_eq_true_eq, decide_eq_false_iff_not]; omega
  clear hn
  rcases c with c | ⟨c, c' | ⟨c', c''⟩⟩
  all_goals
    go_enter Try.func16, Try.ntmps16
    go_wp2_with fail
    go_ret2
    exact ⟨rfl, rfl⟩

/-- A number is nought after as many halvings as it has bits, and not before. -/
theorem bits_half (n : Nat) (hn : n < 18446744073709551616) : n / 2 ^ Lib.bitLen n = 0 ∧ ∀ j, j < Lib.bitLen n → 0 < n / 2 ^ j := by
  by_cases h0 : n = 0
  · subst h0; exact ⟨by simp, fun j hj => by have : Lib.bitLen 0 = 0 := by decide
                                             omega⟩
  · obtain ⟨p1, p2, p3⟩ := bitLen_bounds 64 n hn (by omega) h0
    refine ⟨Nat.div_eq_of_lt p3, fun j hj => Nat.div_pos ?_ (Nat.pos_of_ne_zero (by simp))⟩
    exact Nat.le_trans (Nat.pow_le_pow_right (by omega) (by omega)) p2

theorem Until_ok (n h : Nat) (w : World) (hn : n ≤ 9223372036854775807) (h1 : 1 ≤ h) (h2 : h ≤ 4294967296) :
    Calls Try.prog 16 #[.int .i64 n, .int .i64 h] w fun e w' => e = .returned (.tuple #[.int .i64 (Lib.bitLen n * h : Nat), .int .i64 0]) ∧ w' = w := by
  have c1 : decide ((n : Int) < 0) = false := decide_eq_false (by omega)
  have c2 : decide ((h : Int) < 1) = false := decide_eq_false (by omega)
  have c3 : decide (4294967296 < (h : Int)) = false := decide_eq_false (by omega)
  obtain ⟨q1, q2⟩ := bits_half n (by omega)
  have hb : Lib.bitLen n ≤ 64 := Lib.bitLen_le n 64 (by omega) (by omega)
  have Q1 := Lib.hid q1
  have Q2 := Lib.hid q2
  generalize Lib.bitLen n = K at *
  have h2' : (h : Int) ≤ 4294967296 := by omega
  clear q1 q2
  go_enter Try.func16, Try.ntmps16
  go_wp2_with fail
  go_loop [0, 6] (fun a t => ∃ j : Nat, a = .int .i64 (n / 2 ^ j : Nat) ∧ t = .int .i64 (j * h : Nat) ∧ j ≤ K) (fun a _ => (intOf a).toNat)
  case atStart => exact ⟨0, by simp, by simp, Nat.zero_le _⟩
  case round =>
    obtain ⟨j, rfl, rfl, hj⟩ := hrel
    have E := Lib.hid (half_step n j)
    have nl := Nat.div_le_self n (2 ^ j)
    have ml : j * h ≤ 64 * 4294967296 := Nat.mul_le_mul (by omega) h2
    have E2 : Hid (j * h + h = (j + 1) * h) := by show _ = _; rw [Nat.add_mul, Nat.one_mul]
    by_cases c : j < K
    · have pos := Q2.out j c
      generalize n / 2 ^ j = m at *
      generalize j * h = s at *
      have m63 : (m : Int) ≤ 9223372036854775807 := by omega
      have d2 : decide (0 < m) = true := decide_eq_true (by omega)
      have d2' : decide ((0 : Int) < m) = true := decide_eq_true (by omega)
      go_wp2_with fail
      go_round
      case rel => exact ⟨j + 1, by rw [← E.out]; go_num, by rw [← E2.out]; go_num, c⟩
      case measure => simp [intOf]; omega
    · obtain rfl : j = K := by omega
      rw [Q1.out]
      go_wp2_with fail
      go_ret2
      exact ⟨rfl, rfl⟩
theorem Until_any (n h : Int) (w : World) (hn : I64 n) : Calls Try.prog 16 #[.int .i64 n, .int .i64 h] w fun e w' => e = .returned (.tuple #[.int .i64 (untV n h), .int .i64 (untE n h)]) ∧ w' = w := by
  by_cases c : UntilOk n h
  · have c' := c
    obtain ⟨c1, c2, c3⟩ := c'
    obtain ⟨Hh, rfl⟩ := Int.eq_ofNat_of_zero_le (a := h) (by omega)
    obtain ⟨m, rfl⟩ := Int.eq_ofNat_of_zero_le (a := n) (by omega)
    refine (Until_ok m Hh w (by have := hn.2; omega) (by omega) (by omega)).mono ?_
    rintro e w' ⟨rfl, hb⟩
    exact ⟨ret_tup2 (by rw [untV, if_pos c]; simp) (by rw [untE, if_pos c]), hb⟩
  · refine (Until_no n h w c).mono ?_
    rintro e w' ⟨rfl, hb⟩
    exact ⟨ret_tup2 (by rw [untV, if_neg c]) (by rw [untE, if_neg c]), hb⟩
end Go.Proofs.Ytggamihjmggmlaa
