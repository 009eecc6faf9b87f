/-
  Contracts of package num's Cut, at its four types.
-/
import Derived.Test.YtbcpiabamhdjbaaNum4
namespace Go.Proofs.Ytbcpiabamhdjbaa
open Go.ChangeShapes Go.WideShapes Go.ChangeAt Go.RowKit
set_option linter.unusedVariables false

def cutV (n a b : Int) : Int := if b < a ∨ n < a then a else if b < n then b else n

theorem cut_i64 (n a b : Int) (w : World) (hn : I64 n) (a1 : -9223372036854775808 ≤ a) (a2 : a ≤ 9223372036854775807) (b1 : -9223372036854775808 ≤ b) (b2 : b ≤ 9223372036854775807) :
    Calls Try.prog 30 #[.int .i64 n, .int .i64 a, .int .i64 b] w fun e w' => e = .returned (.int .i64 (cutV n a b)) ∧ w' = w := by
  obtain ⟨n1, n2⟩ := hn
  by_cases c1 : b < a
  · have t1 : decide (b < a) = true := decide_eq_true c1
    have E : Hid (a = cutV n a b) := by show _ = _; simp [cutV, c1]
    clear c1
    go_enter Try.func30, Try.ntmps30
    go_wp2
    go_ret
    exact ⟨ret_int E.out, rfl⟩
  · have t1 : decide (b < a) = false := decide_eq_false c1
    by_cases c2 : n < a
    · have t2 : decide (n < a) = true := decide_eq_true c2
      have E : Hid (a = cutV n a b) := by show _ = _; simp [cutV, c2]
      clear c1 c2
      go_enter Try.func30, Try.ntmps30
      go_wp2
      go_ret
      exact ⟨ret_int E.out, rfl⟩
    · have t2 : decide (n < a) = false := decide_eq_false c2
      by_cases c3 : b < n
      · have t3 : decide (b < n) = true := decide_eq_true c3
        have E : Hid (b = cutV n a b) := by show _ = _; simp [cutV, c1, c2, c3]
        clear c1 c2 c3
        go_enter Try.func30, Try.ntmps30
        go_wp2
        go_ret
        exact ⟨ret_int E.out, rfl⟩
      · have t3 : decide (b < n) = false := decide_eq_false c3
        have E : Hid (n = cutV n a b) := by show _ = _; simp [cutV, c1, c2, c3]
        have r1 : -9223372036854775808 ≤ n := by omega
        have r2 : n ≤ 9223372036854775807 := by omega
        clear c1 c2 c3
        go_enter Try.func30, Try.ntmps30
        go_wp2
        go_ret
        exact ⟨ret_int E.out, rfl⟩

theorem cut_i32 (n a b : Int) (w : World) (hn : I64 n) (a1 : -2147483648 ≤ a) (a2 : a ≤ 2147483647) (b1 : -2147483648 ≤ b) (b2 : b ≤ 2147483647) :
    Calls Try.prog 31 #[.int .i64 n, .int .i32 a, .int .i32 b] w fun e w' => e = .returned (.int .i32 (cutV n a b)) ∧ w' = w := by
  obtain ⟨n1, n2⟩ := hn
  by_cases c1 : b < a
  · have t1 : decide (b < a) = true := decide_eq_true c1
    have E : Hid (a = cutV n a b) := by show _ = _; simp [cutV, c1]
    clear c1
    go_enter Try.func31, Try.ntmps31
    go_wp2
    go_ret
    exact ⟨ret_int E.out, rfl⟩
  · have t1 : decide (b < a) = false := decide_eq_false c1
    by_cases c2 : n < a
    · have t2 : decide (n < a) = true := decide_eq_true c2
      have E : Hid (a = cutV n a b) := by show _ = _; simp [cutV, c2]
      clear c1 c2
      go_enter Try.func31, Try.ntmps31
      go_wp2
      go_ret
      exact ⟨ret_int E.out, rfl⟩
    · have t2 : decide (n < a) = false := decide_eq_false c2
      by_cases c3 : b < n
      · have t3 : decide (b < n) = true := decide_eq_true c3
        have E : Hid (b = cutV n a b) := by show _ = _; simp [cutV, c1, c2, c3]
        clear c1 c2 c3
        go_enter Try.func31, Try.ntmps31
        go_wp2
        go_ret
        exact ⟨ret_int E.out, rfl⟩
      · have t3 : decide (b < n) = false := decide_eq_false c3
        have E : Hid (n = cutV n a b) := by show _ = _; simp [cutV, c1, c2, c3]
        have r1 : -2147483648 ≤ n := by omega
        have r2 : n ≤ 2147483647 := by omega
        clear c1 c2 c3
        go_enter Try.func31, Try.ntmps31
        go_wp2
        go_ret
        exact ⟨ret_int E.out, rfl⟩

theorem cut_i16 (n a b : Int) (w : World) (hn : I64 n) (a1 : -32768 ≤ a) (a2 : a ≤ 32767) (b1 : -32768 ≤ b) (b2 : b ≤ 32767) :
    Calls Try.prog 32 #[.int .i64 n, .int .i16 a, .int .i16 b] w fun e w' => e = .returned (.int .i16 (cutV n a b)) ∧ w' = w := by
  obtain ⟨n1, n2⟩ := hn
  by_cases c1 : b < a
  · have t1 : decide (b < a) = true := decide_eq_true c1
    have E : Hid (a = cutV n a b) := by show _ = _; simp [cutV, c1]
    clear c1
    go_enter Try.func32, Try.ntmps32
    go_wp2
    go_ret
    exact ⟨ret_int E.out, rfl⟩
  · have t1 : decide (b < a) = false := decide_eq_false c1
    by_cases c2 : n < a
    · have t2 : decide (n < a) = true := decide_eq_true c2
      have E : Hid (a = cutV n a b) := by show _ = _; simp [cutV, c2]
      clear c1 c2
      go_enter Try.func32, Try.ntmps32
      go_wp2
      go_ret
      exact ⟨ret_int E.out, rfl⟩
    · have t2 : decide (n < a) = false := decide_eq_false c2
      by_cases c3 : b < n
      · have t3 : decide (b < n) = true := decide_eq_true c3
        have E : Hid (b = cutV n a b) := by show _ = _; simp [cutV, c1, c2, c3]
        clear c1 c2 c3
        go_enter Try.func32, Try.ntmps32
        go_wp2
        go_ret
        exact ⟨ret_int E.out, rfl⟩
      · have t3 : decide (b < n) = false := decide_eq_false c3
        have E : Hid (n = cutV n a b) := by show _ = _; simp [cutV, c1, c2, c3]
        have r1 : -32768 ≤ n := by omega
        have r2 : n ≤ 32767 := by omega
        clear c1 c2 c3
        go_enter Try.func32, Try.ntmps32
        go_wp2
        go_ret
        exact ⟨ret_int E.out, rfl⟩

theorem cut_i8 (n a b : Int) (w : World) (hn : I64 n) (a1 : -128 ≤ a) (a2 : a ≤ 127) (b1 : -128 ≤ b) (b2 : b ≤ 127) :
    Calls Try.prog 33 #[.int .i64 n, .int .i8 a, .int .i8 b] w fun e w' => e = .returned (.int .i8 (cutV n a b)) ∧ w' = w := by
  obtain ⟨n1, n2⟩ := hn
  by_cases c1 : b < a
  · have t1 : decide (b < a) = true := decide_eq_true c1
    have E : Hid (a = cutV n a b) := by show _ = _; simp [cutV, c1]
    clear c1
    go_enter Try.func33, Try.ntmps33
    go_wp2
    go_ret
    exact ⟨ret_int E.out, rfl⟩
  · have t1 : decide (b < a) = false := decide_eq_false c1
    by_cases c2 : n < a
    · have t2 : decide (n < a) = true := decide_eq_true c2
      have E : Hid (a = cutV n a b) := by show _ = _; simp [cutV, c2]
      clear c1 c2
      go_enter Try.func33, Try.ntmps33
      go_wp2
      go_ret
      exact ⟨ret_int E.out, rfl⟩
    · have t2 : decide (n < a) = false := decide_eq_false c2
      by_cases c3 : b < n
      · have t3 : decide (b < n) = true := decide_eq_true c3
        have E : Hid (b = cutV n a b) := by show _ = _; simp [cutV, c1, c2, c3]
        clear c1 c2 c3
        go_enter Try.func33, Try.ntmps33
        go_wp2
        go_ret
        exact ⟨ret_int E.out, rfl⟩
      · have t3 : decide (b < n) = false := decide_eq_false c3
        have E : Hid (n = cutV n a b) := by show _ = _; simp [cutV, c1, c2, c3]
        have r1 : -128 ≤ n := by omega
        have r2 : n ≤ 127 := by omega
        clear c1 c2 c3
        go_enter Try.func33, Try.ntmps33
        go_wp2
        go_ret
        exact ⟨ret_int E.out, rfl⟩
end Go.Proofs.Ytbcpiabamhdjbaa
