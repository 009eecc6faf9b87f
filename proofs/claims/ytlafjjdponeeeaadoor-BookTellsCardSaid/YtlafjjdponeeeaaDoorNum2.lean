
/-
  Contracts of package num's functions: Mul, Times, Div, Sum.
-/
import Derived.Test.YtlafjjdponeeeaaDoorNum
import Derived.Handy
namespace Go.Proofs.YtlafjjdponeeeaaDoor
open Go.ChangeShapes Go.WideShapes Go.ChangeAt Go.RowKit
set_option linter.unusedVariables false

theorem mul64_any (x y : Nat) (w : World) (hx : x < 18446744073709551616) (hy : y < 18446744073709551616) :
    Calls Tryd.prog 92 #[.int .u64 x, .int .u64 y] w fun e w' => e = .returned (.tuple #[.int .u64 (hiW (x * y)), .int .u64 (loW (x * y))]) ∧ w' = w :=
  Tryd.bits_Mul64 x y hx hy w

theorem mul_any (a b : Int) (w : World) (ha : I64 a) (hb : I64 b) :
    Calls Tryd.prog 75 #[.int .i64 a, .int .i64 b] w fun e w' => e = .returned (.tuple #[.int .i64 (fitV (a * b)), .int .i64 (fitE (a * b))]) ∧ w' = w := by
  have hna := fits_abs ha
  have hnb := fits_abs hb
  have hP : a.natAbs * b.natAbs ≤ 9223372036854775808 * 9223372036854775808 := Nat.mul_le_mul hna hnb
  have hf : Fits (a.natAbs * b.natAbs) := by unfold Fits; omega
  rw [mul_sg a b]
  have b1 := hiW_bd hf
  have b2 := loW_bd (a.natAbs * b.natAbs)
  have hl := hilo (a.natAbs * b.natAbs)
  obtain ⟨m, hm⟩ : ∃ m, (negB a != negB b) = m := ⟨_, rfl⟩
  rw [hm]
  have hm' : (!decide (a < 0) == decide (b < 0)) = m := hm
  clear hm
  generalize hN : a.natAbs * b.natAbs = N at *
  have HN := Lib.hid hN
  clear hN hP
  have M64 : Hid (∀ w, Calls Tryd.prog 92 #[.int .u64 a.natAbs, .int .u64 b.natAbs] w fun e w' => e = .returned (.tuple #[.int .u64 (hiW N), .int .u64 (loW N)]) ∧ w' = w) := by
    intro w; rw [← HN.out]; exact mul64_any _ _ w (by omega) (by omega)
  clear HN hna hnb
  by_cases c1 : hiW N = 0
  · have c1' : (hiW N != 0) = false := by simpa using c1
    by_cases c2 : 9223372036854775808 < loW N
    · have E1 : Hid (0 = fitV (sg m N)) := by show _ = _; unfold fitV sg I64; cases m <;> simp <;> omega
      have E2 : Hid (10 = fitE (sg m N)) := by show _ = _; unfold fitE sg I64; cases m <;> simp <;> omega
      clear b1 b2 hl hf c1 
      generalize hiW N = x at *
      generalize loW N = y at *
      go_enter Tryd.func75, Tryd.ntmps75
      go_wp2_with (first
        | (go_at_call 93; ((with_reducible refine (size_any a _ ha).mono ?_); rintro e w' ⟨rfl, rfl⟩))
        | (go_at_call 93; ((with_reducible refine (size_any b _ hb).mono ?_); rintro e w' ⟨rfl, rfl⟩))
        | (go_at_call 92; refine (M64.out _).mono ?_; rintro e w' ⟨rfl, rfl⟩))
      go_ret2
      exact ⟨ret_tup2 E1.out E2.out, rfl⟩
    · have hy : (N : Int) = loW N := by omega
      have c5 : 0 ≤ loW N := b2.1
      cases m
      · by_cases c3 : loW N = 9223372036854775808
        · have c3' : (loW N == 9223372036854775808) = true := by simpa using c3
          have E1 : Hid (0 = fitV (sg false N)) := by show _ = _; unfold fitV sg I64; simp; omega
          have E2 : Hid (10 = fitE (sg false N)) := by show _ = _; unfold fitE sg I64; simp; omega
          clear b1 b2 hl hf c1 c3 hy
          generalize hiW N = x at *
          generalize loW N = y at *
          go_enter Tryd.func75, Tryd.ntmps75
          go_wp2_with (first
            | (go_at_call 93; ((with_reducible refine (size_any a _ ha).mono ?_); rintro e w' ⟨rfl, rfl⟩))
            | (go_at_call 93; ((with_reducible refine (size_any b _ hb).mono ?_); rintro e w' ⟨rfl, rfl⟩))
            | (go_at_call 92; refine (M64.out _).mono ?_; rintro e w' ⟨rfl, rfl⟩))
          go_ret2
          exact ⟨ret_tup2 E1.out E2.out, rfl⟩
        · have c3' : (loW N == 9223372036854775808) = false := by simpa using c3
          have c4 : loW N ≤ 9223372036854775807 := by omega
          have E1 : Hid (loW N = fitV (sg false N)) := by show _ = _; unfold fitV sg I64; simp; omega
          have E2 : Hid (0 = fitE (sg false N)) := by show _ = _; unfold fitE sg I64; simp; omega
          clear b1 b2 hl hf c1 c3 hy
          generalize hiW N = x at *
          generalize loW N = y at *
          go_enter Tryd.func75, Tryd.ntmps75
          go_wp2_with (first
            | (go_at_call 93; ((with_reducible refine (size_any a _ ha).mono ?_); rintro e w' ⟨rfl, rfl⟩))
            | (go_at_call 93; ((with_reducible refine (size_any b _ hb).mono ?_); rintro e w' ⟨rfl, rfl⟩))
            | (go_at_call 92; refine (M64.out _).mono ?_; rintro e w' ⟨rfl, rfl⟩))
          go_ret2
          exact ⟨ret_tup2 E1.out E2.out, rfl⟩
      · have C : Hid (wrap64 (IntKind.u64.wrap (-loW N)) = -loW N) := by show _ = _; unfold wrap64; rw [IntKind.wrap_u64]; omega
        have E1 : Hid (-loW N = fitV (sg true N)) := by show _ = _; unfold fitV sg I64; simp; omega
        have E2 : Hid (0 = fitE (sg true N)) := by show _ = _; unfold fitE sg I64; simp; omega
        clear b1 b2 hl hf c1 hy
        generalize hiW N = x at *
        generalize loW N = y at *
        go_enter Tryd.func75, Tryd.ntmps75
        go_wp2_with (first
          | (go_at_call 93; ((with_reducible refine (size_any a _ ha).mono ?_); rintro e w' ⟨rfl, rfl⟩))
          | (go_at_call 93; ((with_reducible refine (size_any b _ hb).mono ?_); rintro e w' ⟨rfl, rfl⟩))
          | (go_at_call 92; refine (M64.out _).mono ?_; rintro e w' ⟨rfl, rfl⟩))
        go_ret2
        exact ⟨ret_tup2 (C.out.trans E1.out) E2.out, rfl⟩
  · have c1' : (hiW N != 0) = true := by simpa using c1
    have E1 : Hid (0 = fitV (sg m N)) := by show _ = _; unfold fitV sg I64; cases m <;> simp <;> omega
    have E2 : Hid (10 = fitE (sg m N)) := by show _ = _; unfold fitE sg I64; cases m <;> simp <;> omega
    clear b1 b2 hl hf c1 
    generalize hiW N = x at *
    generalize loW N = y at *
    go_enter Tryd.func75, Tryd.ntmps75
    go_wp2_with (first
      | (go_at_call 93; ((with_reducible refine (size_any a _ ha).mono ?_); rintro e w' ⟨rfl, rfl⟩))
      | (go_at_call 93; ((with_reducible refine (size_any b _ hb).mono ?_); rintro e w' ⟨rfl, rfl⟩))
      | (go_at_call 92; refine (M64.out _).mono ?_; rintro e w' ⟨rfl, rfl⟩))
    go_ret2
    exact ⟨ret_tup2 E1.out E2.out, rfl⟩

end Go.Proofs.YtlafjjdponeeeaaDoor
