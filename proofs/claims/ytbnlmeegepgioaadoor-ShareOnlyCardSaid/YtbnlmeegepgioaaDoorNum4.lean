
/-
  Contracts of package num's functions: MulDiv, Up, Cut.
-/
import Derived.Test.YtbnlmeegepgioaaDoorDiv64b
namespace Go.Proofs.YtbnlmeegepgioaaDoor
open Go.ChangeShapes Go.WideShapes Go.ChangeAt Go.RowKit
set_option linter.unusedVariables false

def mdV (a b c : Int) : Int := if a < 0 ∨ b < 0 ∨ c < 1 then 0 else fitV (a * b / c)
def mdE (a b c : Int) : Int := if a < 0 ∨ b < 0 ∨ c < 1 then 2 else fitE (a * b / c)

theorem muldiv_arg (a b c : Int) (w : World) (h : a < 0 ∨ b < 0 ∨ c < 1) :
    Calls Tryd.prog 42 #[.int .i64 a, .int .i64 b, .int .i64 c] w fun e w' => e = .returned (.tuple #[.int .i64 0, .int .i64 2]) ∧ w' = w := by
  have t : decide (a < 0) = true ∨ decide (a < 0) = false ∧ (decide (b < 0) = true ∨ decide (b < 0) = false ∧ decide (c < 1) = true) := by
    simp only [decide_eq_true_eq, decide_eq_false_iff_not]; omega
  clear h
  rcases t with t | ⟨t, t' | ⟨t', t''⟩⟩
  all_goals
    go_enter Tryd.func42, Tryd.ntmps42
    go_wp2
    go_ret2
    exact ⟨rfl, rfl⟩

theorem muldiv_main (a b c : Nat) (w : World) (ha : a ≤ 9223372036854775807) (hb : b ≤ 9223372036854775807) (hc : 1 ≤ c) (hc' : c ≤ 9223372036854775807) :
    Calls Tryd.prog 42 #[.int .i64 a, .int .i64 b, .int .i64 c] w
      fun e w' => e = .returned (.tuple #[.int .i64 (fitV ((a * b / c : Nat) : Int)), .int .i64 (fitE ((a * b / c : Nat) : Int))]) ∧ Below w.heap.size w w' := by
  have hP : a * b ≤ 9223372036854775807 * 9223372036854775807 := Nat.mul_le_mul ha hb
  have hf : Fits (a * b) := by unfold Fits; omega
  have b1 := hiW_bd hf
  have b2 := loW_bd (a * b)
  have hl := hilo (a * b)
  have M64 : Hid (∀ w, Calls Tryd.prog 59 #[.int .u64 a, .int .u64 b] w fun e w' => e = .returned (.tuple #[.int .u64 (hiW (a * b)), .int .u64 (loW (a * b))]) ∧ w' = w) := by
    intro w; exact mul64_any _ _ w (by omega) (by omega)
  have t1 : decide ((a : Int) < 0) = false := decide_eq_false (by omega)
  have t2 : decide ((b : Int) < 0) = false := decide_eq_false (by omega)
  have t3 : decide ((c : Int) < 1) = false := decide_eq_false (by omega)
  have ha' : (a : Int) ≤ 9223372036854775807 := by omega
  have hb' : (b : Int) ≤ 9223372036854775807 := by omega
  have hc'' : (c : Int) ≤ 9223372036854775807 := by omega
  obtain ⟨H, hH⟩ : ∃ H : Nat, hiW (a * b) = (H : Int) := ⟨_, rfl⟩
  obtain ⟨L, hL⟩ : ∃ L : Nat, loW (a * b) = (L : Int) := ⟨_, rfl⟩
  rw [hH] at b1 hl
  rw [hL] at b2 hl
  have hN : a * b = H * 18446744073709551616 + L := by omega
  rw [hH, hL] at M64
  rw [hN]
  clear hH hL hl hf hP hN
  by_cases c1 : c ≤ H
  · have g1 : decide (c ≤ H) = true := decide_eq_true (by omega)
    have big : 18446744073709551616 ≤ (H * 18446744073709551616 + L) / c := by
      rw [Nat.le_div_iff_mul_le (by omega)]
      have := Nat.mul_le_mul_left 18446744073709551616 c1
      omega
    have out : ¬ I64 (((H * 18446744073709551616 + L) / c : Nat) : Int) := by unfold I64; omega
    have E1 := Lib.hid (fitV_out out)
    have E2 := Lib.hid (fitE_out out)
    clear out big c1 ha hb hc hc'
    go_enter Tryd.func42, Tryd.ntmps42
    go_wp2_with (go_at_call 59; refine (M64.out _).mono ?_; rintro e w' ⟨rfl, rfl⟩)
    go_ret2
    exact ⟨ret_tup2 E1.out.symm E2.out.symm, Below.refl _ _⟩
  · have g1 : decide (c ≤ H) = false := decide_eq_false (by omega)
    have D : Hid (∀ w, Calls Tryd.prog 60 #[.int .u64 H, .int .u64 L, .int .u64 c] w (DivRes (((H * 18446744073709551616 + L) / c : Nat) : Int) w)) := by
      intro w; exact div64_any H L c w (by omega) (by omega) (by omega)
    generalize (H * 18446744073709551616 + L) / c = q at *
    by_cases c2 : q ≤ 9223372036854775807
    · have g2 : decide (9223372036854775807 < (q : Int)) = false := decide_eq_false (by omega)
      have g3 : (q : Int) ≤ 9223372036854775807 := by omega
      have inn : I64 (q : Int) := by unfold I64; omega
      have E1 := Lib.hid (fitV_in inn)
      have E2 := Lib.hid (fitE_in inn)
      clear inn c2 c1 ha hb hc hc'
      go_enter Tryd.func42, Tryd.ntmps42
      go_wp2_with (first | (go_at_call 59; refine (M64.out _).mono ?_; rintro e w' ⟨rfl, rfl⟩) | (go_at_call 60; refine (D.out _).mono ?_; rintro e w2 ⟨r, rfl, hb2⟩))
      go_ret2
      exact ⟨ret_tup2 E1.out.symm E2.out.symm, hb2⟩
    · have g2 : decide (9223372036854775807 < (q : Int)) = true := decide_eq_true (by omega)
      have out : ¬ I64 (q : Int) := by unfold I64; omega
      have E1 := Lib.hid (fitV_out out)
      have E2 := Lib.hid (fitE_out out)
      clear out c2 c1 ha hb hc hc'
      go_enter Tryd.func42, Tryd.ntmps42
      go_wp2_with (first | (go_at_call 59; refine (M64.out _).mono ?_; rintro e w' ⟨rfl, rfl⟩) | (go_at_call 60; refine (D.out _).mono ?_; rintro e w2 ⟨r, rfl, hb2⟩))
      go_ret2
      exact ⟨ret_tup2 E1.out.symm E2.out.symm, hb2⟩

theorem muldiv_any (a b c : Int) (w : World) (ha : I64 a) (hb : I64 b) (hc : I64 c) :
    Calls Tryd.prog 42 #[.int .i64 a, .int .i64 b, .int .i64 c] w fun e w' => e = .returned (.tuple #[.int .i64 (mdV a b c), .int .i64 (mdE a b c)]) ∧ Below w.heap.size w w' := by
  by_cases h : a < 0 ∨ b < 0 ∨ c < 1
  · refine (muldiv_arg a b c w h).mono ?_
    rintro e w' ⟨rfl, rfl⟩
    exact ⟨ret_tup2 (by simp [mdV, h]) (by simp [mdE, h]), Below.refl _ _⟩
  · unfold I64 at *
    obtain ⟨n, rfl⟩ := Int.eq_ofNat_of_zero_le (a := a) (by omega)
    obtain ⟨m, rfl⟩ := Int.eq_ofNat_of_zero_le (a := b) (by omega)
    obtain ⟨k, rfl⟩ := Int.eq_ofNat_of_zero_le (a := c) (by omega)
    refine (muldiv_main n m k w (by omega) (by omega) (by omega) (by omega)).mono ?_
    rintro e w' ⟨rfl, hb⟩
    have e1 : ((n : Int) * (m : Int) / (k : Int)) = ((n * m / k : Nat) : Int) := by rw [Int.natCast_ediv, Int.natCast_mul]
    exact ⟨ret_tup2 (by rw [mdV, if_neg h, e1]) (by rw [mdE, if_neg h, e1]), hb⟩

/-- The next power of two, and its exponent. -/
def upK (n : Int) : Nat := if n < 1 ∨ 4611686018427387904 < n then 0 else Lib.bitLen (n - 1).toNat
def upP (n : Int) : Int := if n < 1 ∨ 4611686018427387904 < n then 0 else 2 ^ upK n


end Go.Proofs.YtbnlmeegepgioaaDoor
