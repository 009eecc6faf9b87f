/-
  Contracts of package decay's functions: After, Charge, Until.
-/
import Derived.Test.YtlafjjdponeeeaaDoorDec
namespace Go.Proofs.YtlafjjdponeeeaaDoor
open Go.ChangeShapes Go.WideShapes Go.ChangeAt Go.RowKit
set_option linter.unusedVariables false

def tabN (i : Nat) : Nat := (tab i).toNat
theorem tabN_eq (i : Nat) (h : i < 16) : tab i = (tabN i : Int) := by
  match i, h with
  | 0, _ => rfl
  | 1, _ => rfl
  | 2, _ => rfl
  | 3, _ => rfl
  | 4, _ => rfl
  | 5, _ => rfl
  | 6, _ => rfl
  | 7, _ => rfl
  | 8, _ => rfl
  | 9, _ => rfl
  | 10, _ => rfl
  | 11, _ => rfl
  | 12, _ => rfl
  | 13, _ => rfl
  | 14, _ => rfl
  | 15, _ => rfl
  | i + 16, h => omega
/-- The table falls, from 65536 down to 34219. -/
theorem tabN_anti (i j : Nat) (h : i ≤ j) (hj : j < 16) : tabN j ≤ tabN i := by
  have : ∀ j : Fin 16, ∀ i : Fin 16, i ≤ j → tabN j.val ≤ tabN i.val := by decide
  exact this ⟨j, hj⟩ ⟨i, by omega⟩ h
theorem tabN_bd (i : Nat) (h : i < 16) : 34219 ≤ tabN i ∧ tabN i ≤ 65536 := ⟨tabN_anti i 15 (by omega) (by omega), tabN_anti 0 i (by omega) h⟩
theorem tabN_zero : tabN 0 = 65536 := rfl

/-- What n counts for after t ticks. -/
def aftN (n t h : Nat) : Nat := n / 2 ^ (t / h) * tabN (t % h * 16 / h) / 65536
theorem idx_lt {t h : Nat} (h1 : 1 ≤ h) : t % h * 16 / h < 16 := by
  have := Nat.mod_lt t (show 0 < h by omega)
  rw [Nat.div_lt_iff_lt_mul (by omega)]; omega
theorem aftN_le {n t h : Nat} (h1 : 1 ≤ h) : aftN n t h ≤ n / 2 ^ (t / h) := by
  unfold aftN
  rw [Nat.div_le_iff_le_mul (by omega)]
  have := Nat.mul_le_mul_left (n / 2 ^ (t / h)) (tabN_bd _ (idx_lt (t := t) h1)).2
  omega

theorem md_in' (a b c : Nat) (w : World) (ha : a ≤ 9223372036854775807) (hb : b ≤ 9223372036854775807) (hc : 1 ≤ c) (hc' : c ≤ 9223372036854775807) (hq : a * b / c ≤ 9223372036854775807) :
    Calls Tryd.prog 77 #[.int .i64 a, .int .i64 b, .int .i64 c] w
      fun e w' => e = .returned (.tuple #[.int .i64 ((a * b / c : Nat) : Int), .int .i64 0]) ∧ Below w.heap.size w w' := by
  refine (muldiv_main a b c w ha hb hc hc').mono ?_
  have : I64 ((a * b / c : Nat) : Int) := by unfold I64; generalize a * b / c = q at *; omega
  rintro e w' ⟨rfl, hb⟩
  exact ⟨ret_tup2 (fitV_in this) (fitE_in this), hb⟩

theorem after_no (n t h : Int) (w : World) (hn : ¬ (FacOk t h ∧ 0 ≤ n)) : Calls Tryd.prog 60 #[.int .i64 n, .int .i64 t, .int .i64 h] w fun e w' => e = .returned (.tuple #[.int .i64 0, .int .i64 2]) ∧ Below w.heap.size w w' := by
  by_cases hf : FacOk t h
  · have t1 : decide (n < 0) = true := decide_eq_true (Int.not_le.1 fun h => hn ⟨hf, h⟩)
    unfold FacOk at hf
    obtain ⟨T, rfl⟩ := Int.eq_ofNat_of_zero_le (a := t) (by omega)
    obtain ⟨Hh, rfl⟩ := Int.eq_ofNat_of_zero_le (a := h) (by omega)
    have F : Hid (∀ w, Calls Tryd.prog 76 #[.int .i64 T, .int .i64 Hh] w fun e w' => e = .returned (.tuple #[.int .i64 ((T / Hh : Nat) : Int), .int .i64 (tab (T % Hh * 16 / Hh)), .int .i64 0]) ∧ Below w.heap.size w w') :=
      fun w => factor_ok T Hh w (by omega) (by omega) (by omega)
    clear hn hf
    go_enter Tryd.func60, Tryd.ntmps60
    go_wp2_with fail
    refine (F.out _).mono ?_; rintro e w1 ⟨rfl, b1⟩
    go_wp2_with fail
    go_ret2
    exact ⟨rfl, b1⟩
  · have F := Lib.hid hf
    clear hn hf
    go_enter Tryd.func60, Tryd.ntmps60
    go_wp2_with fail
    refine (factor_no _ _ _ F.out).mono ?_; rintro e w1 ⟨rfl, rfl⟩
    go_wp2_with fail
    go_ret2
    exact ⟨rfl, Below.refl _ _⟩

theorem after_ok (n t h : Nat) (w : World) (hn : n ≤ 9223372036854775807) (ht : t ≤ 1099511627776) (h1 : 1 ≤ h) (h2 : h ≤ 1099511627776) :
    Calls Tryd.prog 60 #[.int .i64 n, .int .i64 t, .int .i64 h] w fun e w' => e = .returned (.tuple #[.int .i64 (aftN n t h : Nat), .int .i64 0]) ∧ Below w.heap.size w w' := by
  have F : Hid (∀ w, Calls Tryd.prog 76 #[.int .i64 t, .int .i64 h] w fun e w' => e = .returned (.tuple #[.int .i64 ((t / h : Nat) : Int), .int .i64 (tabN (t % h * 16 / h) : Nat), .int .i64 0]) ∧ Below w.heap.size w w') := by
    intro w
    rw [← tabN_eq _ (idx_lt h1)]
    exact factor_ok t h w ht h1 h2
  have b1 := tabN_bd _ (idx_lt (t := t) h1)
  have b2 := Nat.div_le_self n (2 ^ (t / h))
  have b3 := aftN_le (n := n) (t := t) h1
  have b4 := Nat.div_le_self t h
  have M : Hid (∀ w, Calls Tryd.prog 77 #[.int .i64 ((n / 2 ^ (t / h) : Nat) : Int), .int .i64 (tabN (t % h * 16 / h) : Nat), .int .i64 65536] w
      fun e w' => e = .returned (.tuple #[.int .i64 (aftN n t h : Nat), .int .i64 0]) ∧ Below w.heap.size w w') := fun w =>
    md_in' _ _ 65536 w (by omega) (by omega) (by omega) (by omega) (by unfold aftN at b3; omega)
  have c1 : decide ((n : Int) < 0) = false := decide_eq_false (by omega)
  generalize aftN n t h = r at *
  generalize tabN (t % h * 16 / h) = f at *
  generalize t / h = k at *
  have S : (k : Int) ≤ 62 ∧ Hid ((n : Int) / 2 ^ k = ((n / 2 ^ k : Nat) : Int)) ∨ ¬ (k : Int) ≤ 62 ∧ Hid ((n : Int) / 2 ^ min k 64 = ((n / 2 ^ k : Nat) : Int)) := by
    by_cases h : (k : Int) ≤ 62
    · exact .inl ⟨h, by show _ = _; simp⟩
    · refine .inr ⟨h, ?_⟩
      show _ = _
      have p1 : 2 ^ 63 ≤ 2 ^ k := Nat.pow_le_pow_right (by omega) (by omega)
      have p2 : 2 ^ 63 ≤ 2 ^ min k 64 := Nat.pow_le_pow_right (by omega) (by omega)
      have e1 : n / 2 ^ k = 0 := Nat.div_eq_of_lt (by omega)
      have e2 : n / 2 ^ min k 64 = 0 := Nat.div_eq_of_lt (by omega)
      have e3 : (n : Int) / 2 ^ min k 64 = ((n / 2 ^ min k 64 : Nat) : Int) := by simp
      rw [e3, e2, e1]
  have k40 : (k : Int) ≤ 1099511627776 := by omega
  have n63 : (n : Int) ≤ 9223372036854775807 := by omega
  clear b1 b2 b3 b4 h2 ht hn
  rcases S with ⟨S, S2⟩ | ⟨S, S2⟩
  · go_enter Tryd.func60, Tryd.ntmps60
    go_wp2_with fail
    refine (F.out _).mono ?_; rintro e w1 ⟨rfl, b1⟩
    go_wp2_with fail
    rw [S2.out]
    refine (M.out _).mono ?_; rintro e w2 ⟨rfl, b2⟩
    go_wp2_with fail
    go_ret2
    exact ⟨rfl, below_next b2 b1⟩
  · go_enter Tryd.func60, Tryd.ntmps60
    go_wp2_with fail
    refine (F.out _).mono ?_; rintro e w1 ⟨rfl, b1⟩
    go_wp2_with fail
    rw [S2.out]
    refine (M.out _).mono ?_; rintro e w2 ⟨rfl, b2⟩
    go_wp2_with fail
    go_ret2
    exact ⟨rfl, below_next b2 b1⟩

end Go.Proofs.YtlafjjdponeeeaaDoor
