/-
  Contracts of package gangerref02's functions.
-/
import Derived.Test.YtggamihjmggmlaaDecAny
import Derived.Test.YtggamihjmggmlaaNumRefMd
namespace Go.Proofs.Ytggamihjmggmlaa
open Go.ChangeShapes Go.WideShapes Go.ChangeAt Go.RowKit
set_option linter.unusedVariables false

theorem step_ok (i : Nat) (w : World) (hi : i < 16) : Calls Try.prog 20 #[.int .i64 i] w fun e w' => e = .returned (.int .i64 (tab i)) ∧ Below w.heap.size w w' := by
  have hBk : Blk (w.alloc (Obj.cells tabA 3)) w.heap.size tabA 3 := Blk.new _ _ _
  have hc := hBk.cell i
  rw [tabA_get _ hi] at hc
  have hi' : (i : Int) < 16 := by omega
  have hBl : Below w.heap.size w (w.alloc (Obj.cells tabA 3)) := by go_grown
  clear hBk hi
  go_enter Try.func20, Try.ntmps20
  go_wp2_with fail
  go_ret
  exact ⟨rfl, hBl⟩

theorem Factor_no (t h : Int) (w : World) (hn : ¬ FacOk t h) : Calls Try.prog 11 #[.int .i64 t, .int .i64 h] w fun e w' => e = .returned (.tuple #[.int .i64 0, .int .i64 0, .int .i64 2]) ∧ w' = w := by
  have c : decide (t < 0) = true ∨ decide (t < 0) = false ∧ (decide (1099511627776 < t) = true ∨ decide (1099511627776 < t) = false ∧ (decide (h < 1) = true ∨ decide (h < 1) = false ∧ decide (1099511627776 < h) = true)) := by
    unfold FacOk at hn
    simp only [decide_eq_true_eq, decide_eq_false_iff_not]; omega
  clear hn
  rcases c with c | ⟨c, c' | ⟨c', c'' | ⟨c'', c3⟩⟩⟩
  all_goals
    go_enter Try.func11, Try.ntmps11
    go_wp2_with fail
    go_ret3
    exact ⟨rfl, rfl⟩

theorem Factor_ok (t h : Nat) (w : World) (ht : t ≤ 1099511627776) (h1 : 1 ≤ h) (h2 : h ≤ 1099511627776) :
    Calls Try.prog 11 #[.int .i64 t, .int .i64 h] w fun e w' => e = .returned (.tuple #[.int .i64 ((t / h : Nat) : Int), .int .i64 (tab (t % h * 16 / h)), .int .i64 0]) ∧ Below w.heap.size w w' := by
  have c1 : decide ((t : Int) < 0) = false := decide_eq_false (by omega)
  have c2 : decide (1099511627776 < (t : Int)) = false := decide_eq_false (by omega)
  have c3 : decide ((h : Int) < 1) = false := decide_eq_false (by omega)
  have c4 : decide (1099511627776 < (h : Int)) = false := decide_eq_false (by omega)
  have c5 : ((h : Int) == 0) = false := by simpa using (show ((h : Int) ≠ 0) by omega)
  have hd := Nat.div_add_mod t h
  have hm := Nat.mod_lt t (show 0 < h by omega)
  have hq := Nat.div_le_self t h
  have hi := idx_lt (t := t) h1
  have rq : (t : Int) / (h : Int) = ((t / h : Nat) : Int) := (Int.natCast_ediv t h).symm
  have St : Hid (∀ w, Calls Try.prog 20 #[.int .i64 (t % h * 16 / h : Nat)] w fun e w' => e = .returned (.int .i64 (tab (t % h * 16 / h))) ∧ Below w.heap.size w w') := fun w => step_ok _ w hi
  have D : Hid (t % h * 16 = h * (t % h * 16 / h) + t % h * 16 % h ∧ t % h * 16 % h < h) := ⟨(Nat.div_add_mod _ _).symm, Nat.mod_lt _ (by omega)⟩
  have h1' : 1 ≤ (h : Int) := by omega
  have h2' : (h : Int) ≤ 1099511627776 := by omega
  have ht' : (t : Int) ≤ 1099511627776 := by omega
  have hd' : t / h * h + t % h = t := by rw [Nat.mul_comm]; exact hd
  have rl : (t : Int) - ((t / h : Nat) : Int) * (h : Int) = ((t % h : Nat) : Int) := by rw [← Int.natCast_mul]; omega
  have q1 : 0 ≤ ((t / h : Nat) : Int) * (h : Int) := by rw [← Int.natCast_mul]; omega
  have q2 : ((t / h : Nat) : Int) * (h : Int) ≤ 1099511627776 := by rw [← Int.natCast_mul]; omega
  have q3 : ((t / h : Nat) : Int) ≤ 1099511627776 := by omega
  have r3 : ((t % h : Nat) : Int) ≤ 1099511627776 := by omega
  clear hd hm hq ht hd'
  generalize t % h * 16 % h = r2 at *
  generalize t % h * 16 / h = i at *
  generalize t % h = r at *
  generalize t / h = q at *
  generalize tab i = f at *
  go_enter Try.func11, Try.ntmps11
  go_wp2_with fail
  clear rl
  go_loop [9] (fun a => ∃ k : Nat, a = .int .i64 k ∧ k ≤ i) (fun a => i - (intOf a).toNat)
  case atStart => exact ⟨0, rfl, Nat.zero_le _⟩
  case round =>
    obtain ⟨k, rfl, hk⟩ := hrel
    obtain ⟨D1, D2⟩ := D.out
    have k1 : (k : Int) ≤ 16 := by omega
    have m0 : (k + 1) * h ≤ 17 * 1099511627776 := Nat.mul_le_mul (by omega) h2
    have m1 : ((k : Int) + 1) * (h : Int) ≤ 18691697672192 := by
      rw [show ((k : Int) + 1) = ((k + 1 : Nat) : Int) from by omega, ← Int.natCast_mul]; omega
    have m2 : 0 ≤ ((k : Int) + 1) * (h : Int) := Int.mul_nonneg (by omega) (by omega)
    by_cases hlt : k < i
    · have m3 : (k + 1) * h ≤ i * h := Nat.mul_le_mul_right h hlt
      rw [Nat.mul_comm i h] at m3
      have d : decide (((k : Int) + 1) * (h : Int) ≤ (r : Int) * 16) = true := decide_eq_true (by
        rw [show ((k : Int) + 1) = ((k + 1 : Nat) : Int) from by omega, ← Int.natCast_mul]; omega)
      clear m0 m3 D1 D2
      go_wp2_with fail
      go_round
      case rel => exact ⟨k + 1, by go_num, hlt⟩
      case measure => simp [intOf]; omega
    · obtain rfl : k = i := by omega
      have m3 : (k + 1) * h = h * k + h := by rw [Nat.add_mul, Nat.one_mul, Nat.mul_comm]
      have d : decide (((k : Int) + 1) * (h : Int) ≤ (r : Int) * 16) = false := decide_eq_false (by
        rw [show ((k : Int) + 1) = ((k + 1 : Nat) : Int) from by omega, ← Int.natCast_mul]; omega)
      clear m0 m3 D1 D2
      go_wp2_with fail
      refine (St.out _).mono ?_; rintro e w1 ⟨rfl, b1⟩
      go_wp2_with fail
      go_ret3
      exact ⟨rfl, b1⟩

theorem Factor_any (t h : Int) (w : World) : Calls Try.prog 11 #[.int .i64 t, .int .i64 h] w fun e w' => e = .returned (.tuple #[.int .i64 (facW t h), .int .i64 (facS t h), .int .i64 (facE t h)]) ∧ Below w.heap.size w w' := by
  by_cases c : FacOk t h
  · have c' := c
    obtain ⟨c1, c2, c3, c4⟩ := c'
    obtain ⟨T, rfl⟩ := Int.eq_ofNat_of_zero_le (a := t) c1
    obtain ⟨Hh, rfl⟩ := Int.eq_ofNat_of_zero_le (a := h) (by omega)
    refine (Factor_ok T Hh w (by omega) (by omega) (by omega)).mono ?_
    rintro e w' ⟨rfl, hb⟩
    exact ⟨ret_tup3 (by simp [facW, c]) (by simp [facS, c]) (by simp [facE, c]), hb⟩
  · refine (Factor_no t h w c).mono ?_
    rintro e w' ⟨rfl, rfl⟩
    exact ⟨ret_tup3 (by simp [facW, c]) (by simp [facS, c]) (by simp [facE, c]), Below.refl _ _⟩

theorem After_no (n t h : Int) (w : World) (hn : ¬ (FacOk t h ∧ 0 ≤ n)) : Calls Try.prog 14 #[.int .i64 n, .int .i64 t, .int .i64 h] w fun e w' => e = .returned (.tuple #[.int .i64 0, .int .i64 2]) ∧ Below w.heap.size w w' := by
  have F : Hid (∀ w, Calls Try.prog 11 #[.int .i64 t, .int .i64 h] w fun e w' => e = .returned (.tuple #[.int .i64 (facW t h), .int .i64 (facS t h), .int .i64 (facE t h)]) ∧ Below w.heap.size w w') := Factor_any t h
  have c : facE t h = 2 ∨ facE t h = 0 ∧ decide (n < 0) = true := by
    by_cases hf : FacOk t h
    · exact .inr ⟨by simp [facE, hf], decide_eq_true (Int.not_le.1 fun h => hn ⟨hf, h⟩)⟩
    · exact .inl (by simp [facE, hf])
  clear hn
  generalize facW t h = x at *
  generalize facS t h = y at *
  rcases c with c | ⟨c, c'⟩
  all_goals
    rw [c] at F
    clear c
    go_enter Try.func14, Try.ntmps14
    go_wp2_with fail
    refine (F.out _).mono ?_; rintro e w1 ⟨rfl, b1⟩
    go_wp2_with fail
    go_ret2
    exact ⟨rfl, b1⟩

theorem half_step (n i : Nat) : n / 2 ^ i / 2 = n / 2 ^ (i + 1) := by rw [Nat.div_div_eq_div_mul, Nat.pow_succ]
theorem After_ok (n t h : Nat) (w : World) (hn : n ≤ 9223372036854775807) (ht : t ≤ 1099511627776) (h1 : 1 ≤ h) (h2 : h ≤ 1099511627776) :
    Calls Try.prog 14 #[.int .i64 n, .int .i64 t, .int .i64 h] w fun e w' => e = .returned (.tuple #[.int .i64 (aftN n t h : Nat), .int .i64 0]) ∧ Below w.heap.size w w' := by
  have F : Hid (∀ w, Calls Try.prog 11 #[.int .i64 t, .int .i64 h] w fun e w' => e = .returned (.tuple #[.int .i64 ((t / h : Nat) : Int), .int .i64 (tabN (t % h * 16 / h) : Nat), .int .i64 0]) ∧ Below w.heap.size w w') := by
    intro w
    rw [← tabN_eq _ (idx_lt h1)]
    exact Factor_ok t h w ht h1 h2
  have b1 := tabN_bd _ (idx_lt (t := t) h1)
  have b2 := Nat.div_le_self n (2 ^ (t / h))
  have b3 := aftN_le (n := n) (t := t) h1
  have b4 := Nat.div_le_self t h
  have M : Hid (∀ w, Calls Try.prog 22 #[.int .i64 ((n / 2 ^ (t / h) : Nat) : Int), .int .i64 (tabN (t % h * 16 / h) : Nat), .int .i64 65536] w
      fun e w' => e = .returned (.tuple #[.int .i64 (aftN n t h : Nat), .int .i64 0]) ∧ Below w.heap.size w w') := fun w => by
    refine (refmd_main (n / 2 ^ (t / h)) (tabN (t % h * 16 / h)) 65536 w (by omega) (by omega) (by omega) (by omega)).mono ?_
    have : I64 ((n / 2 ^ (t / h) * tabN (t % h * 16 / h) / 65536 : Nat) : Int) := by
      have e : n / 2 ^ (t / h) * tabN (t % h * 16 / h) / 65536 = aftN n t h := rfl
      rw [e]; unfold I64; omega
    rintro e w' ⟨rfl, hb⟩
    exact ⟨ret_tup2 (fitV_in this) (fitE_in this), hb⟩
  have c1 : decide ((n : Int) < 0) = false := decide_eq_false (by omega)
  generalize aftN n t h = r at *
  generalize tabN (t % h * 16 / h) = f at *
  generalize t / h = k at *
  have k40 : (k : Int) ≤ 1099511627776 := by omega
  have n63 : (n : Int) ≤ 9223372036854775807 := by omega
  clear b1 b2 b3 b4 h2 ht
  go_enter Try.func14, Try.ntmps14
  go_wp2_with fail
  refine (F.out _).mono ?_; rintro e w1 ⟨rfl, b1⟩
  go_wp2_with fail
  go_loop [0, 11] (fun a i => ∃ j : Nat, a = .int .i64 (n / 2 ^ j : Nat) ∧ i = .int .i64 j ∧ j ≤ k) (fun _ i => k - (intOf i).toNat)
  case atStart => exact ⟨0, by simp, rfl, Nat.zero_le _⟩
  case round =>
    obtain ⟨j, rfl, rfl, hj⟩ := hrel
    have E := Lib.hid (half_step n j)
    have nl := Nat.div_le_self n (2 ^ j)
    have z : n / 2 ^ j = 0 → n / 2 ^ k = n / 2 ^ j := fun h => by
      have p : 2 ^ j ≤ 2 ^ k := Nat.pow_le_pow_right (by omega) hj
      have : n < 2 ^ j := by
        rcases Nat.lt_or_ge n (2 ^ j) with h' | h'
        · exact h'
        · have := Nat.div_pos h' (Nat.pos_of_ne_zero (by simp)); omega
      rw [h, Nat.div_eq_of_lt (by omega)]
    have Z := Lib.hid z
    clear z
    generalize hm : n / 2 ^ j = m at *
    have HM := Lib.hid hm
    clear hm
    have m63 : (m : Int) ≤ 9223372036854775807 := by omega
    by_cases c : j < k
    · have d1 : decide (j < k) = true := decide_eq_true c
      by_cases c2 : m = 0
      · subst c2
        have E2 := Lib.hid (Z.out rfl)
        go_wp2_with fail
        rw [E2.out] at M
        refine (M.out _).mono ?_; rintro e w2 ⟨rfl, b2⟩
        go_wp2_with fail
        go_ret2
        exact ⟨rfl, below_next b2 b1⟩
      · have d2 : decide (0 < m) = true := decide_eq_true (by omega)
        have d2' : decide ((0 : Int) < m) = true := decide_eq_true (by omega)
        go_wp2_with fail
        go_round
        case rel => exact ⟨j + 1, by rw [← E.out]; go_num, by go_num, c⟩
        case measure => simp [intOf]; omega
    · obtain rfl : j = k := by omega
      have d1 : decide (j < j) = false := decide_eq_false (by omega)
      rw [HM.out] at M
      go_wp2_with fail
      refine (M.out _).mono ?_; rintro e w2 ⟨rfl, b2⟩
      go_wp2_with fail
      go_ret2
      exact ⟨rfl, below_next b2 b1⟩
end Go.Proofs.Ytggamihjmggmlaa
