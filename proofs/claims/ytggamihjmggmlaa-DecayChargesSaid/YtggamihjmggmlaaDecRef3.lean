/-
  gangerref02.Charge.
-/
import Derived.Test.YtggamihjmggmlaaDecRef2
namespace Go.Proofs.Ytggamihjmggmlaa
open Go.ChangeShapes Go.WideShapes Go.ChangeAt Go.RowKit
set_option linter.unusedVariables false

theorem Charge_no (N At now more h : Int) (w : World) (hN : I64 N) (hn : ¬ ChOk N At now more h) :
    Calls Try.prog 18 #[.agg #[.int .i64 N, .int .i64 At], .int .i64 now, .int .i64 more, .int .i64 h] w fun e w' => e = .returned (.tuple #[.agg #[.int .i64 0, .int .i64 0], .int .i64 2]) ∧ Below w.heap.size w w' := by
  have c : decide (At < 0) = true ∨ decide (At < 0) = false ∧ (decide (now < At) = true ∨ decide (now < At) = false ∧ (decide (1099511627776 < now) = true ∨ decide (1099511627776 < now) = false ∧
      (decide (more < 0) = true ∨ decide (more < 0) = false ∧ Hid (¬ (FacOk (now - At) h ∧ 0 ≤ N) ∧ 0 ≤ At ∧ At ≤ now ∧ now ≤ 1099511627776)))) := by
    unfold ChOk at hn
    unfold Hid FacOk
    simp only [decide_eq_true_eq, decide_eq_false_iff_not]; omega
  clear hn
  rcases c with c | ⟨c1, c | ⟨c2, c | ⟨c3, c | ⟨c4, c⟩⟩⟩⟩
  case inr.inr.inr.inr =>
    obtain ⟨d1, d2, d3, d4⟩ := c.out
    have A : Hid (∀ w, Calls Try.prog 14 #[.int .i64 N, .int .i64 (now - At), .int .i64 h] w fun e w' => e = .returned (.tuple #[.int .i64 0, .int .i64 2]) ∧ Below w.heap.size w w') := fun w => After_no _ _ _ w d1
    clear d1 c
    go_enter Try.func18, Try.ntmps18
    go_wp2_with fail
    refine (A.out _).mono ?_; rintro e w1 ⟨rfl, b1⟩
    obtain ⟨hc, hf⟩ := bcell b1
    have hB : Below w.heap.size w w1 := Below.trans (by go_grown) (b1.mono (by simp <;> omega))
    go_wp2_with fail
    refine bodyPost_ret (v := .tuple #[.agg #[.int .i64 0, .int .i64 0], .int .i64 2]) (by simp [results, Try.results18, go_sem, hc]) rfl ⟨rfl, ?_⟩
    go_grown
  all_goals
    go_enter Try.func18, Try.ntmps18
    go_wp2_with fail
    refine bodyPost_ret (v := .tuple #[.agg #[.int .i64 0, .int .i64 0], .int .i64 2]) (by simp [results, Try.results18, go_sem]) rfl ⟨rfl, ?_⟩
    go_grown

theorem Charge_ok (N At now more h : Nat) (w : World) (hN : N ≤ 9223372036854775807) (hm : more ≤ 9223372036854775807) (ha : At ≤ now) (hn : now ≤ 1099511627776) (h1 : 1 ≤ h) (h2 : h ≤ 1099511627776) :
    Calls Try.prog 18 #[.agg #[.int .i64 N, .int .i64 At], .int .i64 now, .int .i64 more, .int .i64 h] w
      fun e w' => e = .returned (.tuple #[.agg #[.int .i64 (endV ((aftN N (now - At) h : Nat) + (more : Int))), .int .i64 now], .int .i64 0]) ∧ Below w.heap.size w w' := by
  have c2 : decide ((At : Int) < 0) = false := decide_eq_false (by omega)
  have c3 : decide (now < At) = false := decide_eq_false (by omega)
  have c4 : decide (1099511627776 < (now : Int)) = false := decide_eq_false (by omega)
  have c5 : decide ((more : Int) < 0) = false := decide_eq_false (by omega)
  have M : Hid (∀ w, Calls Try.prog 14 #[.int .i64 N, .int .i64 ((now : Int) - At), .int .i64 h] w fun e w' => e = .returned (.tuple #[.int .i64 (aftN N (now - At) h : Nat), .int .i64 0]) ∧ Below w.heap.size w w') := by
    intro w
    rw [show ((now : Int) - At) = ((now - At : Nat) : Int) from by omega]
    exact After_ok N (now - At) h w hN (by omega) h1 h2
  have b1 := aftN_le (n := N) (t := now - At) h1
  have b2 := Nat.div_le_self N (2 ^ ((now - At) / h))
  have x1 : I64 ((aftN N (now - At) h : Nat) : Int) := by unfold I64; omega
  have x2 : I64 (more : Int) := by unfold I64; omega
  generalize aftN N (now - At) h = n at *
  have f1 := fits_abs x1
  have f2 := fits_abs x2
  have hf : Fits ((n : Int).natAbs + (more : Int).natAbs) := by unfold Fits; omega
  have hf' : Fits (plusN (negB n) (negB more) (n : Int).natAbs (more : Int).natAbs) := by have := plusN_le (negB n) (negB more) (n : Int).natAbs (more : Int).natAbs; unfold Fits at *; omega
  have P1 : Hid (∀ w, Calls Try.prog 27 #[.int .i64 n] w fun e w' => e = .returned (.agg #[.bool (negB n), .int .u64 (hiW (n : Int).natAbs), .int .u64 (loW (n : Int).natAbs)]) ∧ Below w.heap.size w w') := fun w => of_any n w x1
  have P2 : Hid (∀ w, Calls Try.prog 27 #[.int .i64 more] w fun e w' => e = .returned (.agg #[.bool (negB more), .int .u64 (hiW (more : Int).natAbs), .int .u64 (loW (more : Int).natAbs)]) ∧ Below w.heap.size w w') := fun w => of_any more w x2
  have P3 : Hid (∀ w, Calls Try.prog 26 #[.agg #[.bool (negB n), .int .u64 (hiW (n : Int).natAbs), .int .u64 (loW (n : Int).natAbs)], .agg #[.bool (negB more), .int .u64 (hiW (more : Int).natAbs), .int .u64 (loW (more : Int).natAbs)]] w
      fun e w' => ∃ m k, e = .returned (.agg #[.bool m, .int .u64 (hiW k), .int .u64 (loW k)]) ∧ (Hid (sg m k = n + more ∧ Fits k)) ∧ Below w.heap.size w w') := by
    intro w
    refine (Plus_any _ _ _ _ w hf).mono ?_
    rintro e w' ⟨rfl, hb⟩
    exact ⟨_, _, rfl, ⟨by rw [plus_sg, sg_abs, sg_abs], hf'⟩, hb⟩
  have a1 : (At : Int) ≤ now := by omega
  have a2 : (now : Int) ≤ 1099511627776 := by omega
  clear b1 b2 hN hm ha hn h1 h2 f1 f2 hf hf' x1 x2
  simp only [Int.natAbs_natCast] at P1 P2 P3
  go_enter Try.func18, Try.ntmps18
  go_wp2_with fail
  refine (M.out _).mono ?_; rintro e w2 ⟨rfl, b2⟩
  obtain ⟨hc, hfz⟩ := bcell b2
  have hz := b2.size
  simp only [World.size_alloc] at hz
  have B2 : Below w.heap.size w w2 := Below.trans (by go_grown) (b2.mono (by simp <;> omega))
  go_wp2_with fail
  refine (P1.out _).mono ?_; rintro e w3 ⟨rfl, b3⟩
  go_wp2_with fail
  refine (P2.out _).mono ?_; rintro e w4 ⟨rfl, b4⟩
  go_wp2_with fail
  refine (P3.out _).mono ?_; rintro e w5 ⟨m, k, rfl, hk, b5⟩
  go_wp2_with fail
  refine (End_any _ _ _ hk.out.2).mono ?_; rintro e w6 ⟨rfl, b6⟩
  rw [hk.out.1]
  have B6 := b3.trans ((b4.trans ((b5.trans (b6.mono b5.size)).mono b4.size)).mono b3.size)
  obtain ⟨hc6, hf6⟩ := bcell B6
  have hB6 : Below w.heap.size w w6 := below_next B6 B2
  have l1 : w.heap.size + 1 < w2.heap.size := by omega
  clear b3 b4 b5 b6
  go_wp2_with fail
  refine bodyPost_ret (v := .tuple #[.agg #[.int .i64 (endV (n + (more : Int))), .int .i64 now], .int .i64 0]) (by simp [results, Try.results18, go_sem, hc, hc6, l1]) rfl ⟨rfl, ?_⟩
  go_grown

theorem Charge_any (N At now more h : Int) (w : World) (hN : I64 N) (hm : I64 more) :
    Calls Try.prog 18 #[.agg #[.int .i64 N, .int .i64 At], .int .i64 now, .int .i64 more, .int .i64 h] w
      fun e w' => e = .returned (.tuple #[.agg #[.int .i64 (chV N At now more h), .int .i64 (chA N At now more h)], .int .i64 (chE N At now more h)]) ∧ Below w.heap.size w w' := by
  by_cases c : ChOk N At now more h
  · have c' := c
    obtain ⟨c1, c2, c3, c4, c5, c6, c7⟩ := c'
    obtain ⟨n, rfl⟩ := Int.eq_ofNat_of_zero_le (a := N) c1
    obtain ⟨a, rfl⟩ := Int.eq_ofNat_of_zero_le (a := At) c2
    obtain ⟨o, rfl⟩ := Int.eq_ofNat_of_zero_le (a := now) (by omega)
    obtain ⟨m, rfl⟩ := Int.eq_ofNat_of_zero_le (a := more) c5
    obtain ⟨Hh, rfl⟩ := Int.eq_ofNat_of_zero_le (a := h) (by omega)
    refine (Charge_ok n a o m Hh w (by have := hN.2; omega) (by have := hm.2; omega) (by omega) (by omega) (by omega) (by omega)).mono ?_
    rintro e w' ⟨rfl, hb⟩
    exact ⟨ret_use (by rw [chV, if_pos c]; simp) (by rw [chA, if_pos c]) (by rw [chE, if_pos c]), hb⟩
  · refine (Charge_no N At now more h w hN c).mono ?_
    rintro e w' ⟨rfl, hb⟩
    exact ⟨ret_use (by rw [chV, if_neg c]) (by rw [chA, if_neg c]) (by rw [chE, if_neg c]), hb⟩
end Go.Proofs.Ytggamihjmggmlaa
