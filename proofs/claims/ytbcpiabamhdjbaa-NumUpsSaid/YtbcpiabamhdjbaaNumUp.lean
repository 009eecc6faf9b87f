/-
  gangerref01.Up: the next power of two, by doubling.
-/
import Derived.Test.YtbcpiabamhdjbaaNum4
namespace Go.Proofs.Ytbcpiabamhdjbaa
open Go.ChangeShapes Go.WideShapes Go.ChangeAt Go.RowKit
set_option linter.unusedVariables false

theorem up_facts {n : Int} (h1 : 1 ≤ n) (h2 : n ≤ 4611686018427387904) : upK n ≤ 62 ∧ n ≤ ((2 ^ upK n : Nat) : Int) ∧ (0 < upK n → ((2 ^ (upK n - 1) : Nat) : Int) < n) := by
  have hc : ¬ (n < 1 ∨ 4611686018427387904 < n) := by omega
  have e : upK n = Lib.bitLen (n - 1).toNat := by unfold upK; rw [if_neg hc]
  by_cases h0 : (n - 1).toNat = 0
  · have hn : n = 1 := by omega
    subst hn
    decide
  · obtain ⟨p1, p2, p3⟩ := bitLen_bounds 64 (n - 1).toNat (by omega) (by omega) h0
    rw [e]
    refine ⟨?_, by omega, fun _ => by omega⟩
    rcases Nat.lt_or_ge 62 (Lib.bitLen (n - 1).toNat) with h' | h'
    · exfalso
      have := Nat.pow_le_pow_right (show 0 < 2 by omega) (show 62 ≤ Lib.bitLen (n - 1).toNat - 1 by omega)
      omega
    · exact h'
theorem upP_eq {n : Int} (h1 : 1 ≤ n) (h2 : n ≤ 4611686018427387904) : upP n = ((2 ^ upK n : Nat) : Int) := by
  unfold upP; rw [if_neg (by omega)]; simp

theorem Up_any (n : Int) (w : World) (h : I64 n) :
    Calls Try.prog 29 #[.int .i64 n] w fun e w' => e = .returned (.tuple #[.int .i64 (upP n), .int .i64 (upK n : Nat)]) ∧ w' = w := by
  by_cases c : n < 1 ∨ 4611686018427387904 < n
  · have E1 : Hid (0 = upP n) := by show _ = _; simp [upP, c]
    have E2 : Hid ((0 : Int) = (upK n : Nat)) := by show _ = _; simp [upK, c]
    have t : decide (n < 1) = true ∨ decide (n < 1) = false ∧ decide (4611686018427387904 < n) = true := by
      simp only [decide_eq_true_eq, decide_eq_false_iff_not]; omega
    clear c
    rcases t with t | ⟨t, t'⟩
    all_goals
      go_enter Try.func29, Try.ntmps29
      go_wp2
      go_ret2
      exact ⟨ret_tup2 E1.out E2.out, rfl⟩
  · have t : decide (n < 1) = false := decide_eq_false (by omega)
    have t' : decide (4611686018427387904 < n) = false := decide_eq_false (by omega)
    have n1 : 1 ≤ n := by omega
    have n2 : n ≤ 4611686018427387904 := by omega
    obtain ⟨u1, u2, u3⟩ := up_facts n1 n2
    have E1 := Lib.hid (upP_eq n1 n2)
    have U1 := Lib.hid u1
    have U2 := Lib.hid u2
    have U3 := Lib.hid u3
    clear c h u1 u2 u3
    generalize upK n = K at *
    go_enter Try.func29, Try.ntmps29
    go_wp2
    go_loop [4, 5] (fun a b => ∃ p k : Nat, a = .int .i64 p ∧ b = .int .i64 k ∧ k ≤ K ∧ Hid (p = 2 ^ k)) (fun _ b => K - (intOf b).toNat)
    case atStart => exact ⟨1, 0, rfl, rfl, Nat.zero_le _, by show _ = _; rfl⟩
    case round =>
      obtain ⟨p, k, rfl, rfl, hk, hp⟩ := hrel
      have hk62 : (k : Int) ≤ 62 := by have := U1.out; omega
      by_cases c : (p : Int) < n
      · have d : decide ((p : Int) < n) = true := decide_eq_true c
        have hlt : k < K := by
          rcases Nat.lt_or_ge k K with h | h
          · exact h
          · exfalso
            have e : k = K := by omega
            have h1 := hp.out; have h2 := U2.out
            rw [e] at h1; rw [← h1] at h2; omega
        have hp2 : Hid (p * 2 = 2 ^ (k + 1)) := by show _ = _; rw [Nat.pow_succ, hp.out]
        go_wp2
        go_round
        case rel => exact ⟨p * 2, k + 1, by go_num, by go_num, hlt, hp2⟩
        case measure => simp [intOf]; omega
      · have d : decide ((p : Int) < n) = false := decide_eq_false c
        have e : Hid (k = K) := by
          show _ = _
          rcases Nat.lt_or_ge k K with h | h
          · exfalso
            have h3 := U3.out (by omega)
            have h1 := hp.out
            have h4 : 2 ^ k ≤ 2 ^ (K - 1) := Nat.pow_le_pow_right (by omega) (by omega)
            rw [← h1] at h4; omega
          · omega
        go_wp2
        go_ret2
        exact ⟨ret_tup2 (by rw [E1.out, ← e.out, hp.out]) (by rw [e.out]), rfl⟩
end Go.Proofs.Ytbcpiabamhdjbaa
