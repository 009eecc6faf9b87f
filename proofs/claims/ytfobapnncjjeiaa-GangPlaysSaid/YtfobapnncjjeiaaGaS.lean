/-
  gang.span: which words a block has bits in, and which.
-/
import Derived.Test.YtfobapnncjjeiaaGaM
import Derived.Deep.DeepCutAuto
import Derived.Deep.QuietTactic
namespace Go.Proofs.Ytfobapnncjjeiaa
open Go Go.RowKit Go.Lib
set_option linter.unusedVariables false

theorem two_i (o : Nat) : ((2 : Int) ^ o) = ((2 ^ o : Nat) : Int) := by simp
theorem ones_eq {o : Nat} (h : o < 6) : IntKind.u64.wrap (IntKind.u64.wrap ((2 : Int) ^ min (IntKind.u64.wrap ((2 : Int) ^ o)).toNat 64) - 1) = ((2 ^ 2 ^ o - 1 : Nat) : Int) := by
  have h5 := pow2_small h
  have h1 := Nat.two_pow_pos (2 ^ o)
  have h6 : 2 ^ 2 ^ o ≤ 2 ^ 32 := Nat.pow_le_pow_right (by omega) h5
  have e1 : IntKind.u64.wrap ((2 : Int) ^ o) = ((2 ^ o : Nat) : Int) := by
    rw [two_i]; exact wrap_u64 _ (by omega)
  rw [e1, Int.toNat_natCast, Nat.min_eq_left (by omega), two_i]
  rw [wrap_u64 _ (by omega)]
  have e3 : ((2 ^ 2 ^ o : Nat) : Int) - 1 = ((2 ^ 2 ^ o - 1 : Nat) : Int) := by omega
  rw [e3]; exact wrap_u64 _ (by omega)
set_option maxRecDepth 100000 in
set_option maxHeartbeats 4000000 in
theorem span_any (s o : Nat) (w : World) (ho : o ≤ 10) (hs : s % 2 ^ o = 0) (hb : s + 2 ^ o ≤ 1024) :
    Calls Try.prog 48 #[.agg #[.int .i64 (s : Nat), .int .i64 (o : Nat)]] w fun e w' => e = .returned (.tuple #[.int .i64 (spanF s : Nat), .int .i64 (spanE s o : Nat), .int .u64 (spanM s o : Nat)]) ∧ Below w.heap.size w w' := by
  have h2 := Nat.two_pow_pos o
  obtain ⟨q, hq⟩ : ∃ q, q = s / 64 := ⟨_, rfl⟩
  have hqi : (s : Int) / 64 = (q : Int) := by omega
  have hqF : Hid (spanF s = q) := hq.symm
  have hq16 : q ≤ 16 := by omega
  by_cases h6 : 6 ≤ o
  · have d1 : decide ((o : Int) ≥ 6) = true := decide_eq_true (by omega)
    have d1' : decide ((6 : Int) ≤ (o : Int)) = true := decide_eq_true (by omega)
    have d1'' : decide (6 ≤ o) = true := decide_eq_true h6
    obtain ⟨d, hd⟩ : ∃ d, d = o - 6 := ⟨_, rfl⟩
    have hdi : (o : Int) - 6 = (d : Int) := by omega
    have hdw : IntKind.i64.wrap ((o : Int) - 6) = (d : Int) := by rw [hdi, IntKind.wrap_i64]; omega
    have hd0 : ¬ (d : Int) < 0 := by omega
    obtain ⟨P, hP⟩ : ∃ P, P = 2 ^ d := ⟨_, rfl⟩
    have hP16 : P ≤ 16 := by
      have := Nat.pow_le_pow_right (n := 2) (by omega) (show d ≤ 4 by omega)
      rw [hP]; simpa using this
    have hPi : IntKind.i64.wrap ((2 : Int) ^ d) = (P : Int) := by rw [two_i, hP, IntKind.wrap_i64]; have := hP16; rw [hP] at this; omega
    have hE : Hid (spanE s o = q + P) := by unfold Hid spanE; rw [if_pos h6, ← hq, ← hd, hP]
    have hM : Hid (spanM s o = 18446744073709551615) := by unfold Hid spanM; rw [if_pos h6]
    clear hq hd hP hs h2
    obtain ⟨W, hW⟩ : ∃ W, W = w.alloc (.cells #[.int .i64 (s : Nat), .int .i64 (o : Nat)] 46) := ⟨_, rfl⟩
    obtain ⟨gB, hgB⟩ : ∃ g, g = w.heap.size := ⟨_, rfl⟩
    have HBW : Hid (Below w.heap.size w W) := by unfold Hid; rw [hW]; exact (Below.refl _ _).alloc (Nat.le_refl _) _
    have HB : Hid (Blk W gB #[.int .i64 (s : Nat), .int .i64 (o : Nat)] 46) := by unfold Hid; rw [hW, hgB]; exact Blk.new w _ _
    have t0 := HB.out.cell 0
    have t1 := HB.out.cell 1
    simp at t0 t1
    go_enter Try.func48, Try.ntmps48
    go_upto_region 1 with fail
    rw [← hgB, ← hW]
    clear hgB hW
    go_wp2_with fail
    go_region
    go_wp2_with fail
    go_ret3
    exact ⟨by (rw [hqF.out, hE.out, hM.out]; rfl), below_drewN HBW.out _⟩
  · have d1 : decide ((o : Int) ≥ 6) = false := decide_eq_false (by omega)
    have d1' : decide ((6 : Int) ≤ (o : Int)) = false := decide_eq_false (by omega)
    have d1'' : decide (6 ≤ o) = false := decide_eq_false h6
    have hON := ones_eq (show o < 6 by omega)
    have hE : Hid (spanE s o = q + 1) := by unfold Hid spanE; rw [if_neg h6, ← hq]
    obtain ⟨r, hr⟩ : ∃ r, r = s % 64 := ⟨_, rfl⟩
    have hr64 : r < 64 := by omega
    have hri : (s : Int).tmod 64 = (r : Int) := by rw [Int.tmod_eq_emod_of_nonneg (by omega), hr]; omega
    obtain ⟨M, hMM⟩ : ∃ M, M = spanM s o := ⟨_, rfl⟩
    have hlt := spanM_lt (s := s) (o := o) hs
    obtain ⟨N, hN⟩ : ∃ N, N = 2 ^ 2 ^ o - 1 := ⟨_, rfl⟩
    have hMe : M = N * 2 ^ r := by rw [hMM]; unfold spanM; rw [if_neg h6, ← hN, ← hr]
    rw [← hMM] at hlt
    have hMi : IntKind.u64.wrap ((N : Int) * (2 : Int) ^ r) = (M : Int) := by
      rw [two_i, ← Int.natCast_mul, ← hMe]
      exact wrap_u64 M hlt
    rw [← hN] at hON
    have hM : Hid (spanM s o = M) := hMM.symm
    have HON := Lib.hid hON
    have HMI := Lib.hid hMi
    clear hq hr hMM hlt hN hMe hs h2 hON hMi
    obtain ⟨W, hW⟩ : ∃ W, W = w.alloc (.cells #[.int .i64 (s : Nat), .int .i64 (o : Nat)] 46) := ⟨_, rfl⟩
    obtain ⟨gB, hgB⟩ : ∃ g, g = w.heap.size := ⟨_, rfl⟩
    have HBW : Hid (Below w.heap.size w W) := by unfold Hid; rw [hW]; exact (Below.refl _ _).alloc (Nat.le_refl _) _
    have HB : Hid (Blk W gB #[.int .i64 (s : Nat), .int .i64 (o : Nat)] 46) := by unfold Hid; rw [hW, hgB]; exact Blk.new w _ _
    have t0 := HB.out.cell 0
    have t1 := HB.out.cell 1
    simp at t0 t1
    go_enter Try.func48, Try.ntmps48
    go_upto_region 1 with fail
    rw [← hgB, ← hW]
    clear hgB hW
    go_wp2_with fail
    rw [HON.out]
    go_quiet (fail)
    go_wp2_with fail
    go_ret3
    have eW : IntKind.i64.wrap ((q : Int) + 1) = ((q + 1 : Nat) : Int) := by rw [IntKind.wrap_i64]; omega
    exact ⟨by (rw [hqF.out, hE.out, hM.out, HMI.out, eW]; rfl), below_drewN HBW.out _⟩
end Go.Proofs.Ytfobapnncjjeiaa
