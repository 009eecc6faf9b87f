/-
  gangerref04.Size; gangerref16.Meet.
-/
import Derived.Test.YtfobapnncjjeiaaGaKn
import Derived.Deep.QuietTactic
import Derived.BigQuiet
namespace Go.Proofs.Ytfobapnncjjeiaa
open Go Go.ChangeShapes Go.WideShapes Go.ChangeAt Go.RowKit Go.Lib Go.Deep
set_option linter.unusedVariables false

theorem two_1024 {o : Nat} (h : o ≤ 10) : 2 ^ o ≤ 1024 := Nat.pow_le_pow_right (by omega) h
theorem rSize_any (o : Nat) (ho : o ≤ 10) (w : World) : Calls Try.prog 40 #[.int .i64 (o : Int)] w fun e w' => e = .returned (.int .i64 ((2 ^ o : Nat) : Int)) ∧ w' = w := by
  obtain ⟨Q, hQ⟩ : ∃ Q, Q = 2 ^ o := ⟨_, rfl⟩
  rw [← hQ]
  have HQ := Lib.hid hQ
  clear hQ
  go_enter Try.func40, Try.ntmps40
  go_wp2_with fail
  go_loop [3, 4] (fun n i => ∃ k P : Nat, k ≤ o ∧ i = .int .i64 k ∧ n = .int .i64 P ∧ Hid (P = 2 ^ k) ∧ P ≤ 1024) (fun _ i => o - (RowKit.intOf i).toNat)
  case atStart => exact ⟨0, 1, Nat.zero_le _, rfl, rfl, rfl, by omega⟩
  case round =>
    obtain ⟨k, P, hk, rfl, rfl, HP, hP⟩ := hrel
    by_cases hlt : k < o
    · have hd : decide (k < o) = true := decide_eq_true hlt
      have hi : (k : Int) < (o : Int) := by omega
      have h2 : P * 2 ≤ 1024 := by rw [HP.out, ← Nat.pow_succ]; exact two_1024 (by omega)
      go_wp2_with fail
      go_round
      case rel => exact ⟨k + 1, P * 2, hlt, by go_num, by go_num, by unfold Hid; rw [HP.out, Nat.pow_succ], h2⟩
      case measure => simp [RowKit.intOf]; omega
    · have hd : decide (k < o) = false := decide_eq_false hlt
      have hi : ¬ (k : Int) < (o : Int) := by omega
      have hko : k = o := by omega
      obtain rfl : P = Q := by rw [HQ.out, ← hko]; exact HP.out
      clear hko hlt
      go_wp2_with fail
      go_ret
      exact ⟨rfl, rfl⟩
theorem meet_a {s o s' o' : Nat} (h : s' ≤ s) : meetC s o s' o' ↔ s < s' + 2 ^ o' := by
  have := Nat.two_pow_pos o
  unfold meetC; omega
theorem meet_c {s o s' o' : Nat} (h : s < s') : meetC s o s' o' ↔ s' < s + 2 ^ o := by
  have := Nat.two_pow_pos o'
  unfold meetC; omega
set_option maxRecDepth 100000 in
set_option maxHeartbeats 4000000 in
theorem meet_any (s o s' o' : Nat) (ho : o ≤ 10) (ho' : o' ≤ 10) (hs : s ≤ 4096) (hs' : s' ≤ 4096) (w : World) :
    Calls Try.prog 25 #[.agg #[.int .i64 (s : Nat), .int .i64 (o : Nat)], .agg #[.int .i64 (s' : Nat), .int .i64 (o' : Nat)]] w fun e w' => e = .returned (.bool (decide (meetC s o s' o'))) ∧ Below w.heap.size w w' := by
  have SZ := Lib.hid (rSize_any o ho)
  have SZ' := Lib.hid (rSize_any o' ho')
  have hp := two_1024 ho
  have hp' := two_1024 ho'
  have hq' := Nat.two_pow_pos o'
  have HMA := Lib.hid (@meet_a s o s' o')
  have HMC := Lib.hid (@meet_c s o s' o')
  obtain ⟨P, hP⟩ : ∃ P, P = 2 ^ o := ⟨_, rfl⟩
  obtain ⟨P', hP'⟩ : ∃ P, P = 2 ^ o' := ⟨_, rfl⟩
  rw [← hP] at SZ hp HMC
  rw [← hP'] at SZ' hp' HMA hq'
  clear hP hP'
  obtain ⟨E, hE⟩ : ∃ E, E = s + P := ⟨_, rfl⟩
  obtain ⟨E', hE'⟩ : ∃ E, E = s' + P' := ⟨_, rfl⟩
  rw [← hE] at HMC
  rw [← hE'] at HMA
  have hEi : (s : Int) + (P : Int) = (E : Int) := by omega
  have hEi' : (s' : Int) + (P' : Int) = (E' : Int) := by omega
  have hE9 : E ≤ 5120 := by omega
  have hE9' : E' ≤ 5120 := by omega
  have hsE : s' < E' := by omega
  have hw1 : IntKind.i64.wrap (E : Int) = (E : Int) := by rw [IntKind.wrap_i64]; omega
  have hw2 : IntKind.i64.wrap (E' : Int) = (E' : Int) := by rw [IntKind.wrap_i64]; omega
  clear hE hE'
  obtain ⟨W, hW⟩ : ∃ W, W = (w.alloc (.cells #[.int .i64 (s : Nat), .int .i64 (o : Nat)] 46)).alloc (.cells #[.int .i64 (s' : Nat), .int .i64 (o' : Nat)] 46) := ⟨_, rfl⟩
  obtain ⟨gB, hgB⟩ : ∃ g, g = w.heap.size := ⟨_, rfl⟩
  obtain ⟨gC, hgC⟩ : ∃ g, g = w.heap.size + 1 := ⟨_, rfl⟩
  have hbW : Below w.heap.size w W := by rw [hW]; exact ((Below.refl _ _).alloc (Nat.le_refl _) _).alloc (by simp) _
  have hG : Blk W gB #[.int .i64 (s : Nat), .int .i64 (o : Nat)] 46 := by rw [hW, hgB]; exact (Blk.new _ _ _).old _
  have hC : Blk W gC #[.int .i64 (s' : Nat), .int .i64 (o' : Nat)] 46 := by rw [hW]; exact Blk.fresh _ _ _ gC (by rw [hgC]; simp)
  have HBW := Lib.hid hbW
  have g0 := hG.cell 0
  have g1 := hG.cell 1
  have c0 := hC.cell 0
  have c1 := hC.cell 1
  simp at g0 g1 c0 c1
  clear hG hC hbW
  go_enter Try.func25, Try.ntmps25
  go_upto_region 1 with fail
  rw [← hW, ← hgC, ← hgB]
  clear hW hgB hgC hp hp' hq'
  by_cases h1 : s' ≤ s
  · have d1 : decide ((s : Int) ≥ (s' : Int)) = true := decide_eq_true (by omega)
    have d2 : decide (s ≥ s') = true := decide_eq_true h1
    have d3 : decide (s' ≤ s) = true := decide_eq_true h1
    by_cases h2 : s < E'
    · have d4 : decide ((s : Int) < (E' : Int)) = true := decide_eq_true (by omega)
      have d5 : decide (s < E') = true := decide_eq_true h2
      have HR : Hid (decide (meetC s o s' o') = true) := decide_eq_true ((HMA.out h1).2 h2)
      go_quiet (first | (go_at_call 40; exact Calls.quiet_of_same (SZ'.out _)))
      go_wp2_with fail
      go_ret
      exact ⟨by (rw [HR.out]; rfl), below_next (below_drewN (Below.refl _ _) _) HBW.out⟩
    · have d4 : decide ((s : Int) < (E' : Int)) = false := decide_eq_false (by omega)
      have d5 : decide (s < E') = false := decide_eq_false h2
      have d6 : decide ((s' : Int) ≥ (s : Int)) = false := decide_eq_false (by omega)
      have d7 : decide (s' ≥ s) = false := decide_eq_false (by omega)
      have d8 : decide (s ≤ s') = false := decide_eq_false (by omega)
      have HR : Hid (decide (meetC s o s' o') = false) := decide_eq_false (fun h => h2 ((HMA.out h1).1 h))
      go_quiet (first | (go_at_call 40; exact Calls.quiet_of_same (SZ'.out _)))
      go_wp2_with fail
      go_ret
      exact ⟨by (rw [HR.out]; rfl), below_next (below_drewN (Below.refl _ _) _) HBW.out⟩
  · have d1 : decide ((s : Int) ≥ (s' : Int)) = false := decide_eq_false (by omega)
    have d2 : decide (s ≥ s') = false := decide_eq_false h1
    have d3 : decide (s' ≤ s) = false := decide_eq_false h1
    have d6 : decide ((s' : Int) ≥ (s : Int)) = true := decide_eq_true (by omega)
    have d7 : decide (s' ≥ s) = true := decide_eq_true (by omega)
    have d8 : decide (s ≤ s') = true := decide_eq_true (by omega)
    have d9 : decide ((s' : Int) < (E : Int)) = decide (s' < E) := by rw [decide_eq_decide]; omega
    have HR : Hid (decide (meetC s o s' o') = decide (s' < E)) := decide_eq_decide.2 (HMC.out (by omega))
    go_quiet (first | (go_at_call 40; exact Calls.quiet_of_same (SZ.out _)))
    go_wp2_with fail
    go_ret
    exact ⟨by (rw [HR.out]; rfl), below_next (below_drewN (Below.refl _ _) _) HBW.out⟩
end Go.Proofs.Ytfobapnncjjeiaa
