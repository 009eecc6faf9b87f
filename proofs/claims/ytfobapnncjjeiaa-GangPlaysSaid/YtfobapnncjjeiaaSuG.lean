/-
  Sorting rows of uint32: the two partitions.
-/
import Derived.Test.YtfobapnncjjeiaaSuC
import Derived.Sort.LotC
namespace Go.Proofs.Ytfobapnncjjeiaa
open Go Go.RowKit Go.Lib Go.Sort
set_option linter.unusedVariables false

theorem scan_pair (p q : Int → Bool) (hq : ∀ x, q x = !p x) (d : Array Int) (i j : Nat) (hi : 1 ≤ i) (hij : i ≤ j + 1) :
    i ≤ scanUp p d j i ∧ scanUp p d j i ≤ j + 1 ∧ scanDown q d (scanUp p d j i) j ≤ j ∧ scanUp p d j i ≤ scanDown q d (scanUp p d j i) j + 1 ∧
    (¬ scanUp p d j i > scanDown q d (scanUp p d j i) j → scanUp p d j i < scanDown q d (scanUp p d j i) j) := by
  obtain ⟨a1, a2, _, a4⟩ := scanUp_spec p d j _ i rfl
  obtain ⟨b1, b2, _, b4⟩ := scanDown_spec q d (scanUp p d j i) j
  refine ⟨a1, a2 hij, b1, b2 (a2 hij), fun h => ?_⟩
  rcases Nat.lt_or_ge (scanUp p d j i) (scanDown q d (scanUp p d j i) j) with h1 | h1
  · exact h1
  · have e : scanUp p d j i = scanDown q d (scanUp p d j i) j := by omega
    have h2 := a4 (by omega)
    have h3 := b4 (by omega) (by omega)
    rw [← e, hq, h2] at h3
    exact absurd h3 (by simp)
set_option maxRecDepth 100000 in
set_option maxHeartbeats 8000000 in
theorem partEqU_any (blk off cap a b pivot : Nat) (d : Array Int) (w : World) (hH : Holds uE w blk off d) (hap : a ≤ pivot) (hpb : pivot < b) (hb : b ≤ d.size) (hsz : d.size ≤ 4194304) :
    Calls Try.prog 67 #[.slice (some ⟨blk, off, none⟩) d.size cap, .int .i64 (a : Nat), .int .i64 (b : Nat), .int .i64 (pivot : Nat)] w fun e w' =>
      e = .returned (.int .i64 (partitionEqual ltInt d a b pivot).1) ∧ SoG w blk off (partitionEqual ltInt d a b pivot).2 w' := by
  have HH := Lib.hid hH
  have LS : Hid (∀ x y w1, Calls Try.prog 66 #[.int .u32 x, .int .u32 y] w1 fun e w' => e = .returned (.bool (ltInt x y)) ∧ w' = w1) := lessU_any
  obtain ⟨d1, hd1⟩ : ∃ d1, d1 = swp d a pivot := ⟨_, rfl⟩
  obtain ⟨Q1, hR1⟩ : ∃ R, R = (partitionEqual ltInt d a b pivot).1 := ⟨_, rfl⟩
  obtain ⟨Q2, hR2⟩ : ∃ R, R = (partitionEqual ltInt d a b pivot).2 := ⟨_, rfl⟩
  have HDEF : Hid (partEqLoop ltInt a (a + 1) (b - 1) d1 = (Q1, Q2)) := by unfold Hid; rw [hR1, hR2, hd1]; rfl
  rw [← hR1, ← hR2]
  clear hR1 hR2
  obtain ⟨N, hN⟩ : ∃ N, N = d.size := ⟨_, rfl⟩
  have HN := Lib.hid hN
  have hd0 : Hid (d.size = N) := hN.symm
  have HG0 : Hid (SoG w blk off d w) := SoG.self HH.out
  rw [← hN] at hb hsz ⊢
  clear hH hN
  obtain ⟨B, hB⟩ : ∃ B, B = b - 1 := ⟨_, rfl⟩
  have hBi : (b : Int) - 1 = (B : Int) := by omega
  have hBb : B < b := by omega
  have haB : a ≤ B := by omega
  rw [← hB] at HDEF
  clear hB
  go_enter Try.func67, Try.ntmps67
  go_upto_region 1 with fail
  have hiN : (a : Int) < (N : Int) := by omega
  have hjN : (pivot : Int) < (N : Int) := by omega
  obtain ⟨c0, f0⟩ := HG0.out.cell HH.out (hd0.out.trans HN.out) (j := a) (by have := HN.out; omega)
  obtain ⟨c1, f1⟩ := HG0.out.cell HH.out (hd0.out.trans HN.out) (j := pivot) (by have := HN.out; omega)
  obtain ⟨z, cz, fz⟩ := set_cell (HG0.out.holds HH.out (hd0.out.trans HN.out)) (i := a) (k := pivot) (by have := hd0.out; omega) (by have := hd0.out; omega) d[pivot]!
  have HS := Lib.hid (HG0.out.swap HH.out (hd0.out.trans HN.out) (j := a) (k := pivot) (by have := hd0.out; omega) (by have := hd0.out; omega))
  have HZ1 : Hid ((swp d a pivot).size = N) := by unfold Hid; rw [swp_sz]; exact hd0.out
  obtain ⟨u, hu⟩ : ∃ x, x = d[a]! := ⟨_, rfl⟩
  obtain ⟨v, hv⟩ : ∃ y, y = d[pivot]! := ⟨_, rfl⟩
  rw [← hu, ← hv] at HS
  rw [← hu] at c0
  rw [← hv] at c1
  rw [← hv] at cz fz
  clear hu hv
  rw [← hd1] at HS HZ1
  clear hd1 HG0 hd0
  go_region
  have HG1 : Hid (SoG w blk off d1 (((w.setCell ⟨blk, off + a, none⟩ (.int .u32 v)).setCell ⟨blk, off + pivot, none⟩ (.int .u32 u)).drew)) := HS.out.drewN 1
  obtain ⟨w1, hw1⟩ : ∃ w1, w1 = (((w.setCell ⟨blk, off + a, none⟩ (.int .u32 v)).setCell ⟨blk, off + pivot, none⟩ (.int .u32 u)).drew) := ⟨_, rfl⟩
  rw [← hw1] at HG1 ⊢
  clear hw1 HS c0 c1 f0 f1 cz fz hiN hjN
  have P0 : Nat := 0
  go_wp2_with fail
  go_loopw [9, 10] (fun vi vj wr => ∃ (i0 j0 : Nat) (dk : Array Int), vi = .int .i64 (i0 : Nat) ∧ vj = .int .i64 (j0 : Nat) ∧ a < i0 ∧ i0 ≤ j0 + 1 ∧ j0 < b ∧ Hid (SoG w blk off dk wr) ∧ Hid (dk.size = N) ∧ Hid (partEqLoop ltInt a i0 j0 dk = (Q1, Q2))) (fun vi vj _ => (RowKit.intOf vj).toNat + 1 - (RowKit.intOf vi).toNat)
  case atStart => exact ⟨a + 1, B, d1, by first | rfl | go_num, by first | rfl | go_num, by omega, by omega, by omega, HG1.out, HZ1.out, HDEF.out⟩
  case round =>
    obtain ⟨i0, j0, dk, rfl, rfl, ha0, hij0, hj0b, HGk, HZk, HLk⟩ := hrel
    obtain ⟨P, hP⟩ : ∃ P, P = dk[a]! := ⟨_, rfl⟩
    have HP := Lib.hid hP
    have HPR := scan_pair (fun x => !ltInt P x) (fun x => ltInt P x) (by intro x; simp) dk i0 j0 (by omega) (by omega)
    have HQL : Hid ((Q1, Q2) = _) := HLk.out.symm.trans (partEqLoop_eq ltInt a i0 j0 dk)
    rw [← hP] at HQL
    obtain ⟨I2, hI2⟩ : ∃ I, I = scanUp (fun x => !ltInt P x) dk j0 i0 := ⟨_, rfl⟩
    rw [← hI2] at HPR HQL
    obtain ⟨J2, hJ2⟩ : ∃ J, J = scanDown (fun x => ltInt P x) dk I2 j0 := ⟨_, rfl⟩
    rw [← hJ2] at HPR HQL
    have HI2 : Hid (scanUp (fun x => !ltInt P x) dk j0 i0 = I2) := hI2.symm
    have HJ2 : Hid (scanDown (fun x => ltInt P x) dk I2 j0 = J2) := hJ2.symm
    obtain ⟨hlt1, hlt2, hlt3, hlt4, hlt5⟩ := HPR
    clear hI2 hJ2 hP HLk
    go_wp2_with fail
    go_loopw [9] (fun vv wr => ∃ i : Nat, vv = .int .i64 (i : Nat) ∧ i0 ≤ i ∧ i ≤ j0 + 1 ∧ Hid (SoG w blk off dk wr) ∧ Hid (scanUp (fun x => !ltInt P x) dk j0 i = I2)) (fun vv _ => j0 + 1 - (RowKit.intOf vv).toNat)
    case atStart => exact ⟨i0, by first | rfl | go_num, by omega, by omega, HGk.out, HI2.out⟩
    case round =>
      obtain ⟨i, rfl, hv1, hv2, HGi, HSi⟩ := hrel
      go_upto_region 3 with fail
      go_cut [43] from 29 to 43 (fun c wx => ∃ β : Bool, c = .bool β ∧ Hid (β = (decide (i ≤ j0) && !ltInt P dk[i]!)) ∧ Hid (SoG w blk off dk wx))
      case first =>
        by_cases hle : i ≤ j0
        · have e1 : decide ((i : Int) ≤ (j0 : Int)) = true := decide_eq_true (by omega)
          have e1' : decide (i ≤ j0) = true := decide_eq_true hle
          obtain ⟨c0, f0⟩ := HGi.out.cell HH.out (HZk.out.trans HN.out) (j := i) (by have := HN.out; omega)
          obtain ⟨c1, f1⟩ := HGi.out.cell HH.out (HZk.out.trans HN.out) (j := a) (by have := HN.out; omega)
          rw [← HP.out] at c1
          obtain ⟨x, hx⟩ : ∃ x, x = dk[i]! := ⟨_, rfl⟩
          rw [← hx] at c0
          obtain ⟨q, hq⟩ : ∃ q, q = ltInt P x := ⟨_, rfl⟩
          have LXY : Hid (∀ w1, Calls Try.prog 66 #[.int .u32 P, .int .u32 x] w1 fun e w' => e = .returned (.bool q) ∧ w' = w1) := fun w1 => by rw [hq]; exact LS.out _ _ w1
          have HQ : Hid ((!q) = (decide (i ≤ j0) && !ltInt P dk[i]!)) := by unfold Hid; rw [e1', hq, hx]; simp
          have hvN : (i : Int) < (N : Int) := by omega
          have haN : (a : Int) < (N : Int) := by omega
          clear hx hq HSi
          go_wp2_with fail
          go_quiet (first | (go_at_call 66; exact Calls.quiet_of_same (LXY.out _)))
          go_wp2_with fail
          go_meet
          exact ⟨_, rfl, HQ.out, HGi.out.drewN _⟩
        · have e1 : decide ((i : Int) ≤ (j0 : Int)) = false := decide_eq_false (by omega)
          have e1' : decide (i ≤ j0) = false := decide_eq_false hle
          have HQ : Hid (false = (decide (i ≤ j0) && !ltInt P dk[i]!)) := by unfold Hid; rw [e1']; simp
          clear HSi
          go_wp2_with fail
          go_quiet (fail)
          go_wp2_with fail
          go_meet
          exact ⟨_, rfl, HQ.out, HGi.out.drewN _⟩
      case rest =>
        obtain ⟨β, rfl, HB, HGx⟩ := hcut
        cases β with
        | true =>
          have hb := HB.out.symm
          rw [Bool.and_eq_true, decide_eq_true_eq] at hb
          have hle := hb.1
          have HS2 : Hid (scanUp (fun x => !ltInt P x) dk j0 (i + 1) = I2) := by
            unfold Hid; rw [← HSi.out]; conv => rhs; unfold scanUp
            rw [if_pos (by rw [Bool.and_eq_true, decide_eq_true_eq]; exact hb)]
          clear hb HB HSi
          go_wp2_with fail
          go_roundw
          case rel => exact ⟨i + 1, by go_num, by omega, by omega, HGx.out, HS2.out⟩
          case measure => simp [RowKit.intOf]; omega
        | false =>
          have he : I2 = i := by
            have hb := HB.out.symm
            rw [← HSi.out]; conv => lhs; unfold scanUp
            rw [if_neg (by rw [hb]; simp)]
          replace he := he.symm
          subst he
          clear HB HSi hv1 hv2
          have HGu := HGx
          clear HGi HGx
          go_wp2_with fail
          go_loopw [10] (fun vv wr => ∃ j : Nat, vv = .int .i64 (j : Nat) ∧ j ≤ j0 ∧ i ≤ j + 1 ∧ Hid (SoG w blk off dk wr) ∧ Hid (scanDown (fun x => ltInt P x) dk i j = J2)) (fun vv _ => (RowKit.intOf vv).toNat)
          case atStart => exact ⟨j0, by first | rfl | go_num, by omega, by omega, HGu.out, HJ2.out⟩
          case round =>
            obtain ⟨j, rfl, hv1, hv2, HGi, HSi⟩ := hrel
            go_upto_region 5 with fail
            go_cut [59] from 46 to 59 (fun c wx => ∃ β : Bool, c = .bool β ∧ Hid (β = (decide (i ≤ j) && ltInt P dk[j]!)) ∧ Hid (SoG w blk off dk wx))
            case first =>
              by_cases hle : i ≤ j
              · have e1 : decide ((i : Int) ≤ (j : Int)) = true := decide_eq_true (by omega)
                have e1' : decide (i ≤ j) = true := decide_eq_true hle
                obtain ⟨c0, f0⟩ := HGi.out.cell HH.out (HZk.out.trans HN.out) (j := j) (by have := HN.out; omega)
                obtain ⟨c1, f1⟩ := HGi.out.cell HH.out (HZk.out.trans HN.out) (j := a) (by have := HN.out; omega)
                rw [← HP.out] at c1
                obtain ⟨x, hx⟩ : ∃ x, x = dk[j]! := ⟨_, rfl⟩
                rw [← hx] at c0
                obtain ⟨q, hq⟩ : ∃ q, q = ltInt P x := ⟨_, rfl⟩
                have LXY : Hid (∀ w1, Calls Try.prog 66 #[.int .u32 P, .int .u32 x] w1 fun e w' => e = .returned (.bool q) ∧ w' = w1) := fun w1 => by rw [hq]; exact LS.out _ _ w1
                have HQ : Hid (q = (decide (i ≤ j) && ltInt P dk[j]!)) := by unfold Hid; rw [e1', hq, hx]; simp
                have hvN : (j : Int) < (N : Int) := by omega
                have haN : (a : Int) < (N : Int) := by omega
                clear hx hq HSi
                go_wp2_with fail
                go_quiet (first | (go_at_call 66; exact Calls.quiet_of_same (LXY.out _)))
                go_wp2_with fail
                go_meet
                exact ⟨_, rfl, HQ.out, HGi.out.drewN _⟩
              · have e1 : decide ((i : Int) ≤ (j : Int)) = false := decide_eq_false (by omega)
                have e1' : decide (i ≤ j) = false := decide_eq_false hle
                have HQ : Hid (false = (decide (i ≤ j) && ltInt P dk[j]!)) := by unfold Hid; rw [e1']; simp
                clear HSi
                go_wp2_with fail
                go_quiet (fail)
                go_wp2_with fail
                go_meet
                exact ⟨_, rfl, HQ.out, HGi.out.drewN _⟩
            case rest =>
              obtain ⟨β, rfl, HB, HGx⟩ := hcut
              cases β with
              | true =>
                have hb := HB.out.symm
                rw [Bool.and_eq_true, decide_eq_true_eq] at hb
                have hle := hb.1
                obtain ⟨j', rfl⟩ : ∃ j', j = j' + 1 := ⟨j - 1, by omega⟩
                have HS2 : Hid (scanDown (fun x => ltInt P x) dk i j' = J2) := by
                  unfold Hid; rw [← HSi.out]; conv => rhs; unfold scanDown
                  rw [if_pos (by rw [Bool.and_eq_true, decide_eq_true_eq]; exact hb)]
                clear hb HB HSi
                have hjj : (((j' + 1 : Nat)) : Int) - 1 = (j' : Int) := by omega
                go_wp2_with fail
                go_roundw
                case rel => exact ⟨j', by first | (rw [← hjj]; go_num) | go_num, by omega, by omega, HGx.out, HS2.out⟩
                case measure => simp [RowKit.intOf]; try omega
              | false =>
                have he : J2 = j := by
                  have hb := HB.out.symm
                  rw [← HSi.out]
                  cases j with
                  | zero => rfl
                  | succ j => conv => lhs; unfold scanDown
                              rw [if_neg (by rw [hb]; simp)]
                replace he := he.symm
                subst he
                clear HB HSi hv1 hv2
                have HGd2 := HGx
                clear HGi HGx
                by_cases hgt : i > j
                · have t1 : decide ((i : Int) > (j : Int)) = true := decide_eq_true (by omega)
                  have t1' : decide ((j : Int) < (i : Int)) = true := decide_eq_true (by omega)
                  have t1'' : decide (j < i) = true := decide_eq_true (by omega)
                  have HF : Hid ((Q1, Q2) = (i, dk)) := by unfold Hid; rw [HQL.out, if_pos hgt]
                  clear HQL
                  go_wp2_with fail
                  go_ret
                  have HF1 : Q1 = i := congrArg Prod.fst HF.out
                  have HF2 : Q2 = dk := congrArg Prod.snd HF.out
                  exact ⟨by rw [HF1]; rfl, by rw [HF2]; exact HGd2.out⟩
                · have t1 : decide ((i : Int) > (j : Int)) = false := decide_eq_false (by omega)
                  have t1' : decide ((j : Int) < (i : Int)) = false := decide_eq_false (by omega)
                  have t1'' : decide (j < i) = false := decide_eq_false (by omega)
                  have hltij := hlt5 hgt
                  have HF : Hid (partEqLoop ltInt a (i + 1) (j - 1) (swp dk i j) = (Q1, Q2)) := by unfold Hid; rw [HQL.out, if_neg hgt]
                  clear HQL
                  have hiN : (i : Int) < (N : Int) := by omega
                  have hjN : (j : Int) < (N : Int) := by omega
                  obtain ⟨c0, f0⟩ := HGd2.out.cell HH.out (HZk.out.trans HN.out) (j := i) (by have := HN.out; omega)
                  obtain ⟨c1, f1⟩ := HGd2.out.cell HH.out (HZk.out.trans HN.out) (j := j) (by have := HN.out; omega)
                  obtain ⟨z, cz, fz⟩ := set_cell (HGd2.out.holds HH.out (HZk.out.trans HN.out)) (i := i) (k := j) (by have := HZk.out; omega) (by have := HZk.out; omega) dk[j]!
                  have HS := Lib.hid (HGd2.out.swap HH.out (HZk.out.trans HN.out) (j := i) (k := j) (by have := HZk.out; omega) (by have := HZk.out; omega))
                  have HZ2 : Hid ((swp dk i j).size = N) := by unfold Hid; rw [swp_sz]; exact HZk.out
                  obtain ⟨u, hu⟩ : ∃ x, x = dk[i]! := ⟨_, rfl⟩
                  obtain ⟨v, hv⟩ : ∃ y, y = dk[j]! := ⟨_, rfl⟩
                  rw [← hu, ← hv] at HS
                  rw [← hu] at c0
                  rw [← hv] at c1
                  rw [← hv] at cz fz
                  clear hu hv
                  have hPsw : Hid (P0 = P0) := rfl
                  clear HGd2 hPsw
                  go_wp2_with fail
                  go_region
                  have hj1 : (j : Int) - 1 = ((j - 1 : Nat) : Int) := by omega
                  go_wp2_with fail
                  go_roundw
                  case rel => exact ⟨i + 1, j - 1, swp dk i j, by go_num, by first | (rw [← hj1]; go_num) | go_num, by omega, by omega, by omega, HS.out.drewN _, HZ2.out, HF.out⟩
                  case measure => simp [RowKit.intOf]; omega
set_option maxRecDepth 100000 in
set_option maxHeartbeats 8000000 in
theorem partU_any (blk off cap a b pivot : Nat) (d : Array Int) (w : World) (hH : Holds uE w blk off d) (hap : a ≤ pivot) (hpb : pivot < b) (hb : b ≤ d.size) (hsz : d.size ≤ 4194304) :
    Calls Try.prog 68 #[.slice (some ⟨blk, off, none⟩) d.size cap, .int .i64 (a : Nat), .int .i64 (b : Nat), .int .i64 (pivot : Nat)] w fun e w' =>
      e = .returned (.tuple #[.int .i64 (partition ltInt d a b pivot).1, .bool (partition ltInt d a b pivot).2.1]) ∧ SoG w blk off (partition ltInt d a b pivot).2.2 w' := by
  have HH := Lib.hid hH
  have LS : Hid (∀ x y w1, Calls Try.prog 66 #[.int .u32 x, .int .u32 y] w1 fun e w' => e = .returned (.bool (ltInt x y)) ∧ w' = w1) := lessU_any
  obtain ⟨d1, hd1⟩ : ∃ d1, d1 = swp d a pivot := ⟨_, rfl⟩
  obtain ⟨R1, hR1⟩ : ∃ R, R = (partition ltInt d a b pivot).1 := ⟨_, rfl⟩
  obtain ⟨R2, hR2⟩ : ∃ R, R = (partition ltInt d a b pivot).2.1 := ⟨_, rfl⟩
  obtain ⟨R3, hR3⟩ : ∃ R, R = (partition ltInt d a b pivot).2.2 := ⟨_, rfl⟩
  have HDEF : Hid ((R1, R2, R3) = if scanUp (fun x => ltInt x d1[a]!) d1 (b - 1) (a + 1) > scanDown (fun x => !ltInt x d1[a]!) d1 (scanUp (fun x => ltInt x d1[a]!) d1 (b - 1) (a + 1)) (b - 1)
      then (scanDown (fun x => !ltInt x d1[a]!) d1 (scanUp (fun x => ltInt x d1[a]!) d1 (b - 1) (a + 1)) (b - 1), true, swp d1 (scanDown (fun x => !ltInt x d1[a]!) d1 (scanUp (fun x => ltInt x d1[a]!) d1 (b - 1) (a + 1)) (b - 1)) a)
      else ((partLoop ltInt a (scanUp (fun x => ltInt x d1[a]!) d1 (b - 1) (a + 1) + 1) (scanDown (fun x => !ltInt x d1[a]!) d1 (scanUp (fun x => ltInt x d1[a]!) d1 (b - 1) (a + 1)) (b - 1) - 1) (swp d1 (scanUp (fun x => ltInt x d1[a]!) d1 (b - 1) (a + 1)) (scanDown (fun x => !ltInt x d1[a]!) d1 (scanUp (fun x => ltInt x d1[a]!) d1 (b - 1) (a + 1)) (b - 1)))).1, false,
        swp (partLoop ltInt a (scanUp (fun x => ltInt x d1[a]!) d1 (b - 1) (a + 1) + 1) (scanDown (fun x => !ltInt x d1[a]!) d1 (scanUp (fun x => ltInt x d1[a]!) d1 (b - 1) (a + 1)) (b - 1) - 1) (swp d1 (scanUp (fun x => ltInt x d1[a]!) d1 (b - 1) (a + 1)) (scanDown (fun x => !ltInt x d1[a]!) d1 (scanUp (fun x => ltInt x d1[a]!) d1 (b - 1) (a + 1)) (b - 1)))).2 (partLoop ltInt a (scanUp (fun x => ltInt x d1[a]!) d1 (b - 1) (a + 1) + 1) (scanDown (fun x => !ltInt x d1[a]!) d1 (scanUp (fun x => ltInt x d1[a]!) d1 (b - 1) (a + 1)) (b - 1) - 1) (swp d1 (scanUp (fun x => ltInt x d1[a]!) d1 (b - 1) (a + 1)) (scanDown (fun x => !ltInt x d1[a]!) d1 (scanUp (fun x => ltInt x d1[a]!) d1 (b - 1) (a + 1)) (b - 1)))).1 a)) := by
    unfold Hid; rw [hR1, hR2, hR3, hd1]; rfl
  rw [← hR1, ← hR2, ← hR3]
  clear hR1 hR2 hR3
  obtain ⟨N, hN⟩ : ∃ N, N = d.size := ⟨_, rfl⟩
  have HN := Lib.hid hN
  have hd0 : Hid (d.size = N) := hN.symm
  have HG0 : Hid (SoG w blk off d w) := SoG.self HH.out
  rw [← hN] at hb hsz ⊢
  clear hH hN
  obtain ⟨B, hB⟩ : ∃ B, B = b - 1 := ⟨_, rfl⟩
  have hBi : (b : Int) - 1 = (B : Int) := by omega
  have hBb : B < b := by omega
  have haB : a ≤ B := by omega
  rw [← hB] at HDEF
  clear hB
  go_enter Try.func68, Try.ntmps68
  go_upto_region 1 with fail
  have hiN : (a : Int) < (N : Int) := by omega
  have hjN : (pivot : Int) < (N : Int) := by omega
  obtain ⟨c0, f0⟩ := HG0.out.cell HH.out (hd0.out.trans HN.out) (j := a) (by have := HN.out; omega)
  obtain ⟨c1, f1⟩ := HG0.out.cell HH.out (hd0.out.trans HN.out) (j := pivot) (by have := HN.out; omega)
  obtain ⟨z, cz, fz⟩ := set_cell (HG0.out.holds HH.out (hd0.out.trans HN.out)) (i := a) (k := pivot) (by have := hd0.out; omega) (by have := hd0.out; omega) d[pivot]!
  have HS := Lib.hid (HG0.out.swap HH.out (hd0.out.trans HN.out) (j := a) (k := pivot) (by have := hd0.out; omega) (by have := hd0.out; omega))
  have HZ1 : Hid ((swp d a pivot).size = N) := by unfold Hid; rw [swp_sz]; exact hd0.out
  obtain ⟨u, hu⟩ : ∃ x, x = d[a]! := ⟨_, rfl⟩
  obtain ⟨v, hv⟩ : ∃ y, y = d[pivot]! := ⟨_, rfl⟩
  rw [← hu, ← hv] at HS
  rw [← hu] at c0
  rw [← hv] at c1
  rw [← hv] at cz fz
  clear hu hv
  rw [← hd1] at HS HZ1
  clear hd1 HG0 hd0
  go_region
  have HG1 : Hid (SoG w blk off d1 (((w.setCell ⟨blk, off + a, none⟩ (.int .u32 v)).setCell ⟨blk, off + pivot, none⟩ (.int .u32 u)).drew)) := HS.out.drewN 1
  obtain ⟨w1, hw1⟩ : ∃ w1, w1 = (((w.setCell ⟨blk, off + a, none⟩ (.int .u32 v)).setCell ⟨blk, off + pivot, none⟩ (.int .u32 u)).drew) := ⟨_, rfl⟩
  rw [← hw1] at HG1 ⊢
  clear hw1 HS c0 c1 f0 f1 cz fz hiN hjN
  obtain ⟨P, hP⟩ : ∃ P, P = d1[a]! := ⟨_, rfl⟩
  have HP := Lib.hid hP
  rw [← hP] at HDEF
  have HPR := scan_pair (fun x => ltInt x P) (fun x => !ltInt x P) (by intro x; simp) d1 (a + 1) B (by omega) (by omega)
  obtain ⟨I2, hI2⟩ : ∃ I, I = scanUp (fun x => ltInt x P) d1 B (a + 1) := ⟨_, rfl⟩
  rw [← hI2] at HPR HDEF
  obtain ⟨J2, hJ2⟩ : ∃ J, J = scanDown (fun x => !ltInt x P) d1 I2 B := ⟨_, rfl⟩
  rw [← hJ2] at HPR HDEF
  have HI2 : Hid (scanUp (fun x => ltInt x P) d1 B (a + 1) = I2) := hI2.symm
  have HJ2 : Hid (scanDown (fun x => !ltInt x P) d1 I2 B = J2) := hJ2.symm
  obtain ⟨hlt1, hlt2, hlt3, hlt4, hlt5⟩ := HPR
  clear hI2 hJ2 hP
  go_wp2_with fail
  go_loopw [10] (fun vv wr => ∃ i : Nat, vv = .int .i64 (i : Nat) ∧ (a + 1) ≤ i ∧ i ≤ B + 1 ∧ Hid (SoG w blk off d1 wr) ∧ Hid (scanUp (fun x => ltInt x P) d1 B i = I2)) (fun vv _ => B + 1 - (RowKit.intOf vv).toNat)
  case atStart => exact ⟨(a + 1), by first | rfl | go_num, by omega, by omega, HG1.out, HI2.out⟩
  case round =>
    obtain ⟨i, rfl, hv1, hv2, HGi, HSi⟩ := hrel
    go_upto_region 3 with fail
    go_cut [43] from 30 to 43 (fun c wx => ∃ β : Bool, c = .bool β ∧ Hid (β = (decide (i ≤ B) && ltInt d1[i]! P)) ∧ Hid (SoG w blk off d1 wx))
    case first =>
      by_cases hle : i ≤ B
      · have e1 : decide ((i : Int) ≤ (B : Int)) = true := decide_eq_true (by omega)
        have e1' : decide (i ≤ B) = true := decide_eq_true hle
        obtain ⟨c0, f0⟩ := HGi.out.cell HH.out (HZ1.out.trans HN.out) (j := i) (by have := HN.out; omega)
        obtain ⟨c1, f1⟩ := HGi.out.cell HH.out (HZ1.out.trans HN.out) (j := a) (by have := HN.out; omega)
        rw [← HP.out] at c1
        obtain ⟨x, hx⟩ : ∃ x, x = d1[i]! := ⟨_, rfl⟩
        rw [← hx] at c0
        obtain ⟨q, hq⟩ : ∃ q, q = ltInt x P := ⟨_, rfl⟩
        have LXY : Hid (∀ w1, Calls Try.prog 66 #[.int .u32 x, .int .u32 P] w1 fun e w' => e = .returned (.bool q) ∧ w' = w1) := fun w1 => by rw [hq]; exact LS.out _ _ w1
        have HQ : Hid (q = (decide (i ≤ B) && ltInt d1[i]! P)) := by unfold Hid; rw [e1', hq, hx]; simp
        have hvN : (i : Int) < (N : Int) := by omega
        have haN : (a : Int) < (N : Int) := by omega
        clear hx hq HSi
        go_wp2_with fail
        go_quiet (first | (go_at_call 66; exact Calls.quiet_of_same (LXY.out _)))
        go_wp2_with fail
        go_meet
        exact ⟨_, rfl, HQ.out, HGi.out.drewN _⟩
      · have e1 : decide ((i : Int) ≤ (B : Int)) = false := decide_eq_false (by omega)
        have e1' : decide (i ≤ B) = false := decide_eq_false hle
        have HQ : Hid (false = (decide (i ≤ B) && ltInt d1[i]! P)) := by unfold Hid; rw [e1']; simp
        clear HSi
        go_wp2_with fail
        go_quiet (fail)
        go_wp2_with fail
        go_meet
        exact ⟨_, rfl, HQ.out, HGi.out.drewN _⟩
    case rest =>
      obtain ⟨β, rfl, HB, HGx⟩ := hcut
      cases β with
      | true =>
        have hb := HB.out.symm
        rw [Bool.and_eq_true, decide_eq_true_eq] at hb
        have hle := hb.1
        have HS2 : Hid (scanUp (fun x => ltInt x P) d1 B (i + 1) = I2) := by
          unfold Hid; rw [← HSi.out]; conv => rhs; unfold scanUp
          rw [if_pos (by rw [Bool.and_eq_true, decide_eq_true_eq]; exact hb)]
        clear hb HB HSi
        go_wp2_with fail
        go_roundw
        case rel => exact ⟨i + 1, by go_num, by omega, by omega, HGx.out, HS2.out⟩
        case measure => simp [RowKit.intOf]; omega
      | false =>
        have he : I2 = i := by
          have hb := HB.out.symm
          rw [← HSi.out]; conv => lhs; unfold scanUp
          rw [if_neg (by rw [hb]; simp)]
        replace he := he.symm
        subst he
        clear HB HSi hv1 hv2
        have HGu := HGx
        clear HGi HGx
        go_wp2_with fail
        go_loopw [11] (fun vv wr => ∃ j : Nat, vv = .int .i64 (j : Nat) ∧ j ≤ B ∧ i ≤ j + 1 ∧ Hid (SoG w blk off d1 wr) ∧ Hid (scanDown (fun x => !ltInt x P) d1 i j = J2)) (fun vv _ => (RowKit.intOf vv).toNat)
        case atStart => exact ⟨B, by first | rfl | go_num, by omega, by omega, HGu.out, HJ2.out⟩
        case round =>
          obtain ⟨j, rfl, hv1, hv2, HGi, HSi⟩ := hrel
          go_upto_region 5 with fail
          go_cut [60] from 46 to 60 (fun c wx => ∃ β : Bool, c = .bool β ∧ Hid (β = (decide (i ≤ j) && !ltInt d1[j]! P)) ∧ Hid (SoG w blk off d1 wx))
          case first =>
            by_cases hle : i ≤ j
            · have e1 : decide ((i : Int) ≤ (j : Int)) = true := decide_eq_true (by omega)
              have e1' : decide (i ≤ j) = true := decide_eq_true hle
              obtain ⟨c0, f0⟩ := HGi.out.cell HH.out (HZ1.out.trans HN.out) (j := j) (by have := HN.out; omega)
              obtain ⟨c1, f1⟩ := HGi.out.cell HH.out (HZ1.out.trans HN.out) (j := a) (by have := HN.out; omega)
              rw [← HP.out] at c1
              obtain ⟨x, hx⟩ : ∃ x, x = d1[j]! := ⟨_, rfl⟩
              rw [← hx] at c0
              obtain ⟨q, hq⟩ : ∃ q, q = ltInt x P := ⟨_, rfl⟩
              have LXY : Hid (∀ w1, Calls Try.prog 66 #[.int .u32 x, .int .u32 P] w1 fun e w' => e = .returned (.bool q) ∧ w' = w1) := fun w1 => by rw [hq]; exact LS.out _ _ w1
              have HQ : Hid ((!q) = (decide (i ≤ j) && !ltInt d1[j]! P)) := by unfold Hid; rw [e1', hq, hx]; simp
              have hvN : (j : Int) < (N : Int) := by omega
              have haN : (a : Int) < (N : Int) := by omega
              clear hx hq HSi
              go_wp2_with fail
              go_quiet (first | (go_at_call 66; exact Calls.quiet_of_same (LXY.out _)))
              go_wp2_with fail
              go_meet
              exact ⟨_, rfl, HQ.out, HGi.out.drewN _⟩
            · have e1 : decide ((i : Int) ≤ (j : Int)) = false := decide_eq_false (by omega)
              have e1' : decide (i ≤ j) = false := decide_eq_false hle
              have HQ : Hid (false = (decide (i ≤ j) && !ltInt d1[j]! P)) := by unfold Hid; rw [e1']; simp
              clear HSi
              go_wp2_with fail
              go_quiet (fail)
              go_wp2_with fail
              go_meet
              exact ⟨_, rfl, HQ.out, HGi.out.drewN _⟩
          case rest =>
            obtain ⟨β, rfl, HB, HGx⟩ := hcut
            cases β with
            | true =>
              have hb := HB.out.symm
              rw [Bool.and_eq_true, decide_eq_true_eq] at hb
              have hle := hb.1
              obtain ⟨j', rfl⟩ : ∃ j', j = j' + 1 := ⟨j - 1, by omega⟩
              have HS2 : Hid (scanDown (fun x => !ltInt x P) d1 i j' = J2) := by
                unfold Hid; rw [← HSi.out]; conv => rhs; unfold scanDown
                rw [if_pos (by rw [Bool.and_eq_true, decide_eq_true_eq]; exact hb)]
              clear hb HB HSi
              have hjj : (((j' + 1 : Nat)) : Int) - 1 = (j' : Int) := by omega
              go_wp2_with fail
              go_roundw
              case rel => exact ⟨j', by first | (rw [← hjj]; go_num) | go_num, by omega, by omega, HGx.out, HS2.out⟩
              case measure => simp [RowKit.intOf]; try omega
            | false =>
              have he : J2 = j := by
                have hb := HB.out.symm
                rw [← HSi.out]
                cases j with
                | zero => rfl
                | succ j => conv => lhs; unfold scanDown
                            rw [if_neg (by rw [hb]; simp)]
              replace he := he.symm
              subst he
              clear HB HSi hv1 hv2
              have HGd2 := HGx
              clear HGi HGx
              by_cases hgt : i > j
              · have t1 : decide ((i : Int) > (j : Int)) = true := decide_eq_true (by omega)
                have t1' : decide ((j : Int) < (i : Int)) = true := decide_eq_true (by omega)
                have t1'' : decide (j < i) = true := decide_eq_true (by omega)
                have HF : Hid ((R1, R2, R3) = (j, true, swp d1 j a)) := by unfold Hid; rw [HDEF.out, if_pos hgt]
                clear HDEF
                have hiN : (j : Int) < (N : Int) := by omega
                have hjN : (a : Int) < (N : Int) := by omega
                obtain ⟨c0, f0⟩ := HGd2.out.cell HH.out (HZ1.out.trans HN.out) (j := j) (by have := HN.out; omega)
                obtain ⟨c1, f1⟩ := HGd2.out.cell HH.out (HZ1.out.trans HN.out) (j := a) (by have := HN.out; omega)
                obtain ⟨z, cz, fz⟩ := set_cell (HGd2.out.holds HH.out (HZ1.out.trans HN.out)) (i := j) (k := a) (by have := HZ1.out; omega) (by have := HZ1.out; omega) d1[a]!
                have HS := Lib.hid (HGd2.out.swap HH.out (HZ1.out.trans HN.out) (j := j) (k := a) (by have := HZ1.out; omega) (by have := HZ1.out; omega))
                have HZ4 : Hid ((swp d1 j a).size = N) := by unfold Hid; rw [swp_sz]; exact HZ1.out
                obtain ⟨u, hu⟩ : ∃ x, x = d1[j]! := ⟨_, rfl⟩
                obtain ⟨v, hv⟩ : ∃ y, y = d1[a]! := ⟨_, rfl⟩
                rw [← hu, ← hv] at HS
                rw [← hu] at c0
                rw [← hv] at c1
                rw [← hv] at cz fz
                clear hu hv
                go_wp2_with fail
                go_region
                go_wp2_with fail
                go_ret2
                have E1 : R1 = j := congrArg Prod.fst HF.out
                have E2 : R2 = true := congrArg (fun z => z.2.1) HF.out
                have E3 : R3 = swp d1 j a := congrArg (fun z => z.2.2) HF.out
                exact ⟨by rw [E1, E2]; rfl, by rw [E3]; exact HS.out.drewN _⟩
              · have t1 : decide ((i : Int) > (j : Int)) = false := decide_eq_false (by omega)
                have t1' : decide ((j : Int) < (i : Int)) = false := decide_eq_false (by omega)
                have t1'' : decide (j < i) = false := decide_eq_false (by omega)
                have hltij := hlt5 hgt
                obtain ⟨Q1, hQ1⟩ : ∃ Q, Q = (partLoop ltInt a (i + 1) (j - 1) (swp d1 i j)).1 := ⟨_, rfl⟩
                obtain ⟨Q2, hQ2⟩ : ∃ Q, Q = (partLoop ltInt a (i + 1) (j - 1) (swp d1 i j)).2 := ⟨_, rfl⟩
                have HQQ : Hid (partLoop ltInt a (i + 1) (j - 1) (swp d1 i j) = (Q1, Q2)) := by unfold Hid; rw [hQ1, hQ2]
                have HD3 : Hid ((R1, R2, R3) = (Q1, false, swp Q2 Q1 a)) := by unfold Hid; rw [HDEF.out, if_neg hgt, HQQ.out]
                clear HDEF hQ1 hQ2
                have hiN : (i : Int) < (N : Int) := by omega
                have hjN : (j : Int) < (N : Int) := by omega
                obtain ⟨c0, f0⟩ := HGd2.out.cell HH.out (HZ1.out.trans HN.out) (j := i) (by have := HN.out; omega)
                obtain ⟨c1, f1⟩ := HGd2.out.cell HH.out (HZ1.out.trans HN.out) (j := j) (by have := HN.out; omega)
                obtain ⟨z, cz, fz⟩ := set_cell (HGd2.out.holds HH.out (HZ1.out.trans HN.out)) (i := i) (k := j) (by have := HZ1.out; omega) (by have := HZ1.out; omega) d1[j]!
                have HS := Lib.hid (HGd2.out.swap HH.out (HZ1.out.trans HN.out) (j := i) (k := j) (by have := HZ1.out; omega) (by have := HZ1.out; omega))
                have HZ5 : Hid ((swp d1 i j).size = N) := by unfold Hid; rw [swp_sz]; exact HZ1.out
                obtain ⟨u, hu⟩ : ∃ x, x = d1[i]! := ⟨_, rfl⟩
                obtain ⟨v, hv⟩ : ∃ y, y = d1[j]! := ⟨_, rfl⟩
                rw [← hu, ← hv] at HS
                rw [← hu] at c0
                rw [← hv] at c1
                rw [← hv] at cz fz
                clear hu hv
                clear HGd2
                have P0 : Nat := 0
                go_wp2_with fail
                go_region
                have hj1 : (j : Int) - 1 = ((j - 1 : Nat) : Int) := by omega
                go_wp2_with fail
                have k1 : a < i := by omega
                have k2 : j < b := by omega
                clear HP t1 t1' t1'' c0 c1 f0 f1 cz fz hiN hjN hlt1 hlt2 hlt3 hlt4 hlt5 hgt
                go_loopw [10, 11] (fun vi vj wr => ∃ (i0 j0 : Nat) (dk : Array Int), vi = .int .i64 (i0 : Nat) ∧ vj = .int .i64 (j0 : Nat) ∧ a < i0 ∧ i0 ≤ j0 + 1 ∧ j0 < b ∧ Hid (SoG w blk off dk wr) ∧ Hid (dk.size = N) ∧ Hid (partLoop ltInt a i0 j0 dk = (Q1, Q2))) (fun vi vj _ => (RowKit.intOf vj).toNat + 1 - (RowKit.intOf vi).toNat)
                case atStart => exact ⟨i + 1, j - 1, swp d1 i j, by first | rfl | go_num, by first | rfl | go_num, by omega, by omega, by omega, HS.out.drewN _, HZ5.out, HQQ.out⟩
                case round =>
                  obtain ⟨i0, j0, dk, rfl, rfl, ha0, hij0, hj0b, HGk, HZk, HLk⟩ := hrel
                  obtain ⟨P, hP⟩ : ∃ P, P = dk[a]! := ⟨_, rfl⟩
                  have HP := Lib.hid hP
                  have HPR := scan_pair (fun x => ltInt x P) (fun x => !ltInt x P) (by intro x; simp) dk i0 j0 (by omega) (by omega)
                  have HQL : Hid ((Q1, Q2) = _) := HLk.out.symm.trans (partLoop_eq ltInt a i0 j0 dk)
                  rw [← hP] at HQL
                  obtain ⟨I2, hI2⟩ : ∃ I, I = scanUp (fun x => ltInt x P) dk j0 i0 := ⟨_, rfl⟩
                  rw [← hI2] at HPR HQL
                  obtain ⟨J2, hJ2⟩ : ∃ J, J = scanDown (fun x => !ltInt x P) dk I2 j0 := ⟨_, rfl⟩
                  rw [← hJ2] at HPR HQL
                  have HI2 : Hid (scanUp (fun x => ltInt x P) dk j0 i0 = I2) := hI2.symm
                  have HJ2 : Hid (scanDown (fun x => !ltInt x P) dk I2 j0 = J2) := hJ2.symm
                  obtain ⟨hlt1, hlt2, hlt3, hlt4, hlt5⟩ := HPR
                  clear hI2 hJ2 hP HLk
                  go_wp2_with fail
                  go_loopw [10] (fun vv wr => ∃ i : Nat, vv = .int .i64 (i : Nat) ∧ i0 ≤ i ∧ i ≤ j0 + 1 ∧ Hid (SoG w blk off dk wr) ∧ Hid (scanUp (fun x => ltInt x P) dk j0 i = I2)) (fun vv _ => j0 + 1 - (RowKit.intOf vv).toNat)
                  case atStart => exact ⟨i0, by first | rfl | go_num, by omega, by omega, HGk.out, HI2.out⟩
                  case round =>
                    obtain ⟨i, rfl, hv1, hv2, HGi, HSi⟩ := hrel
                    go_upto_region 13 with fail
                    go_cut [112] from 99 to 112 (fun c wx => ∃ β : Bool, c = .bool β ∧ Hid (β = (decide (i ≤ j0) && ltInt dk[i]! P)) ∧ Hid (SoG w blk off dk wx))
                    case first =>
                      by_cases hle : i ≤ j0
                      · have e1 : decide ((i : Int) ≤ (j0 : Int)) = true := decide_eq_true (by omega)
                        have e1' : decide (i ≤ j0) = true := decide_eq_true hle
                        obtain ⟨c0, f0⟩ := HGi.out.cell HH.out (HZk.out.trans HN.out) (j := i) (by have := HN.out; omega)
                        obtain ⟨c1, f1⟩ := HGi.out.cell HH.out (HZk.out.trans HN.out) (j := a) (by have := HN.out; omega)
                        rw [← HP.out] at c1
                        obtain ⟨x, hx⟩ : ∃ x, x = dk[i]! := ⟨_, rfl⟩
                        rw [← hx] at c0
                        obtain ⟨q, hq⟩ : ∃ q, q = ltInt x P := ⟨_, rfl⟩
                        have LXY : Hid (∀ w1, Calls Try.prog 66 #[.int .u32 x, .int .u32 P] w1 fun e w' => e = .returned (.bool q) ∧ w' = w1) := fun w1 => by rw [hq]; exact LS.out _ _ w1
                        have HQ : Hid (q = (decide (i ≤ j0) && ltInt dk[i]! P)) := by unfold Hid; rw [e1', hq, hx]; simp
                        have hvN : (i : Int) < (N : Int) := by omega
                        have haN : (a : Int) < (N : Int) := by omega
                        clear hx hq HSi
                        go_wp2_with fail
                        go_quiet (first | (go_at_call 66; exact Calls.quiet_of_same (LXY.out _)))
                        go_wp2_with fail
                        go_meet
                        exact ⟨_, rfl, HQ.out, HGi.out.drewN _⟩
                      · have e1 : decide ((i : Int) ≤ (j0 : Int)) = false := decide_eq_false (by omega)
                        have e1' : decide (i ≤ j0) = false := decide_eq_false hle
                        have HQ : Hid (false = (decide (i ≤ j0) && ltInt dk[i]! P)) := by unfold Hid; rw [e1']; simp
                        clear HSi
                        go_wp2_with fail
                        go_quiet (fail)
                        go_wp2_with fail
                        go_meet
                        exact ⟨_, rfl, HQ.out, HGi.out.drewN _⟩
                    case rest =>
                      obtain ⟨β, rfl, HB, HGx⟩ := hcut
                      cases β with
                      | true =>
                        have hb := HB.out.symm
                        rw [Bool.and_eq_true, decide_eq_true_eq] at hb
                        have hle := hb.1
                        have HS2 : Hid (scanUp (fun x => ltInt x P) dk j0 (i + 1) = I2) := by
                          unfold Hid; rw [← HSi.out]; conv => rhs; unfold scanUp
                          rw [if_pos (by rw [Bool.and_eq_true, decide_eq_true_eq]; exact hb)]
                        clear hb HB HSi
                        go_wp2_with fail
                        go_roundw
                        case rel => exact ⟨i + 1, by go_num, by omega, by omega, HGx.out, HS2.out⟩
                        case measure => simp [RowKit.intOf]; omega
                      | false =>
                        have he : I2 = i := by
                          have hb := HB.out.symm
                          rw [← HSi.out]; conv => lhs; unfold scanUp
                          rw [if_neg (by rw [hb]; simp)]
                        replace he := he.symm
                        subst he
                        clear HB HSi hv1 hv2
                        have HGu := HGx
                        clear HGi HGx
                        go_wp2_with fail
                        go_loopw [11] (fun vv wr => ∃ j : Nat, vv = .int .i64 (j : Nat) ∧ j ≤ j0 ∧ i ≤ j + 1 ∧ Hid (SoG w blk off dk wr) ∧ Hid (scanDown (fun x => !ltInt x P) dk i j = J2)) (fun vv _ => (RowKit.intOf vv).toNat)
                        case atStart => exact ⟨j0, by first | rfl | go_num, by omega, by omega, HGu.out, HJ2.out⟩
                        case round =>
                          obtain ⟨j, rfl, hv1, hv2, HGi, HSi⟩ := hrel
                          go_upto_region 15 with fail
                          go_cut [129] from 115 to 129 (fun c wx => ∃ β : Bool, c = .bool β ∧ Hid (β = (decide (i ≤ j) && !ltInt dk[j]! P)) ∧ Hid (SoG w blk off dk wx))
                          case first =>
                            by_cases hle : i ≤ j
                            · have e1 : decide ((i : Int) ≤ (j : Int)) = true := decide_eq_true (by omega)
                              have e1' : decide (i ≤ j) = true := decide_eq_true hle
                              obtain ⟨c0, f0⟩ := HGi.out.cell HH.out (HZk.out.trans HN.out) (j := j) (by have := HN.out; omega)
                              obtain ⟨c1, f1⟩ := HGi.out.cell HH.out (HZk.out.trans HN.out) (j := a) (by have := HN.out; omega)
                              rw [← HP.out] at c1
                              obtain ⟨x, hx⟩ : ∃ x, x = dk[j]! := ⟨_, rfl⟩
                              rw [← hx] at c0
                              obtain ⟨q, hq⟩ : ∃ q, q = ltInt x P := ⟨_, rfl⟩
                              have LXY : Hid (∀ w1, Calls Try.prog 66 #[.int .u32 x, .int .u32 P] w1 fun e w' => e = .returned (.bool q) ∧ w' = w1) := fun w1 => by rw [hq]; exact LS.out _ _ w1
                              have HQ : Hid ((!q) = (decide (i ≤ j) && !ltInt dk[j]! P)) := by unfold Hid; rw [e1', hq, hx]; simp
                              have hvN : (j : Int) < (N : Int) := by omega
                              have haN : (a : Int) < (N : Int) := by omega
                              clear hx hq HSi
                              go_wp2_with fail
                              go_quiet (first | (go_at_call 66; exact Calls.quiet_of_same (LXY.out _)))
                              go_wp2_with fail
                              go_meet
                              exact ⟨_, rfl, HQ.out, HGi.out.drewN _⟩
                            · have e1 : decide ((i : Int) ≤ (j : Int)) = false := decide_eq_false (by omega)
                              have e1' : decide (i ≤ j) = false := decide_eq_false hle
                              have HQ : Hid (false = (decide (i ≤ j) && !ltInt dk[j]! P)) := by unfold Hid; rw [e1']; simp
                              clear HSi
                              go_wp2_with fail
                              go_quiet (fail)
                              go_wp2_with fail
                              go_meet
                              exact ⟨_, rfl, HQ.out, HGi.out.drewN _⟩
                          case rest =>
                            obtain ⟨β, rfl, HB, HGx⟩ := hcut
                            cases β with
                            | true =>
                              have hb := HB.out.symm
                              rw [Bool.and_eq_true, decide_eq_true_eq] at hb
                              have hle := hb.1
                              obtain ⟨j', rfl⟩ : ∃ j', j = j' + 1 := ⟨j - 1, by omega⟩
                              have HS2 : Hid (scanDown (fun x => !ltInt x P) dk i j' = J2) := by
                                unfold Hid; rw [← HSi.out]; conv => rhs; unfold scanDown
                                rw [if_pos (by rw [Bool.and_eq_true, decide_eq_true_eq]; exact hb)]
                              clear hb HB HSi
                              have hjj : (((j' + 1 : Nat)) : Int) - 1 = (j' : Int) := by omega
                              go_wp2_with fail
                              go_roundw
                              case rel => exact ⟨j', by first | (rw [← hjj]; go_num) | go_num, by omega, by omega, HGx.out, HS2.out⟩
                              case measure => simp [RowKit.intOf]; try omega
                            | false =>
                              have he : J2 = j := by
                                have hb := HB.out.symm
                                rw [← HSi.out]
                                cases j with
                                | zero => rfl
                                | succ j => conv => lhs; unfold scanDown
                                            rw [if_neg (by rw [hb]; simp)]
                              replace he := he.symm
                              subst he
                              clear HB HSi hv1 hv2
                              have HGd2 := HGx
                              clear HGi HGx
                              by_cases hgt : i > j
                              · have t1 : decide ((i : Int) > (j : Int)) = true := decide_eq_true (by omega)
                                have t1' : decide ((j : Int) < (i : Int)) = true := decide_eq_true (by omega)
                                have t1'' : decide (j < i) = true := decide_eq_true (by omega)
                                have HF : Hid ((Q1, Q2) = (j, dk)) := by unfold Hid; rw [HQL.out, if_pos hgt]
                                clear HQL
                                go_wp2_with fail
                                have HF1 : Q1 = j := congrArg Prod.fst HF.out
                                have HF2 : Q2 = dk := congrArg Prod.snd HF.out
                                subst HF1
                                subst HF2
                                have hiN : (Q1 : Int) < (N : Int) := by omega
                                have hjN : (a : Int) < (N : Int) := by omega
                                obtain ⟨c0, f0⟩ := HGd2.out.cell HH.out (HZk.out.trans HN.out) (j := Q1) (by have := HN.out; omega)
                                obtain ⟨c1, f1⟩ := HGd2.out.cell HH.out (HZk.out.trans HN.out) (j := a) (by have := HN.out; omega)
                                obtain ⟨z, cz, fz⟩ := set_cell (HGd2.out.holds HH.out (HZk.out.trans HN.out)) (i := Q1) (k := a) (by have := HZk.out; omega) (by have := HZk.out; omega) Q2[a]!
                                have HS := Lib.hid (HGd2.out.swap HH.out (HZk.out.trans HN.out) (j := Q1) (k := a) (by have := HZk.out; omega) (by have := HZk.out; omega))
                                have HZ3 : Hid ((swp Q2 Q1 a).size = N) := by unfold Hid; rw [swp_sz]; exact HZk.out
                                obtain ⟨u, hu⟩ : ∃ x, x = Q2[Q1]! := ⟨_, rfl⟩
                                obtain ⟨v, hv⟩ : ∃ y, y = Q2[a]! := ⟨_, rfl⟩
                                rw [← hu, ← hv] at HS
                                rw [← hu] at c0
                                rw [← hv] at c1
                                rw [← hv] at cz fz
                                clear hu hv
                                go_region
                                go_wp2_with fail
                                go_ret2
                                have E1 : R1 = Q1 := congrArg Prod.fst HD3.out
                                have E2 : R2 = false := congrArg (fun z => z.2.1) HD3.out
                                have E3 : R3 = swp Q2 Q1 a := congrArg (fun z => z.2.2) HD3.out
                                exact ⟨by rw [E1, E2]; rfl, by rw [E3]; exact HS.out.drewN _⟩
                              · have t1 : decide ((i : Int) > (j : Int)) = false := decide_eq_false (by omega)
                                have t1' : decide ((j : Int) < (i : Int)) = false := decide_eq_false (by omega)
                                have t1'' : decide (j < i) = false := decide_eq_false (by omega)
                                have hltij := hlt5 hgt
                                have HF : Hid (partLoop ltInt a (i + 1) (j - 1) (swp dk i j) = (Q1, Q2)) := by unfold Hid; rw [HQL.out, if_neg hgt]
                                clear HQL
                                have hiN : (i : Int) < (N : Int) := by omega
                                have hjN : (j : Int) < (N : Int) := by omega
                                obtain ⟨c0, f0⟩ := HGd2.out.cell HH.out (HZk.out.trans HN.out) (j := i) (by have := HN.out; omega)
                                obtain ⟨c1, f1⟩ := HGd2.out.cell HH.out (HZk.out.trans HN.out) (j := j) (by have := HN.out; omega)
                                obtain ⟨z, cz, fz⟩ := set_cell (HGd2.out.holds HH.out (HZk.out.trans HN.out)) (i := i) (k := j) (by have := HZk.out; omega) (by have := HZk.out; omega) dk[j]!
                                have HS := Lib.hid (HGd2.out.swap HH.out (HZk.out.trans HN.out) (j := i) (k := j) (by have := HZk.out; omega) (by have := HZk.out; omega))
                                have HZ2 : Hid ((swp dk i j).size = N) := by unfold Hid; rw [swp_sz]; exact HZk.out
                                obtain ⟨u, hu⟩ : ∃ x, x = dk[i]! := ⟨_, rfl⟩
                                obtain ⟨v, hv⟩ : ∃ y, y = dk[j]! := ⟨_, rfl⟩
                                rw [← hu, ← hv] at HS
                                rw [← hu] at c0
                                rw [← hv] at c1
                                rw [← hv] at cz fz
                                clear hu hv
                                have hPsw : Hid (P0 = P0) := rfl
                                clear HGd2 hPsw
                                go_wp2_with fail
                                go_region
                                have hj1 : (j : Int) - 1 = ((j - 1 : Nat) : Int) := by omega
                                go_wp2_with fail
                                go_roundw
                                case rel => exact ⟨i + 1, j - 1, swp dk i j, by go_num, by first | (rw [← hj1]; go_num) | go_num, by omega, by omega, by omega, HS.out.drewN _, HZ2.out, HF.out⟩
                                case measure => simp [RowKit.intOf]; omega
end Go.Proofs.Ytfobapnncjjeiaa
