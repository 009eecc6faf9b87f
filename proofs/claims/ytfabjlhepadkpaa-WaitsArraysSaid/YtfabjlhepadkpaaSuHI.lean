/-
  Sorting rows of uint32: partialInsertionSort.
  Sorting rows of uint32: pdqsort, and slices.Sort at rows of any length.
-/
import Derived.Test.YtfabjlhepadkpaaSuCDG
import Derived.Sort.LotA
import Derived.Test.YtfabjlhepadkpaaSuA
import Derived.Sort.LotD3
namespace Go.Proofs.Ytfabjlhepadkpaa
set_option linter.unusedVariables false

section
open Go Go.RowKit Go.Lib Go.Sort
set_option maxRecDepth 100000 in
set_option maxHeartbeats 8000000 in
theorem partialU_any (blk off cap a b : Nat) (d : Array Int) (w : World) (hH : Holds uE w blk off d) (hab : a < b) (hb : b ≤ d.size) (hsz : d.size ≤ 4194304) :
    Calls Try.prog 79 #[.slice (some ⟨blk, off, none⟩) d.size cap, .int .i64 (a : Nat), .int .i64 (b : Nat)] w fun e w' =>
      e = .returned (.bool (partialInsertionSort ltInt d a b).2) ∧ SoG w blk off (partialInsertionSort ltInt d a b).1 w' := by
  have HH := Lib.hid hH
  have LS : Hid (∀ x y w1, Calls Try.prog 80 #[.int .u32 x, .int .u32 y] w1 fun e w' => e = .returned (.bool (ltInt x y)) ∧ w' = w1) := lessU_any
  obtain ⟨R1, hR1⟩ : ∃ R, R = (partialInsertionSort ltInt d a b).1 := ⟨_, rfl⟩
  obtain ⟨R2, hR2⟩ : ∃ R, R = (partialInsertionSort ltInt d a b).2 := ⟨_, rfl⟩
  have HDEF : Hid (partialIns ltInt a b 5 (a + 1) d = (R1, R2)) := by unfold Hid; rw [hR1, hR2]; rfl
  rw [← hR1, ← hR2]
  obtain ⟨N, hN⟩ : ∃ N, N = d.size := ⟨_, rfl⟩
  have HN := Lib.hid hN
  rw [← hN] at hb hsz ⊢
  clear hH hN hR1 hR2
  go_enter Try.func79, Try.ntmps79
  go_wp2_with fail
  go_loopw [7, 8] (fun iv sv wr => ∃ (i0 s k : Nat) (dk : Array Int), iv = .int .i64 (i0 : Nat) ∧ sv = .int .i64 (k : Nat) ∧ k + s = 5 ∧ a < i0 ∧ i0 ≤ b ∧ Hid (SoG w blk off dk wr) ∧ Hid (dk.size = N) ∧ Hid (partialIns ltInt a b s i0 dk = (R1, R2))) (fun iv sv _ => 5 - (RowKit.intOf sv).toNat)
  case atStart => exact ⟨a + 1, 5, 0, d, by go_num, rfl, rfl, by omega, by omega, SoG.self HH.out, HN.out.symm, HDEF.out⟩
  case round =>
    obtain ⟨i0, s, k, dk, rfl, rfl, hks, hai, hib0, HGk, HZk, HLk⟩ := hrel
    cases s with
    | zero =>
      have d1 : decide ((k : Int) < 5) = false := decide_eq_false (by omega)
      have d1' : decide (k < 5) = false := decide_eq_false (by omega)
      have E1 : R1 = dk := (congrArg Prod.fst HLk.out).symm
      have E2 : R2 = false := (congrArg Prod.snd HLk.out).symm
      have HE := Lib.hid (And.intro E1 E2)
      clear E1 E2
      go_wp2_with fail
      go_ret
      exact ⟨by rw [HE.out.2]; rfl, by rw [HE.out.1]; exact HGk.out⟩
    | succ s =>
      have d1 : decide ((k : Int) < 5) = true := decide_eq_true (by omega)
      have d1' : decide (k < 5) = true := decide_eq_true (by omega)
      have HR : Hid ((if scanSorted ltInt dk b i0 = b then (dk, true) else if b - a < 50 then (dk, false) else
        partialIns ltInt a b s (scanSorted ltInt dk b i0) (fixUp ltInt b (scanSorted ltInt dk b i0) (fixDown ltInt a (scanSorted ltInt dk b i0) (swp dk (scanSorted ltInt dk b i0) (scanSorted ltInt dk b i0 - 1))))) = (R1, R2)) := by
        unfold Hid; rw [← partialIns_succ]; exact HLk.out
      obtain ⟨I2, hI2⟩ : ∃ I, I = scanSorted ltInt dk b i0 := ⟨_, rfl⟩
      rw [← hI2] at HR
      have HI2 : Hid (scanSorted ltInt dk b i0 = I2) := hI2.symm
      have HZ := HZk
      clear HLk hI2
      go_wp2_with fail
      go_loopw [7] (fun vv wr => ∃ i : Nat, vv = .int .i64 (i : Nat) ∧ i0 ≤ i ∧ i ≤ b ∧ Hid (SoG w blk off dk wr) ∧ Hid (scanSorted ltInt dk b i = I2)) (fun vv _ => b - (RowKit.intOf vv).toNat)
      case atStart => exact ⟨i0, rfl, by omega, by omega, HGk.out, HI2.out⟩
      case round =>
        obtain ⟨i, rfl, hv1, hv2, HGi, HSi⟩ := hrel
        obtain ⟨t, ht⟩ : ∃ t, t = i - 1 := ⟨_, rfl⟩
        have hti : (i : Int) - 1 = (t : Int) := by omega
        have htw : IntKind.i64.wrap ((i : Int) - 1) = (t : Int) := by rw [hti, IntKind.wrap_i64]; omega
        have htv : IntKind.i64.wrap (t : Int) = (t : Int) := by rw [IntKind.wrap_i64]; omega
        have htlt : t < i := by omega
        go_upto_region 5 with fail
        go_cut [32] from 17 to 32 (fun c wx => ∃ β : Bool, c = .bool β ∧ Hid (β = (decide (i < b) && !ltInt dk[i]! dk[t]!)) ∧ Hid (SoG w blk off dk wx))
        case first =>
          by_cases hle : i < b
          · have e1 : decide ((i : Int) < (b : Int)) = true := decide_eq_true (by omega)
            have e1' : decide (i < b) = true := decide_eq_true hle
            have hiN : (i : Int) < (N : Int) := by omega
            have hjN : (t : Int) < (N : Int) := by omega
            obtain ⟨c0, f0⟩ := HGi.out.cell HH.out (HZ.out.trans HN.out) (j := i) (by have := HN.out; omega)
            obtain ⟨c1, f1⟩ := HGi.out.cell HH.out (HZ.out.trans HN.out) (j := t) (by have := HN.out; omega)
            obtain ⟨x, hx⟩ : ∃ x, x = dk[i]! := ⟨_, rfl⟩
            obtain ⟨y, hy⟩ : ∃ y, y = dk[t]! := ⟨_, rfl⟩
            rw [← hx] at c0
            rw [← hy] at c1
            obtain ⟨q, hq⟩ : ∃ q, q = ltInt x y := ⟨_, rfl⟩
            have LXY : Hid (∀ w1, Calls Try.prog 80 #[.int .u32 x, .int .u32 y] w1 fun e w' => e = .returned (.bool q) ∧ w' = w1) := fun w1 => by rw [hq]; exact LS.out _ _ w1
            have HQ : Hid (q = ltInt dk[i]! dk[t]!) := by unfold Hid; rw [hq, hx, hy]
            clear hq hx hy
            have HQ2 : Hid ((!q) = (decide (i < b) && !ltInt dk[i]! dk[t]!)) := by unfold Hid; rw [e1', HQ.out]; simp
            clear HSi ht
            go_wp2_with fail
            go_quiet (first | (go_at_call 80; exact Calls.quiet_of_same (LXY.out _)))
            go_wp2_with fail
            go_meet
            exact ⟨_, rfl, HQ2.out, HGi.out.drewN _⟩
          · have e1 : decide ((i : Int) < (b : Int)) = false := decide_eq_false (by omega)
            have e1' : decide (i < b) = false := decide_eq_false hle
            have HQ2 : Hid (false = (decide (i < b) && !ltInt dk[i]! dk[t]!)) := by unfold Hid; rw [e1']; simp
            clear HSi ht
            go_wp2_with fail
            go_quiet (fail)
            go_wp2_with fail
            go_meet
            exact ⟨_, rfl, HQ2.out, HGi.out.drewN _⟩
        case rest =>
          obtain ⟨β, rfl, HB, HGx⟩ := hcut
          cases β with
          | true =>
            have hb := HB.out.symm
            rw [ht, Bool.and_eq_true, decide_eq_true_eq] at hb
            have hle := hb.1
            have HS2 : Hid (scanSorted ltInt dk b (i + 1) = I2) := by
              unfold Hid; rw [← HSi.out]; conv => rhs; unfold scanSorted
              rw [if_pos (by rw [Bool.and_eq_true, decide_eq_true_eq]; exact hb)]
            clear hb HB HSi ht htv htw hti
            go_wp2_with fail
            go_roundw
            case rel => exact ⟨i + 1, by go_num, by omega, by omega, HGx.out, HS2.out⟩
            case measure => simp [RowKit.intOf]; omega
          | false =>
            have he : I2 = i := by
              have hb := HB.out.symm
              rw [ht] at hb
              rw [← HSi.out]; conv => lhs; unfold scanSorted
              rw [if_neg (by rw [hb]; simp)]
            replace he := he.symm
            subst he
            clear HB HSi ht htv htw hti htlt t
            have HG := HGx
            clear HGi HGx
            by_cases hib : i = b
            · have t1 : ((i : Int) == (b : Int)) = true := by simp; omega
              have t1' : (i == b) = true := by simp; omega
              have HF : Hid ((R1, R2) = (dk, true)) := by unfold Hid; rw [← HR.out, if_pos hib]
              have Hib := Lib.hid hib
              clear hib HR
              go_wp2_with fail
              go_ret
              have E1 : R1 = dk := congrArg Prod.fst HF.out
              have E2 : R2 = true := congrArg Prod.snd HF.out
              exact ⟨by rw [E2]; rfl, by rw [E1]; exact HG.out⟩
            · have t1 : ((i : Int) == (b : Int)) = false := by simp; omega
              have t1' : (i == b) = false := by simp; omega
              obtain ⟨l, hl⟩ : ∃ l, l = b - a := ⟨_, rfl⟩
              have hli : (b : Int) - (a : Int) = (l : Int) := by omega
              by_cases h50 : b - a < 50
              · have t2 : decide ((l : Int) < 50) = true := decide_eq_true (by omega)
                have t2' : decide (l < 50) = true := decide_eq_true (by omega)
                have HF : Hid ((R1, R2) = (dk, false)) := by unfold Hid; rw [← HR.out, if_neg hib, if_pos h50]
                clear HR hl
                go_wp2_with fail
                go_ret
                have E1 : R1 = dk := congrArg Prod.fst HF.out
                have E2 : R2 = false := congrArg Prod.snd HF.out
                exact ⟨by rw [E2]; rfl, by rw [E1]; exact HG.out⟩
              · have t2 : decide ((l : Int) < 50) = false := decide_eq_false (by omega)
                have t2' : decide (l < 50) = false := decide_eq_false (by omega)
                obtain ⟨t, ht⟩ : ∃ t, t = i - 1 := ⟨_, rfl⟩
                have hti : (i : Int) - 1 = (t : Int) := by omega
                have htw : IntKind.i64.wrap ((i : Int) - 1) = (t : Int) := by rw [hti, IntKind.wrap_i64]; omega
                have htv : IntKind.i64.wrap (t : Int) = (t : Int) := by rw [IntKind.wrap_i64]; omega
                have htlt : t < i := by omega
                have hibb : i < b := by omega
                obtain ⟨ds, hds⟩ : ∃ ds, ds = swp dk i t := ⟨_, rfl⟩
                obtain ⟨D1, hD1⟩ : ∃ D, D = fixDown ltInt a i ds := ⟨_, rfl⟩
                obtain ⟨D2, hD2⟩ : ∃ D, D = fixUp ltInt b i D1 := ⟨_, rfl⟩
                have HF : Hid (partialIns ltInt a b s i D2 = (R1, R2)) := by unfold Hid; rw [← HR.out, if_neg hib, if_neg h50, hD2, hD1, hds, ht]
                have HDa : Hid (2 ≤ i - a → shiftDown ltInt t ds = D1) := fun h => by rw [hD1]; unfold fixDown; rw [if_pos h, ht]
                have HDb : Hid (¬ 2 ≤ i - a → ds = D1) := fun h => by rw [hD1]; unfold fixDown; rw [if_neg h]
                have HUa : Hid (2 ≤ b - i → shiftUp ltInt b (i + 1) D1 = D2) := fun h => by rw [hD2]; unfold fixUp; rw [if_pos h]
                have HUb : Hid (¬ 2 ≤ b - i → D1 = D2) := fun h => by rw [hD2]; unfold fixUp; rw [if_neg h]
                have hml : (l : Int) ≤ 4194304 := by omega
                clear HR hl hD1 hD2 hib h50 ht
                have hiN : (i : Int) < (N : Int) := by omega
                have hjN : (t : Int) < (N : Int) := by omega
                obtain ⟨c0, f0⟩ := HG.out.cell HH.out (HZk.out.trans HN.out) (j := i) (by have := HN.out; omega)
                obtain ⟨c1, f1⟩ := HG.out.cell HH.out (HZk.out.trans HN.out) (j := t) (by have := HN.out; omega)
                obtain ⟨z, cz, fz⟩ := set_cell (HG.out.holds HH.out (HZk.out.trans HN.out)) (i := i) (k := t) (by have := HZk.out; omega) (by have := HZk.out; omega) dk[t]!
                have HS := Lib.hid (HG.out.swap HH.out (HZk.out.trans HN.out) (j := i) (k := t) (by have := HZk.out; omega) (by have := HZk.out; omega))
                have HZd : Hid ((swp dk i t).size = N) := by unfold Hid; rw [swp_sz]; exact HZk.out
                obtain ⟨u, hu⟩ : ∃ x, x = dk[i]! := ⟨_, rfl⟩
                obtain ⟨v, hv⟩ : ∃ y, y = dk[t]! := ⟨_, rfl⟩
                rw [← hu, ← hv] at HS
                rw [← hu] at c0
                rw [← hv] at c1
                rw [← hv] at cz fz
                clear hu hv
                rw [← hds] at HS HZd
                clear hds HG
                go_wp2_with fail
                go_region
                have HSd := Lib.hid (HS.out.drewN 1)
                obtain ⟨W0, hW0⟩ : ∃ W, W = ((wc.setCell ⟨blk, off + i, none⟩ (.int .u32 v)).setCell ⟨blk, off + t, none⟩ (.int .u32 u)).drew := ⟨_, rfl⟩
                have HSW0 : Hid (SoG w blk off ds W0) := by unfold Hid; rw [hW0]; exact HSd.out
                rw [← hW0]
                clear HS HSd c0 c1 f0 f1 cz fz hiN hjN hW0
                obtain ⟨m, hm⟩ : ∃ m, m = i - a := ⟨_, rfl⟩
                have hmi : (i : Int) - (a : Int) = (m : Int) := by omega
                have hmu : (m : Int) ≤ 4194304 := by omega
                rw [← hm] at HDa HDb
                obtain ⟨n, hn⟩ : ∃ m, m = b - i := ⟨_, rfl⟩
                have hni : (b : Int) - (i : Int) = (n : Int) := by omega
                have hnu : (n : Int) ≤ 4194304 := by omega
                rw [← hn] at HUa HUb
                clear hm hn t1 t1' t2 t2'
                go_upto_if 61 with fail
                go_cut [] (fun wx => Hid (SoG w blk off D1 wx) ∧ Hid (D1.size = N))
                case first =>
                  clear HUa HUb HF
                  by_cases h2 : 2 ≤ m
                  · have t3 : decide ((m : Int) ≥ 2) = true := decide_eq_true (by omega)
                    have t3' : decide (2 ≤ (m : Int)) = true := decide_eq_true (by omega)
                    have t3'' : decide (2 ≤ m) = true := decide_eq_true h2
                    have HD1 := Lib.hid (HDa.out h2)
                    clear HDa HDb
                    go_wp2_with fail
                    go_loopw [9] (fun vv wr => ∃ (j : Nat) (dj : Array Int), vv = .int .i64 (j : Nat) ∧ j < i ∧ Hid (SoG w blk off dj wr) ∧ Hid (dj.size = N) ∧ Hid (shiftDown ltInt j dj = D1)) (fun vv _ => (RowKit.intOf vv).toNat)
                    case atStart => exact ⟨t, ds, by first | rfl | go_num, htlt, HSW0.out, HZd.out, HD1.out⟩
                    case round =>
                      obtain ⟨j, dj, rfl, hji, HGj, HZ, HSj⟩ := hrel
                      cases j with
                      | zero =>
                        have e1 : decide (((0 : Nat) : Int) ≥ 1) = false := by decide
                        have HE : Hid (dj = D1) := HSj.out
                        go_wp2_with fail
                        go_meet
                        rw [← HE.out]; exact ⟨HGj.out, HZ.out⟩
                      | succ j =>
                        obtain ⟨J, hJ⟩ : ∃ J, J = j + 1 := ⟨_, rfl⟩
                        have HSt : Hid ((if !ltInt dj[J]! dj[j]! then dj else shiftDown ltInt j (swp dj J j)) = D1) := by unfold Hid; rw [hJ]; exact HSj.out
                        rw [← hJ] at hji ⊢
                        have e1 : decide ((J : Int) ≥ 1) = true := decide_eq_true (by omega)
                        have e1' : decide (1 ≤ (J : Int)) = true := decide_eq_true (by omega)
                        have e1'' : decide (1 ≤ J) = true := decide_eq_true (by omega)
                        have hjJ : j < J := by omega
                        have hji2 : (J : Int) - 1 = (j : Int) := by omega
                        have hjw : IntKind.i64.wrap ((J : Int) - 1) = (j : Int) := by rw [hji2, IntKind.wrap_i64]; omega
                        have hjv : IntKind.i64.wrap (j : Int) = (j : Int) := by rw [IntKind.wrap_i64]; omega
                        clear hJ HSj
                        have hiN : (J : Int) < (N : Int) := by omega
                        have hjN : (j : Int) < (N : Int) := by omega
                        obtain ⟨c0, f0⟩ := HGj.out.cell HH.out (HZ.out.trans HN.out) (j := J) (by have := HN.out; omega)
                        obtain ⟨c1, f1⟩ := HGj.out.cell HH.out (HZ.out.trans HN.out) (j := j) (by have := HN.out; omega)
                        obtain ⟨x, hx⟩ : ∃ x, x = dj[J]! := ⟨_, rfl⟩
                        obtain ⟨y, hy⟩ : ∃ y, y = dj[j]! := ⟨_, rfl⟩
                        rw [← hx] at c0
                        rw [← hy] at c1
                        obtain ⟨q, hq⟩ : ∃ q, q = ltInt x y := ⟨_, rfl⟩
                        have LXY : Hid (∀ w1, Calls Try.prog 80 #[.int .u32 x, .int .u32 y] w1 fun e w' => e = .returned (.bool q) ∧ w' = w1) := fun w1 => by rw [hq]; exact LS.out _ _ w1
                        have HQ : Hid (q = ltInt dj[J]! dj[j]!) := by unfold Hid; rw [hq, hx, hy]
                        clear hq hx hy
                        have HSWq := Lib.hid (fun n => (HGj.out.drewN n).swap HH.out (HZ.out.trans HN.out) (j := J) (k := j) (by have := HZ.out; omega) (by have := HZ.out; omega))
                        have HZW : Hid ((swp dj J j).size = N) := by unfold Hid; rw [swp_sz]; exact HZ.out
                        have HXY : Hid (x = dj[J]! ∧ y = dj[j]!) := ⟨by have := (HGj.out.cell HH.out (HZ.out.trans HN.out) (j := J) (by have := HN.out; omega)).1; rw [c0] at this; injection this with h; injection h, by have := (HGj.out.cell HH.out (HZ.out.trans HN.out) (j := j) (by have := HN.out; omega)).1; rw [c1] at this; injection this with h; injection h⟩
                        rw [← HXY.out.1, ← HXY.out.2] at HSWq
                        clear HXY
                        go_wp2_with fail
                        go_quiet (first | (go_at_call 80; exact Calls.quiet_of_same (LXY.out _)))
                        obtain ⟨W, hW⟩ : ∃ W, W = wr.drewN nq := ⟨_, rfl⟩
                        have c0' : W.cell? ⟨blk, off + J, none⟩ = some (.int .u32 x) := by rw [hW]; exact c0
                        have f0' : W.frozen? ⟨blk, off + J, none⟩ = false := by rw [hW]; exact f0
                        have c1' : W.cell? ⟨blk, off + j, none⟩ = some (.int .u32 y) := by rw [hW]; exact c1
                        have f1' : W.frozen? ⟨blk, off + j, none⟩ = false := by rw [hW]; exact f1
                        have HSW := Lib.hid (HSWq.out nq)
                        have HGW : Hid (SoG w blk off dj W) := by unfold Hid; rw [hW]; exact HGj.out.drewN _
                        rw [← hW] at HSW ⊢
                        clear hW c0 c1 f0 f1 HSWq HGj
                        cases q with
                        | true =>
                            have HE : Hid (shiftDown ltInt j (swp dj J j) = D1) := by unfold Hid; rw [← HSt.out, ← HQ.out]; rfl
                            clear HQ HSt LXY
                            go_wp2_with fail
                            go_region
                            go_wp2_with fail
                            go_roundw
                            case rel => exact ⟨j, _, by go_num, by omega, HSW.out.drewN _, HZW.out, HE.out⟩
                            case measure => simp [RowKit.intOf]; try omega
                        | false =>
                            have HE : Hid (dj = D1) := by unfold Hid; rw [← HSt.out, ← HQ.out]; rfl
                            clear HQ HSt LXY HSW HZW
                            go_wp2_with fail
                            go_meet
                            rw [← HE.out]; exact ⟨HGW.out, HZ.out⟩
                  · have t3 : decide ((m : Int) ≥ 2) = false := decide_eq_false (by omega)
                    have t3' : decide (2 ≤ (m : Int)) = false := decide_eq_false (by omega)
                    have t3'' : decide (2 ≤ m) = false := decide_eq_false h2
                    have HD1 := Lib.hid (HDb.out h2)
                    go_wp2_with fail
                    go_meet
                    rw [← HD1.out]
                    exact ⟨HSW0.out, HZd.out⟩
                case rest =>
                  obtain ⟨HGD, HZD⟩ := hcut
                  clear HDa HDb HSW0 HZd
                  by_cases h2 : 2 ≤ n
                  · have t3 : decide ((n : Int) ≥ 2) = true := decide_eq_true (by omega)
                    have t3' : decide (2 ≤ (n : Int)) = true := decide_eq_true (by omega)
                    have t3'' : decide (2 ≤ n) = true := decide_eq_true h2
                    have HD2 := Lib.hid (HUa.out h2)
                    clear HUa HUb
                    go_wp2_with fail
                    go_loopw [10] (fun vv wr => ∃ (J : Nat) (dj : Array Int), vv = .int .i64 (J : Nat) ∧ i < J ∧ J ≤ b ∧ Hid (SoG w blk off dj wr) ∧ Hid (dj.size = N) ∧ Hid (shiftUp ltInt b J dj = D2)) (fun vv _ => b - (RowKit.intOf vv).toNat)
                    case atStart => exact ⟨i + 1, D1, by first | rfl | go_num, by omega, by omega, HGD.out, HZD.out, HD2.out⟩
                    case round =>
                      obtain ⟨J, dj, rfl, hiJ, hJb, HGj, HZ, HSj⟩ := hrel
                      by_cases hlt : J < b
                      · have e1 : decide ((J : Int) < (b : Int)) = true := decide_eq_true (by omega)
                        have e1' : decide (J < b) = true := decide_eq_true hlt
                        obtain ⟨j, hj⟩ : ∃ j, j = J - 1 := ⟨_, rfl⟩
                        have HSt : Hid ((if !ltInt dj[J]! dj[j]! then dj else shiftUp ltInt b (J + 1) (swp dj J j)) = D2) := by
                          unfold Hid; rw [← HSj.out, hj]; conv => rhs; unfold shiftUp
                          rw [if_pos hlt]
                        have hjJ : j < J := by omega
                        have hji2 : (J : Int) - 1 = (j : Int) := by omega
                        have hjw : IntKind.i64.wrap ((J : Int) - 1) = (j : Int) := by rw [hji2, IntKind.wrap_i64]; omega
                        have hjv : IntKind.i64.wrap (j : Int) = (j : Int) := by rw [IntKind.wrap_i64]; omega
                        clear hj HSj
                        have hiN : (J : Int) < (N : Int) := by omega
                        have hjN : (j : Int) < (N : Int) := by omega
                        obtain ⟨c0, f0⟩ := HGj.out.cell HH.out (HZ.out.trans HN.out) (j := J) (by have := HN.out; omega)
                        obtain ⟨c1, f1⟩ := HGj.out.cell HH.out (HZ.out.trans HN.out) (j := j) (by have := HN.out; omega)
                        obtain ⟨x, hx⟩ : ∃ x, x = dj[J]! := ⟨_, rfl⟩
                        obtain ⟨y, hy⟩ : ∃ y, y = dj[j]! := ⟨_, rfl⟩
                        rw [← hx] at c0
                        rw [← hy] at c1
                        obtain ⟨q, hq⟩ : ∃ q, q = ltInt x y := ⟨_, rfl⟩
                        have LXY : Hid (∀ w1, Calls Try.prog 80 #[.int .u32 x, .int .u32 y] w1 fun e w' => e = .returned (.bool q) ∧ w' = w1) := fun w1 => by rw [hq]; exact LS.out _ _ w1
                        have HQ : Hid (q = ltInt dj[J]! dj[j]!) := by unfold Hid; rw [hq, hx, hy]
                        clear hq hx hy
                        have HSWq := Lib.hid (fun n => (HGj.out.drewN n).swap HH.out (HZ.out.trans HN.out) (j := J) (k := j) (by have := HZ.out; omega) (by have := HZ.out; omega))
                        have HZW : Hid ((swp dj J j).size = N) := by unfold Hid; rw [swp_sz]; exact HZ.out
                        have HXY : Hid (x = dj[J]! ∧ y = dj[j]!) := ⟨by have := (HGj.out.cell HH.out (HZ.out.trans HN.out) (j := J) (by have := HN.out; omega)).1; rw [c0] at this; injection this with h; injection h, by have := (HGj.out.cell HH.out (HZ.out.trans HN.out) (j := j) (by have := HN.out; omega)).1; rw [c1] at this; injection this with h; injection h⟩
                        rw [← HXY.out.1, ← HXY.out.2] at HSWq
                        clear HXY
                        go_wp2_with fail
                        go_quiet (first | (go_at_call 80; exact Calls.quiet_of_same (LXY.out _)))
                        obtain ⟨W, hW⟩ : ∃ W, W = wr.drewN nq := ⟨_, rfl⟩
                        have c0' : W.cell? ⟨blk, off + J, none⟩ = some (.int .u32 x) := by rw [hW]; exact c0
                        have f0' : W.frozen? ⟨blk, off + J, none⟩ = false := by rw [hW]; exact f0
                        have c1' : W.cell? ⟨blk, off + j, none⟩ = some (.int .u32 y) := by rw [hW]; exact c1
                        have f1' : W.frozen? ⟨blk, off + j, none⟩ = false := by rw [hW]; exact f1
                        have HSW := Lib.hid (HSWq.out nq)
                        have HGW : Hid (SoG w blk off dj W) := by unfold Hid; rw [hW]; exact HGj.out.drewN _
                        rw [← hW] at HSW ⊢
                        clear hW c0 c1 f0 f1 HSWq HGj
                        cases q with
                        | true =>
                            have HE : Hid (shiftUp ltInt b (J + 1) (swp dj J j) = D2) := by unfold Hid; rw [← HSt.out, ← HQ.out]; rfl
                            clear HQ HSt LXY
                            go_wp2_with fail
                            go_region
                            go_wp2_with fail
                            go_roundw
                            case rel => exact ⟨J + 1, _, by go_num, by omega, by omega, HSW.out.drewN _, HZW.out, HE.out⟩
                            case measure => simp [RowKit.intOf]; omega
                        | false =>
                            have HE : Hid (dj = D2) := by unfold Hid; rw [← HSt.out, ← HQ.out]; rfl
                            clear HQ HSt LXY HSW HZW
                            go_wp2_with fail
                            go_roundw
                            case rel => exact ⟨i, s, k + 1, D2, rfl, by go_num, by omega, by omega, by omega, by rw [← HE.out]; exact HGW.out, by rw [← HE.out]; exact HZ.out, HF.out⟩
                            case measure => simp [RowKit.intOf]; omega
                      · have e1 : decide ((J : Int) < (b : Int)) = false := decide_eq_false (by omega)
                        have e1' : decide (J < b) = false := decide_eq_false hlt
                        have HE : Hid (dj = D2) := by unfold Hid; rw [← HSj.out]; unfold shiftUp; rw [if_neg hlt]
                        clear HSj
                        go_wp2_with fail
                        go_roundw
                        case rel => exact ⟨i, s, k + 1, D2, rfl, by go_num, by omega, by omega, by omega, by rw [← HE.out]; exact HGj.out, by rw [← HE.out]; exact HZ.out, HF.out⟩
                        case measure => simp [RowKit.intOf]; omega
                  · have t3 : decide ((n : Int) ≥ 2) = false := decide_eq_false (by omega)
                    have t3' : decide (2 ≤ (n : Int)) = false := decide_eq_false (by omega)
                    have t3'' : decide (2 ≤ n) = false := decide_eq_false h2
                    have HD2 := Lib.hid (HUb.out h2)
                    go_wp2_with fail
                    go_roundw
                    case rel => exact ⟨i, s, k + 1, D2, rfl, by go_num, by omega, by omega, by omega, by rw [← HD2.out]; exact HGD.out, by rw [← HD2.out]; exact HZD.out, HF.out⟩
                    case measure => simp [RowKit.intOf]; omega
end

section
open Go Go.RowKit Go.Lib Go.Sort
/-- Where pdqsort's loop stands: what is still to be sorted, and that this is enough. -/
structure PdqSt (w : World) (blk off a0 b0 : Nat) (d : Array Int) (a b : Nat) (dk : Array Int) (wr : World) : Prop where
  so : SoG w blk off dk wr
  sz : dk.size = d.size
  bel : Sort.Below ltInt a b dk
  cont : ∀ R, PermIn a b dk R → SortedIn ltInt a b R → PermIn a0 b0 d R ∧ SortedIn ltInt a0 b0 R
section
variable {w wr w' : World} {blk off a0 b0 a b : Nat} {d dk d' : Array Int}
theorem PdqSt.step (h : PdqSt w blk off a0 b0 d a b dk wr) (hg : SoG wr blk off d' w') (hp : PermIn a b dk d') (hb : b ≤ d.size) : PdqSt w blk off a0 b0 d a b d' w' :=
  ⟨h.so.trans hg hp.1, hp.1.trans h.sz, h.bel.perm (by rw [h.sz]; exact hb) hp, fun R h1 h2 => h.cont R (permIn_trans _ _ _ _ _ hp h1) h2⟩
theorem PdqSt.below (h : PdqSt w blk off a0 b0 d a b dk wr) (hg : Below wr.heap.size wr w') : PdqSt w blk off a0 b0 d a b dk w' :=
  ⟨h.so.below hg, h.sz, h.bel, h.cont⟩
theorem PdqSt.holds (h : PdqSt w blk off a0 b0 d a b dk wr) (hH : Holds uE w blk off d) : Holds uE wr blk off dk := h.so.holds hH h.sz
theorem PdqSt.lt (h : PdqSt w blk off a0 b0 d a b dk wr) (hb : blk < w.heap.size) : blk < wr.heap.size := Nat.lt_of_lt_of_le hb h.so.chg.size
end
def PdqAt (n : Nat) : Prop := ∀ (blk off cap a b lim : Nat) (d : Array Int) (w : World), b - a ≤ n → Holds uE w blk off d → blk < w.heap.size → a ≤ b → b ≤ d.size → d.size ≤ 4194304 → Sort.Below ltInt a b d →
    lim ≤ 64 → Calls Try.prog 70 #[.slice (some ⟨blk, off, none⟩) d.size cap, .int .i64 (a : Nat), .int .i64 (b : Nat), .int .i64 (lim : Nat)] w fun e w' =>
      e = .returned (.tuple #[]) ∧ ∃ d', SoG w blk off d' w' ∧ PermIn a b d d' ∧ SortedIn ltInt a b d'
set_option maxRecDepth 100000 in
set_option maxHeartbeats 8000000 in
theorem pdq_step (n : Nat) (IH : ∀ m, m < n → PdqAt m) : PdqAt n := by
  intro blk off cap a0 b0 lim0 d w hn0 hH hblk hab0 hb0 hsz hbel hlim0
  have HH := Lib.hid hH
  have LS : Hid (∀ x y w1, Calls Try.prog 80 #[.int .u32 x, .int .u32 y] w1 fun e w' => e = .returned (.bool (ltInt x y)) ∧ w' = w1) := lessU_any
  have HST0 : Hid (PdqSt w blk off a0 b0 d a0 b0 d w) := ⟨SoG.self hH, rfl, hbel, fun R h1 h2 => ⟨h1, h2⟩⟩
  have HIH := Lib.hid IH
  obtain ⟨N, hN⟩ : ∃ N, N = d.size := ⟨_, rfl⟩
  have HN := Lib.hid hN
  -- what the callees do to a row in the state
  have INS : Hid (∀ a b dk wr, PdqSt w blk off a0 b0 d a b dk wr → a ≤ b → b ≤ N → Calls Try.prog 74 #[.slice (some ⟨blk, off, none⟩) N cap, .int .i64 (a : Nat), .int .i64 (b : Nat)] wr fun e w' =>
      e = .returned (.tuple #[]) ∧ ∃ d', SoG w blk off d' w' ∧ PermIn a0 b0 d d' ∧ SortedIn ltInt a0 b0 d') := fun a b dk wr h h1 h2 => by
    have := insU_any blk off cap a b dk wr (h.holds hH) h1 (by rw [h.sz, ← hN]; exact h2) (by rw [h.sz]; exact hsz)
    rw [h.sz, ← hN] at this
    refine this.mono ?_
    rintro e w' ⟨rfl, d', g1, g2, g3⟩
    exact ⟨rfl, d', h.so.trans (.of_so g1) g2.1, (h.cont d' g2 g3).1, (h.cont d' g2 g3).2⟩
  have HEAP : Hid (∀ a b dk wr, PdqSt w blk off a0 b0 d a b dk wr → a + 1 < b → b ≤ N → Calls Try.prog 75 #[.slice (some ⟨blk, off, none⟩) N cap, .int .i64 (a : Nat), .int .i64 (b : Nat)] wr fun e w' =>
      e = .returned (.tuple #[]) ∧ ∃ d', SoG w blk off d' w' ∧ PermIn a0 b0 d d' ∧ SortedIn ltInt a0 b0 d') := fun a b dk wr h h1 h2 => by
    have := heapU_any blk off cap a b dk wr (h.holds hH) h1 (by rw [h.sz, ← hN]; exact h2) (by rw [h.sz]; exact hsz)
    rw [h.sz, ← hN] at this
    refine this.mono ?_
    rintro e w' ⟨rfl, d', g1, g2, g3⟩
    exact ⟨rfl, d', h.so.trans g1 g2.1, (h.cont d' g2 g3).1, (h.cont d' g2 g3).2⟩
  have BRK : Hid (∀ a b dk wr, PdqSt w blk off a0 b0 d a b dk wr → a + 12 < b → b ≤ N → Calls Try.prog 76 #[.slice (some ⟨blk, off, none⟩) N cap, .int .i64 (a : Nat), .int .i64 (b : Nat)] wr fun e w' =>
      e = .returned (.tuple #[]) ∧ ∃ d', PdqSt w blk off a0 b0 d a b d' w') := fun a b dk wr h h1 h2 => by
    have := breakU_any blk off cap a b dk wr (h.holds hH) (h.lt hblk) h1 (by rw [h.sz, ← hN]; exact h2) (by rw [h.sz]; exact hsz)
    rw [h.sz, ← hN] at this
    refine this.mono ?_
    rintro e w' ⟨rfl, d', g1, g2⟩
    exact ⟨rfl, d', h.step g1 g2 (by rw [← hN]; exact h2)⟩
  have REV : Hid (∀ a b dk wr, PdqSt w blk off a0 b0 d a b dk wr → a < b → b ≤ N → Calls Try.prog 78 #[.slice (some ⟨blk, off, none⟩) N cap, .int .i64 (a : Nat), .int .i64 (b : Nat)] wr fun e w' =>
      e = .returned (.tuple #[]) ∧ ∃ d', PdqSt w blk off a0 b0 d a b d' w') := fun a b dk wr h h1 h2 => by
    have := revU_any blk off cap a b dk wr (h.holds hH) h1 (by rw [h.sz, ← hN]; exact h2) (by rw [h.sz]; exact hsz)
    rw [h.sz, ← hN] at this
    refine this.mono ?_
    rintro e w' ⟨rfl, d', g1, g2⟩
    exact ⟨rfl, d', h.step g1 g2 (by rw [← hN]; exact h2)⟩
  have PIV : Hid (∀ a b dk wr, PdqSt w blk off a0 b0 d a b dk wr → a + 12 < b → b ≤ N → Calls Try.prog 77 #[.slice (some ⟨blk, off, none⟩) N cap, .int .i64 (a : Nat), .int .i64 (b : Nat)] wr fun e w' =>
      ∃ p h : Nat, e = .returned (.tuple #[.int .i64 (p : Nat), .int .i64 (h : Nat)]) ∧ a ≤ p ∧ p < b ∧ h ≤ 2 ∧ PdqSt w blk off a0 b0 d a b dk w') := fun a b dk wr h h1 h2 => by
    have := pivotU_any blk off cap a b dk wr (h.holds hH) (h.lt hblk) h1 (by rw [h.sz, ← hN]; exact h2) (by rw [h.sz]; exact hsz)
    rw [h.sz, ← hN] at this
    refine this.mono ?_
    rintro e w' ⟨p, hh, rfl, g1, g2, g3, g4⟩
    exact ⟨p, hh, rfl, g1, g2, g3, h.below g4⟩
  have PARI : Hid (∀ a b dk wr, PdqSt w blk off a0 b0 d a b dk wr → a < b → b ≤ N → Calls Try.prog 79 #[.slice (some ⟨blk, off, none⟩) N cap, .int .i64 (a : Nat), .int .i64 (b : Nat)] wr fun e w' =>
      ∃ (r : Bool) (d' : Array Int), e = .returned (.bool r) ∧ PdqSt w blk off a0 b0 d a b d' w' ∧ (r = true → SoG w blk off d' w' ∧ PermIn a0 b0 d d' ∧ SortedIn ltInt a0 b0 d')) := fun a b dk wr h h1 h2 => by
    have := partialU_any blk off cap a b dk wr (h.holds hH) h1 (by rw [h.sz, ← hN]; exact h2) (by rw [h.sz]; exact hsz)
    rw [h.sz, ← hN] at this
    obtain ⟨q1, q2⟩ := partialInsertionSort_holds swo_ltInt dk a b h1 (by rw [h.sz, ← hN]; exact h2) h.bel
    refine this.mono ?_
    rintro e w' ⟨rfl, g1⟩
    exact ⟨_, _, rfl, h.step g1 q1 (by rw [← hN]; exact h2), fun hr => ⟨h.so.trans g1 q1.1, (h.cont _ q1 (q2 hr)).1, (h.cont _ q1 (q2 hr)).2⟩⟩
  have PEQ : Hid (∀ a b p dk wr, PdqSt w blk off a0 b0 d a b dk wr → 0 < a → a ≤ p → p < b → b ≤ N → ltInt dk[a - 1]! dk[p]! = false → Calls Try.prog 81 #[.slice (some ⟨blk, off, none⟩) N cap, .int .i64 (a : Nat), .int .i64 (b : Nat), .int .i64 (p : Nat)] wr fun e w' =>
      ∃ (mid : Nat) (d' : Array Int), e = .returned (.int .i64 (mid : Nat)) ∧ a < mid ∧ mid ≤ b ∧ PdqSt w blk off a0 b0 d mid b d' w') := fun a b p dk wr h h0 h1 h2 h3 h4 => by
    have := partEqU_any blk off cap a b p dk wr (h.holds hH) h1 h2 (by rw [h.sz, ← hN]; exact h3) (by rw [h.sz]; exact hsz)
    rw [h.sz, ← hN] at this
    obtain ⟨q1, q2, q3, q4, q5⟩ := round_eq swo_ltInt (partitionEqual_holds ltInt) h0 h1 h2 (by rw [h.sz, ← hN]; exact h3) h.bel h4 (show partitionEqual ltInt dk a b p = ((partitionEqual ltInt dk a b p).1, (partitionEqual ltInt dk a b p).2) from rfl)
    refine this.mono ?_
    rintro e w' ⟨rfl, g1⟩
    exact ⟨_, _, rfl, q1, q2, ⟨h.so.trans g1 q3, q3.trans h.sz, q4, fun R r1 r2 => h.cont R (q5 R r1 r2).1 (q5 R r1 r2).2⟩⟩
  have PAR : Hid (∀ a b p dk wr, PdqSt w blk off a0 b0 d a b dk wr → a ≤ p → p < b → b ≤ N → Calls Try.prog 82 #[.slice (some ⟨blk, off, none⟩) N cap, .int .i64 (a : Nat), .int .i64 (b : Nat), .int .i64 (p : Nat)] wr fun e w' =>
      ∃ (mid : Nat) (ap : Bool) (d' : Array Int), e = .returned (.tuple #[.int .i64 (mid : Nat), .bool ap]) ∧ a ≤ mid ∧ mid < b ∧ Holds uE w' blk off d' ∧ blk < w'.heap.size ∧ d'.size = N ∧ Sort.Below ltInt a mid d' ∧ Sort.Below ltInt (mid + 1) b d' ∧
        (∀ L w2, SoG w' blk off L w2 → PermIn a mid d' L → SortedIn ltInt a mid L → PdqSt w blk off a0 b0 d (mid + 1) b L w2) ∧
        (∀ L w2, SoG w' blk off L w2 → PermIn (mid + 1) b d' L → SortedIn ltInt (mid + 1) b L → PdqSt w blk off a0 b0 d a mid L w2)) := fun a b p dk wr h h1 h2 h3 => by
    have := partU_any blk off cap a b p dk wr (h.holds hH) h1 h2 (by rw [h.sz, ← hN]; exact h3) (by rw [h.sz]; exact hsz)
    rw [h.sz, ← hN] at this
    obtain ⟨q1, q2, q3, q4, q5, q6, q7⟩ := round_part swo_ltInt (partition_holds ltInt) h1 h2 (by rw [h.sz, ← hN]; exact h3) h.bel (show partition ltInt dk a b p = ((partition ltInt dk a b p).1, (partition ltInt dk a b p).2.1, (partition ltInt dk a b p).2.2) from rfl)
    refine this.mono ?_
    rintro e w' ⟨rfl, g1⟩
    have hso := h.so.trans g1 q3
    refine ⟨_, _, _, rfl, q1, q2, hso.holds hH (q3.trans h.sz), Nat.lt_of_lt_of_le hblk hso.chg.size, by rw [q3, h.sz, hN], q4, q5, fun L w2 l1 l2 l3 => ?_, fun L w2 l1 l2 l3 => ?_⟩
    · obtain ⟨r1, r2⟩ := q6 L l2 l3
      exact ⟨hso.trans l1 l2.1, l2.1.trans (q3.trans h.sz), r1, fun R s1 s2 => h.cont R (r2 R s1 s2).1 (r2 R s1 s2).2⟩
    · obtain ⟨r1, r2⟩ := q7 L l2 l3
      exact ⟨hso.trans l1 l2.1, l2.1.trans (q3.trans h.sz), r1, fun R s1 s2 => h.cont R (r2 R s1 s2).1 (r2 R s1 s2).2⟩
  have LESS : Hid (∀ a b dk wr, PdqSt w blk off a0 b0 d a b dk wr → ∀ j, j < N → wr.cell? ⟨blk, off + j, none⟩ = some (.int .u32 dk[j]!) ∧ wr.frozen? ⟨blk, off + j, none⟩ = false) := fun a b dk wr h j hj => h.so.cell hH h.sz (by omega)
  rw [← hN] at hb0 hsz ⊢
  have HBLK := Lib.hid hblk
  clear hH hN hbel IH hblk
  go_enter Try.func70, Try.ntmps70
  go_wp2_with fail
  go_loopw [1, 2, 3, 8, 9] (fun va vb vl v8 v9 wr => ∃ (a b lim : Nat) (wb wp : Bool) (dk : Array Int), va = .int .i64 (a : Nat) ∧ vb = .int .i64 (b : Nat) ∧ vl = .int .i64 (lim : Nat) ∧ v8 = .bool wb ∧ v9 = .bool wp ∧
      a ≤ b ∧ b ≤ N ∧ b - a ≤ n ∧ lim ≤ 64 ∧ Hid (PdqSt w blk off a0 b0 d a b dk wr)) (fun va vb _ _ _ _ => (RowKit.intOf vb).toNat - (RowKit.intOf va).toNat)
  case atStart => exact ⟨a0, b0, lim0, true, true, d, rfl, rfl, rfl, rfl, rfl, hab0, hb0, hn0, hlim0, HST0.out⟩
  case round =>
    clear hab0 hb0 hn0 hlim0 HST0
    obtain ⟨a, b, lim, wb, wp, dk, rfl, rfl, rfl, rfl, rfl, hab, hbN, hbn, hlim, HS⟩ := hrel
    obtain ⟨l, hl⟩ : ∃ l, l = b - a := ⟨_, rfl⟩
    have hli : (b : Int) - (a : Int) = (l : Int) := by omega
    have hlu : (l : Int) ≤ 4194304 := by omega
    by_cases h12 : l ≤ 12
    · have d1 : decide ((l : Int) ≤ 12) = true := decide_eq_true (by omega)
      have d1' : decide (l ≤ 12) = true := decide_eq_true h12
      have IC := Lib.hid (INS.out a b dk wr HS.out hab hbN)
      clear hl
      go_wp2_with fail
      refine IC.out.mono ?_; rintro e w1 ⟨rfl, h1⟩
      go_wp2_with fail
      go_returns
      exact ⟨rfl, h1⟩
    · have d1 : decide ((l : Int) ≤ 12) = false := decide_eq_false (by omega)
      have d1' : decide (l ≤ 12) = false := decide_eq_false h12
      have h12a : a + 12 < b := by omega
      by_cases hl0 : lim = 0
      · have d2 : ((lim : Int) == 0) = true := by simp; exact hl0
        have d2' : (lim == 0) = true := by simp; exact hl0
        have HC := Lib.hid (HEAP.out a b dk wr HS.out (by omega) hbN)
        have HL0 := Lib.hid hl0
        clear hl hl0
        go_wp2_with fail
        refine HC.out.mono ?_; rintro e w1 ⟨rfl, h1⟩
        go_wp2_with fail
        go_returns
        exact ⟨rfl, h1⟩
      · have d2 : ((lim : Int) == 0) = false := by simp; omega
        have d2' : (lim == 0) = false := by simp; omega
        have hln : Hid (l = b - a) := hl
        clear hl
        go_upto_if 35 with fail
        go_cut [3] (fun lv wx => ∃ (lim' : Nat) (d1 : Array Int), lv = .int .i64 (lim' : Nat) ∧ lim' ≤ 64 ∧ Hid (PdqSt w blk off a0 b0 d a b d1 wx))
        case first =>
          cases wb with
          | true =>
            go_wp2_with fail
            go_meet
            exact ⟨lim, dk, rfl, hlim, HS.out⟩
          | false =>
            have HC := Lib.hid (BRK.out a b dk wr HS.out h12a hbN)
            obtain ⟨lm, hlm⟩ : ∃ m, m = lim - 1 := ⟨_, rfl⟩
            have hlmi : (lim : Int) - 1 = (lm : Int) := by omega
            have hlmu : lm ≤ 64 := by omega
            clear hlm
            go_wp2_with fail
            refine HC.out.mono ?_; rintro e w1 ⟨rfl, d1, h1⟩
            go_wp2_with fail
            go_meet
            exact ⟨lm, d1, rfl, hlmu, h1⟩
        case rest =>
          obtain ⟨lim', d1, rfl, hlim', HS1⟩ := hcut
          clear d2 d2' hl0 hlim HS
          have HC := Lib.hid (PIV.out a b d1 wc HS1.out h12a hbN)
          go_wp2_with fail
          refine HC.out.mono ?_; rintro e w2 ⟨p, h, rfl, hap, hpb, hh2, HS2'⟩
          have HS2 := Lib.hid HS2'
          clear HS2' HC HS1
          go_upto_if 50 with fail
          go_cut [11, 12] (fun pv hv wx => ∃ (p h : Nat) (d2 : Array Int), pv = .int .i64 (p : Nat) ∧ hv = .int .i64 (h : Nat) ∧ a ≤ p ∧ p < b ∧ h ≤ 2 ∧ Hid (PdqSt w blk off a0 b0 d a b d2 wx))
          case first =>
            by_cases hh : h = 2
            · have d2 : ((h : Int) == 2) = true := by simp; omega
              have d2' : (h == 2) = true := by simp; omega
              have HC := Lib.hid (REV.out a b d1 w2 HS2.out (by omega) hbN)
              obtain ⟨p', hp'⟩ : ∃ p', p' = (b - 1) - (p - a) := ⟨_, rfl⟩
              have hpi : (b : Int) - 1 - ((p : Int) - (a : Int)) = (p' : Int) := by omega
              have hpa : a ≤ p' := by omega
              have hpb' : p' < b := by omega
              have hHH := Lib.hid hh
              clear hp' hh
              go_wp2_with fail
              refine HC.out.mono ?_; rintro e w3 ⟨rfl, d2, h1⟩
              go_wp2_with fail
              go_meet
              exact ⟨p', 1, d2, rfl, rfl, hpa, hpb', by omega, h1⟩
            · have d2 : ((h : Int) == 2) = false := by simp; omega
              have d2' : (h == 2) = false := by simp; omega
              go_wp2_with fail
              go_meet
              exact ⟨p, h, d1, rfl, rfl, hap, hpb, hh2, HS2.out⟩
          case rest =>
            clear hap hpb hh2 HS2
            obtain ⟨p, h, d2, rfl, rfl, hap, hpb, hh2, HS3⟩ := hcut
            go_upto_region 15 with fail
            go_cut [68] from 61 to 68 (fun c wx => ∃ β : Bool, c = .bool β ∧ Hid (PdqSt w blk off a0 b0 d a b d2 wx))
            case first =>
              cases wb with
              | true =>
                cases wp with
                | true =>
                  go_wp2_with fail
                  go_meet
                  exact ⟨_, rfl, HS3.out⟩
                | false =>
                  go_wp2_with fail
                  go_meet
                  exact ⟨_, rfl, HS3.out⟩
              | false =>
                go_wp2_with fail
                go_meet
                exact ⟨_, rfl, HS3.out⟩
            case rest =>
              obtain ⟨β, rfl, HS4⟩ := hcut
              clear HS3
              cases β with
              | true =>
                have HC := Lib.hid (PARI.out a b d2 wc HS4.out (by omega) hbN)
                go_wp2_with fail
                refine HC.out.mono ?_; rintro e w3 ⟨r, d3, rfl, h1, h2⟩
                have H2 := Lib.hid h2
                have HS5 := Lib.hid h1
                clear h1 h2 HC HS4
                cases r with
                | true =>
                  go_wp2_with fail
                  go_returns
                  exact ⟨rfl, d3, H2.out trivial⟩
                | false =>
                  clear H2
                  have HS4 := HS5
                  clear HS5
                  go_wp2_with fail
                  obtain ⟨t, ht⟩ : ∃ t, t = a - 1 := ⟨_, rfl⟩
                  have hti : 0 < a → (a : Int) - 1 = (t : Int) := fun h => by omega
                  go_upto_region 17 with fail
                  go_cut [87] from 73 to 87 (fun c wx => ∃ β : Bool, c = .bool β ∧ Hid (β = (decide (a > 0) && !ltInt d3[t]! d3[p]!)) ∧ Hid (PdqSt w blk off a0 b0 d a b d3 wx))
                  case first =>
                    by_cases ha0 : 0 < a
                    · have e1 : decide ((a : Int) > 0) = true := decide_eq_true (by omega)
                      have e1' : decide (0 < (a : Int)) = true := decide_eq_true (by omega)
                      have e1'' : decide (0 < a) = true := decide_eq_true ha0
                      have hti' := hti ha0
                      have htw : IntKind.i64.wrap ((a : Int) - 1) = (t : Int) := by rw [hti', IntKind.wrap_i64]; omega
                      have htv : IntKind.i64.wrap (t : Int) = (t : Int) := by rw [IntKind.wrap_i64]; omega
                      obtain ⟨c0, f0⟩ := LESS.out a b d3 w3 HS4.out t (by omega)
                      obtain ⟨c1, f1⟩ := LESS.out a b d3 w3 HS4.out p (by omega)
                      obtain ⟨x, hx⟩ : ∃ x, x = d3[t]! := ⟨_, rfl⟩
                      obtain ⟨y, hy⟩ : ∃ y, y = d3[p]! := ⟨_, rfl⟩
                      rw [← hx] at c0
                      rw [← hy] at c1
                      obtain ⟨q, hq⟩ : ∃ q, q = ltInt x y := ⟨_, rfl⟩
                      have LXY : Hid (∀ w1, Calls Try.prog 80 #[.int .u32 x, .int .u32 y] w1 fun e w' => e = .returned (.bool q) ∧ w' = w1) := fun w1 => by rw [hq]; exact LS.out _ _ w1
                      have HQ : Hid ((!q) = (decide (a > 0) && !ltInt d3[t]! d3[p]!)) := by unfold Hid; rw [hq, hx, hy, decide_eq_true (show a > 0 from ha0)]; simp
                      have htN : (t : Int) < (N : Int) := by omega
                      have hpN : (p : Int) < (N : Int) := by omega
                      clear hx hy hq ht hti
                      go_wp2_with fail
                      go_quiet (first | (go_at_call 80; exact Calls.quiet_of_same (LXY.out _)))
                      go_wp2_with fail
                      go_meet
                      exact ⟨_, rfl, HQ.out, HS4.out.below (below_drewN (Below.refl _ _) _)⟩
                    · have hz : a = 0 := by omega
                      have e1 : decide ((a : Int) > 0) = false := decide_eq_false (by omega)
                      have e1' : decide (0 < (a : Int)) = false := decide_eq_false (by omega)
                      have e1'' : decide (0 < a) = false := decide_eq_false ha0
                      have HQ : Hid (false = (decide (a > 0) && !ltInt d3[t]! d3[p]!)) := by unfold Hid; rw [decide_eq_false (show ¬ a > 0 from ha0)]; simp
                      clear hz ht hti
                      go_wp2_with fail
                      go_quiet (fail)
                      go_wp2_with fail
                      go_meet
                      exact ⟨_, rfl, HQ.out, HS4.out.below (below_drewN (Below.refl _ _) _)⟩
                  case rest =>
                    obtain ⟨β, rfl, HB, HS5⟩ := hcut
                    clear HS4
                    cases β with
                    | true =>
                      have hb := HB.out.symm
                      rw [ht, Bool.and_eq_true, decide_eq_true_eq] at hb
                      have ha0 := hb.1
                      have hnl : ltInt d3[a - 1]! d3[p]! = false := by simpa using hb.2
                      have HC := Lib.hid (PEQ.out a b p d3 wc HS5.out ha0 hap hpb hbN hnl)
                      clear hb hnl HB ht hti t
                      go_wp2_with fail
                      refine HC.out.mono ?_; rintro e w5 ⟨mid, d4, rfl, hm1, hm2, h1⟩
                      have H1 := Lib.hid h1
                      clear h1 HC
                      go_wp2_with fail
                      go_roundw
                      case rel => exact ⟨mid, b, lim', wb, wp, d4, rfl, rfl, rfl, rfl, rfl, hm2, hbN, by omega, hlim', H1.out⟩
                      case measure => simp [RowKit.intOf]; omega
                    | false =>
                      have HC := Lib.hid (PAR.out a b p d3 wc HS5.out hap hpb hbN)
                      clear HB ht hti t
                      go_wp2_with fail
                      refine HC.out.mono ?_; rintro e w5 ⟨mid, ap, d4, rfl, hm1, hm2, g1, g2, g3, g4, g5, g6, g7⟩
                      have G1 := Lib.hid g1
                      have G3 := Lib.hid g3
                      have G4 := Lib.hid g4
                      have G5 := Lib.hid g5
                      have G6 := Lib.hid g6
                      have G7 := Lib.hid g7
                      obtain ⟨ll, hll⟩ : ∃ x, x = mid - a := ⟨_, rfl⟩
                      obtain ⟨rl, hrl⟩ : ∃ x, x = b - mid := ⟨_, rfl⟩
                      have hlli : (mid : Int) - (a : Int) = (ll : Int) := by omega
                      have hrli : (b : Int) - (mid : Int) = (rl : Int) := by omega
                      obtain ⟨th, hth⟩ : ∃ x, x = l / 8 := ⟨_, rfl⟩
                      have hthi : (l : Int) / 8 = (th : Int) := by omega
                      have htht : Int.tdiv (l : Int) 8 = (th : Int) := by rw [Int.tdiv_eq_ediv_of_nonneg (by omega)]; omega
                      have hnlt : b - a ≤ n := hbn
                      have hthu : (th : Int) ≤ 4194304 := by omega
                      have hllu : (ll : Int) ≤ 4194304 := by omega
                      have hrlu : (rl : Int) ≤ 4194304 := by omega
                      clear g1 g3 g4 g5 g6 g7 HC hth
                      by_cases hlr : ll < rl
                      · have e1 : decide ((ll : Int) < (rl : Int)) = true := decide_eq_true (by omega)
                        have e1' : decide (ll < rl) = true := decide_eq_true hlr
                        have RC := HIH.out (mid - a) (by omega) blk off cap a mid lim' d4 w5 (Nat.le_refl _) G1.out g2 hm1 (by rw [G3.out]; omega) (by rw [G3.out]; omega) G4.out hlim'
                        rw [G3.out] at RC
                        have RCH := Lib.hid RC
                        clear RC hll hrl
                        go_wp2_with fail
                        refine RCH.out.mono ?_; rintro e w4 ⟨rfl, L, l1, l2, l3⟩
                        have H5 := Lib.hid (G6.out L w4 l1 l2 l3)
                        clear l1 l2 l3 RCH
                        go_wp2_with fail
                        go_roundw
                        case rel => exact ⟨mid + 1, b, lim', _, ap, L, by go_num, rfl, rfl, rfl, rfl, by omega, hbN, by omega, hlim', H5.out⟩
                        case measure => simp [RowKit.intOf]; omega
                      · have e1 : decide ((ll : Int) < (rl : Int)) = false := decide_eq_false (by omega)
                        have e1' : decide (ll < rl) = false := decide_eq_false hlr
                        obtain ⟨m1, hm1'⟩ : ∃ x, x = mid + 1 := ⟨_, rfl⟩
                        have hm1i : (mid : Int) + 1 = (m1 : Int) := by omega
                        have RC := HIH.out (b - (mid + 1)) (by omega) blk off cap (mid + 1) b lim' d4 w5 (Nat.le_refl _) G1.out g2 (by omega) (by rw [G3.out]; omega) (by rw [G3.out]; omega) G5.out hlim'
                        rw [G3.out, ← hm1'] at RC
                        rw [← hm1'] at G7
                        have RCH := Lib.hid RC
                        have hm1u : (m1 : Int) ≤ 4194304 := by omega
                        clear RC hll hrl hm1'
                        go_wp2_with fail
                        refine RCH.out.mono ?_; rintro e w4 ⟨rfl, L, l1, l2, l3⟩
                        have H5 := Lib.hid (G7.out L w4 l1 l2 l3)
                        clear l1 l2 l3 RCH
                        go_wp2_with fail
                        go_roundw
                        case rel => exact ⟨a, mid, lim', _, ap, L, rfl, rfl, rfl, rfl, rfl, hm1, by omega, by omega, hlim', H5.out⟩
                        case measure => simp [RowKit.intOf]; omega
              | false =>
                obtain ⟨d3, hd3⟩ : ∃ d3, d3 = d2 := ⟨_, rfl⟩
                rw [← hd3] at HS4
                clear hd3
                obtain ⟨w3, hw3⟩ : ∃ w3, w3 = wc := ⟨_, rfl⟩
                rw [← hw3] at HS4 ⊢
                clear hw3
                go_wp2_with fail
                obtain ⟨t, ht⟩ : ∃ t, t = a - 1 := ⟨_, rfl⟩
                have hti : 0 < a → (a : Int) - 1 = (t : Int) := fun h => by omega
                go_upto_region 17 with fail
                go_cut [87] from 73 to 87 (fun c wx => ∃ β : Bool, c = .bool β ∧ Hid (β = (decide (a > 0) && !ltInt d3[t]! d3[p]!)) ∧ Hid (PdqSt w blk off a0 b0 d a b d3 wx))
                case first =>
                  by_cases ha0 : 0 < a
                  · have e1 : decide ((a : Int) > 0) = true := decide_eq_true (by omega)
                    have e1' : decide (0 < (a : Int)) = true := decide_eq_true (by omega)
                    have e1'' : decide (0 < a) = true := decide_eq_true ha0
                    have hti' := hti ha0
                    have htw : IntKind.i64.wrap ((a : Int) - 1) = (t : Int) := by rw [hti', IntKind.wrap_i64]; omega
                    have htv : IntKind.i64.wrap (t : Int) = (t : Int) := by rw [IntKind.wrap_i64]; omega
                    obtain ⟨c0, f0⟩ := LESS.out a b d3 w3 HS4.out t (by omega)
                    obtain ⟨c1, f1⟩ := LESS.out a b d3 w3 HS4.out p (by omega)
                    obtain ⟨x, hx⟩ : ∃ x, x = d3[t]! := ⟨_, rfl⟩
                    obtain ⟨y, hy⟩ : ∃ y, y = d3[p]! := ⟨_, rfl⟩
                    rw [← hx] at c0
                    rw [← hy] at c1
                    obtain ⟨q, hq⟩ : ∃ q, q = ltInt x y := ⟨_, rfl⟩
                    have LXY : Hid (∀ w1, Calls Try.prog 80 #[.int .u32 x, .int .u32 y] w1 fun e w' => e = .returned (.bool q) ∧ w' = w1) := fun w1 => by rw [hq]; exact LS.out _ _ w1
                    have HQ : Hid ((!q) = (decide (a > 0) && !ltInt d3[t]! d3[p]!)) := by unfold Hid; rw [hq, hx, hy, decide_eq_true (show a > 0 from ha0)]; simp
                    have htN : (t : Int) < (N : Int) := by omega
                    have hpN : (p : Int) < (N : Int) := by omega
                    clear hx hy hq ht hti
                    go_wp2_with fail
                    go_quiet (first | (go_at_call 80; exact Calls.quiet_of_same (LXY.out _)))
                    go_wp2_with fail
                    go_meet
                    exact ⟨_, rfl, HQ.out, HS4.out.below (below_drewN (Below.refl _ _) _)⟩
                  · have hz : a = 0 := by omega
                    have e1 : decide ((a : Int) > 0) = false := decide_eq_false (by omega)
                    have e1' : decide (0 < (a : Int)) = false := decide_eq_false (by omega)
                    have e1'' : decide (0 < a) = false := decide_eq_false ha0
                    have HQ : Hid (false = (decide (a > 0) && !ltInt d3[t]! d3[p]!)) := by unfold Hid; rw [decide_eq_false (show ¬ a > 0 from ha0)]; simp
                    clear hz ht hti
                    go_wp2_with fail
                    go_quiet (fail)
                    go_wp2_with fail
                    go_meet
                    exact ⟨_, rfl, HQ.out, HS4.out.below (below_drewN (Below.refl _ _) _)⟩
                case rest =>
                  obtain ⟨β, rfl, HB, HS5⟩ := hcut
                  clear HS4
                  cases β with
                  | true =>
                    have hb := HB.out.symm
                    rw [ht, Bool.and_eq_true, decide_eq_true_eq] at hb
                    have ha0 := hb.1
                    have hnl : ltInt d3[a - 1]! d3[p]! = false := by simpa using hb.2
                    have HC := Lib.hid (PEQ.out a b p d3 wc HS5.out ha0 hap hpb hbN hnl)
                    clear hb hnl HB ht hti t
                    go_wp2_with fail
                    refine HC.out.mono ?_; rintro e w5 ⟨mid, d4, rfl, hm1, hm2, h1⟩
                    have H1 := Lib.hid h1
                    clear h1 HC
                    go_wp2_with fail
                    go_roundw
                    case rel => exact ⟨mid, b, lim', wb, wp, d4, rfl, rfl, rfl, rfl, rfl, hm2, hbN, by omega, hlim', H1.out⟩
                    case measure => simp [RowKit.intOf]; omega
                  | false =>
                    have HC := Lib.hid (PAR.out a b p d3 wc HS5.out hap hpb hbN)
                    clear HB ht hti t
                    go_wp2_with fail
                    refine HC.out.mono ?_; rintro e w5 ⟨mid, ap, d4, rfl, hm1, hm2, g1, g2, g3, g4, g5, g6, g7⟩
                    have G1 := Lib.hid g1
                    have G3 := Lib.hid g3
                    have G4 := Lib.hid g4
                    have G5 := Lib.hid g5
                    have G6 := Lib.hid g6
                    have G7 := Lib.hid g7
                    obtain ⟨ll, hll⟩ : ∃ x, x = mid - a := ⟨_, rfl⟩
                    obtain ⟨rl, hrl⟩ : ∃ x, x = b - mid := ⟨_, rfl⟩
                    have hlli : (mid : Int) - (a : Int) = (ll : Int) := by omega
                    have hrli : (b : Int) - (mid : Int) = (rl : Int) := by omega
                    obtain ⟨th, hth⟩ : ∃ x, x = l / 8 := ⟨_, rfl⟩
                    have hthi : (l : Int) / 8 = (th : Int) := by omega
                    have htht : Int.tdiv (l : Int) 8 = (th : Int) := by rw [Int.tdiv_eq_ediv_of_nonneg (by omega)]; omega
                    have hnlt : b - a ≤ n := hbn
                    have hthu : (th : Int) ≤ 4194304 := by omega
                    have hllu : (ll : Int) ≤ 4194304 := by omega
                    have hrlu : (rl : Int) ≤ 4194304 := by omega
                    clear g1 g3 g4 g5 g6 g7 HC hth
                    by_cases hlr : ll < rl
                    · have e1 : decide ((ll : Int) < (rl : Int)) = true := decide_eq_true (by omega)
                      have e1' : decide (ll < rl) = true := decide_eq_true hlr
                      have RC := HIH.out (mid - a) (by omega) blk off cap a mid lim' d4 w5 (Nat.le_refl _) G1.out g2 hm1 (by rw [G3.out]; omega) (by rw [G3.out]; omega) G4.out hlim'
                      rw [G3.out] at RC
                      have RCH := Lib.hid RC
                      clear RC hll hrl
                      go_wp2_with fail
                      refine RCH.out.mono ?_; rintro e w4 ⟨rfl, L, l1, l2, l3⟩
                      have H5 := Lib.hid (G6.out L w4 l1 l2 l3)
                      clear l1 l2 l3 RCH
                      go_wp2_with fail
                      go_roundw
                      case rel => exact ⟨mid + 1, b, lim', _, ap, L, by go_num, rfl, rfl, rfl, rfl, by omega, hbN, by omega, hlim', H5.out⟩
                      case measure => simp [RowKit.intOf]; omega
                    · have e1 : decide ((ll : Int) < (rl : Int)) = false := decide_eq_false (by omega)
                      have e1' : decide (ll < rl) = false := decide_eq_false hlr
                      obtain ⟨m1, hm1'⟩ : ∃ x, x = mid + 1 := ⟨_, rfl⟩
                      have hm1i : (mid : Int) + 1 = (m1 : Int) := by omega
                      have RC := HIH.out (b - (mid + 1)) (by omega) blk off cap (mid + 1) b lim' d4 w5 (Nat.le_refl _) G1.out g2 (by omega) (by rw [G3.out]; omega) (by rw [G3.out]; omega) G5.out hlim'
                      rw [G3.out, ← hm1'] at RC
                      rw [← hm1'] at G7
                      have RCH := Lib.hid RC
                      have hm1u : (m1 : Int) ≤ 4194304 := by omega
                      clear RC hll hrl hm1'
                      go_wp2_with fail
                      refine RCH.out.mono ?_; rintro e w4 ⟨rfl, L, l1, l2, l3⟩
                      have H5 := Lib.hid (G7.out L w4 l1 l2 l3)
                      clear l1 l2 l3 RCH
                      go_wp2_with fail
                      go_roundw
                      case rel => exact ⟨a, mid, lim', _, ap, L, rfl, rfl, rfl, rfl, rfl, hm1, by omega, by omega, hlim', H5.out⟩
                      case measure => simp [RowKit.intOf]; omega
theorem pdq_all : ∀ n, PdqAt n := by
  intro n
  induction n using Nat.strongRecOn with
  | ind n ih => exact pdq_step n ih
/-- Out of the sorted row of numbers the row that is owned (new blocks may have come). -/
theorem sorted_ownG {w w' : World} {base g cap : Nat} {cur : Array Value} {l : List Nat} {d' : Array Int} (hbase : base ≤ g) (hb : w.heap[g]? = some (.cells cur 23 (0, 0))) (hc : l.length ≤ cap) (hcm : cap ≤ maxLen) (hs : cur.size = cap * 1)
    (hS : SoG w g 0 d' w') (hP : PermIn 0 l.length (l.map fun x : Nat => (x : Int)).toArray d') (hO : SortedIn ltInt 0 l.length d') :
    (∃ ys : List Nat, ys.Perm l ∧ ys.Pairwise (· ≤ ·) ∧ UOwn w' base (.slice (some ⟨g, 0, none⟩) l.length cap) ys) := by
  have h1 := sorted_own (w := w) (w' := putRow uE (Sort.ahead w 0) g 0 d') hbase hb hc hcm hs ⟨0, rfl⟩ hP hO
  obtain ⟨ys, p1, p2, p3, p4⟩ := h1
  refine ⟨ys, p1, p2, p3, ?_⟩
  rcases p4 with hn | ⟨g', cap', cur', e, hb', hg, rest⟩
  · obtain ⟨e1, _⟩ := hn
    cases e1
  · injection e with e1 e2 e3
    injection e1 with e1
    injection e1 with e1 _ _
    subst e1
    have h2 : (putRow uE (Sort.ahead w 0) g 0 d').heap[g]? = some (.cells (putCells uE 0 d' cur) 23 (0, 0)) := by
      simp [putRow, mapBlock, Sort.ahead, Array.getElem?_modify, hb, onCells]
    rw [h2] at hg
    exact .inr ⟨g, cap', cur', by rw [e2, e3], hb', by rw [hS.at_ _ _ _ hb]; exact hg, rest⟩
theorem sog_grown {w w' : World} {g off : Nat} {d' : Array Int} (h : SoG w g off d' w') : w.grownBy w' (some g) :=
  ⟨h.chg.os, h.chg.tape, h.chg.output, h.chg.size, fun k hk hne => h.chg.block k hk (fun e => hne (by rw [e]))⟩
set_option maxRecDepth 100000 in
set_option maxHeartbeats 4000000 in
theorem sort_all : SortU 4194304 := by
  intro base v l w hl ho
  by_cases h12 : l.length ≤ 12
  · exact sort12 base v l w h12 ho
  obtain ⟨hlen, ⟨rfl, h0⟩ | ⟨g, cap, cur, rfl, hbase, hb, hc, hcm, hs, ht⟩⟩ := ho
  · omega
  · have hH := holds_own hb hc hs ht
    have hsz : (l.map fun x : Nat => (x : Int)).toArray.size = l.length := by simp
    have PQ := Lib.hid (fun lim (hlim : lim ≤ 64) => pdq_all l.length g 0 cap 0 l.length lim _ w (by omega) hH (Array.getElem?_eq_some_iff.1 hb).1 (Nat.zero_le _) (by rw [hsz]; exact Nat.le_refl _) (by rw [hsz]; exact hl) (.inl rfl) hlim)
    have BL := Lib.hid (Try.bits_Len (l.length : Int) w (by omega) (by omega))
    have hbl : Lib.bitLen l.length ≤ 64 := by
      obtain ⟨p1, p2⟩ := bl_pow l.length (by omega) (by omega)
      rcases Nat.lt_or_ge 64 (Lib.bitLen l.length) with h | h
      · have := Nat.pow_le_pow_right (n := 2) (by omega) h
        omega
      · exact h
    have HEND : Hid (∀ w' d', SoG w g 0 d' w' → PermIn 0 l.length (l.map fun x : Nat => (x : Int)).toArray d' → SortedIn ltInt 0 l.length d' → SortedTo w base (.slice (some ⟨g, 0, none⟩) l.length cap) l (.returned (.tuple #[])) w') := fun w' d' h1 h2 h3 =>
      ⟨rfl, sorted_ownG hbase hb hc hcm hs h1 h2 h3, sog_grown h1⟩
    rw [show ((l.length : Int)).toNat = l.length by omega] at BL
    obtain ⟨k, hk⟩ : ∃ k, k = Lib.bitLen l.length := ⟨_, rfl⟩
    rw [← hk] at BL hbl
    rw [hsz] at PQ
    obtain ⟨N, hN⟩ : ∃ N, N = l.length := ⟨_, rfl⟩
    rw [← hN] at PQ BL HEND hl ⊢
    have hcv : IntKind.u64.wrap (N : Int) = (N : Int) := by rw [IntKind.wrap_u64]; omega
    clear hH hb hc hs ht hlen hN hcm hbase hk hsz h12
    go_enter Try.func61, Try.ntmps61
    go_wp2_with fail
    refine BL.out.mono ?_; rintro e w1 ⟨rfl, hw⟩
    subst hw
    go_wp2_with fail
    refine (PQ.out k hbl).mono ?_; rintro e w1 ⟨rfl, d', h1, h2, h3⟩
    go_wp2_with fail
    go_returns
    exact HEND.out _ d' h1 h2 h3
end

end Go.Proofs.Ytfabjlhepadkpaa
