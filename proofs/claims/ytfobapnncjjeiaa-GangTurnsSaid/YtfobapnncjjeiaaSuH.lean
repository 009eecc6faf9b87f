/-
  Sorting rows of uint32: partialInsertionSort.
-/
import Derived.Test.YtfobapnncjjeiaaSuC
import Derived.Sort.LotA
namespace Go.Proofs.Ytfobapnncjjeiaa
open Go Go.RowKit Go.Lib Go.Sort
set_option linter.unusedVariables false

set_option maxRecDepth 100000 in
set_option maxHeartbeats 8000000 in
theorem partialU_any (blk off cap a b : Nat) (d : Array Int) (w : World) (hH : Holds uE w blk off d) (hab : a < b) (hb : b ≤ d.size) (hsz : d.size ≤ 4194304) :
    Calls Try.prog 65 #[.slice (some ⟨blk, off, none⟩) d.size cap, .int .i64 (a : Nat), .int .i64 (b : Nat)] w fun e w' =>
      e = .returned (.bool (partialInsertionSort ltInt d a b).2) ∧ SoG w blk off (partialInsertionSort ltInt d a b).1 w' := by
  have HH := Lib.hid hH
  have LS : Hid (∀ x y w1, Calls Try.prog 66 #[.int .u32 x, .int .u32 y] w1 fun e w' => e = .returned (.bool (ltInt x y)) ∧ w' = w1) := lessU_any
  obtain ⟨R1, hR1⟩ : ∃ R, R = (partialInsertionSort ltInt d a b).1 := ⟨_, rfl⟩
  obtain ⟨R2, hR2⟩ : ∃ R, R = (partialInsertionSort ltInt d a b).2 := ⟨_, rfl⟩
  have HDEF : Hid (partialIns ltInt a b 5 (a + 1) d = (R1, R2)) := by unfold Hid; rw [hR1, hR2]; rfl
  rw [← hR1, ← hR2]
  obtain ⟨N, hN⟩ : ∃ N, N = d.size := ⟨_, rfl⟩
  have HN := Lib.hid hN
  rw [← hN] at hb hsz ⊢
  clear hH hN hR1 hR2
  go_enter Try.func65, Try.ntmps65
  go_wp2_with fail
  go_loopw [7, 8] (fun iv sv wr => ∃ (i0 s k : Nat) (dk : Array Int), iv = .int .i64 (i0 : Nat) ∧ sv = .int .i64 (k : Nat) ∧ k + s = 5 ∧ a < i0 ∧ i0 ≤ b ∧ Hid (SoG w blk off dk wr) ∧ Hid (dk.size = N) ∧ Hid (partialIns ltInt a b s i0 dk = (R1, R2))) (fun iv sv _ => 5 - (RowKit.intOf sv).toNat)
  case atStart => exact ⟨a + 1, 5, 0, d, by go_num, rfl, rfl, by omega, by omega, SoG.self HH.out, HN.out.symm, HDEF.out⟩
  case round =>
    obtain ⟨i0, s, k, dk, rfl, rfl, hks, hai, hib0, HGk, HZk, HLk⟩ := hrel
    cases s with
    | zero =>
      have d1 : decide ((k : Int) < 5) = false := decide_eq_false (by omega)
      have d1' : decide (k < 5) = false := decide_eq_false (by omega)
      have E1 : R1 = dk := (congrArg Prod.fst HLk.out).symm
      have E2 : R2 = false := (congrArg Prod.snd HLk.out).symm
      have HE := Lib.hid (And.intro E1 E2)
      clear E1 E2
      go_wp2_with fail
      go_ret
      exact ⟨by rw [HE.out.2]; rfl, by rw [HE.out.1]; exact HGk.out⟩
    | succ s =>
      have d1 : decide ((k : Int) < 5) = true := decide_eq_true (by omega)
      have d1' : decide (k < 5) = true := decide_eq_true (by omega)
      have HR : Hid ((if scanSorted ltInt dk b i0 = b then (dk, true) else if b - a < 50 then (dk, false) else
        partialIns ltInt a b s (scanSorted ltInt dk b i0) (fixUp ltInt b (scanSorted ltInt dk b i0) (fixDown ltInt a (scanSorted ltInt dk b i0) (swp dk (scanSorted ltInt dk b i0) (scanSorted ltInt dk b i0 - 1))))) = (R1, R2)) := by
        unfold Hid; rw [← partialIns_succ]; exact HLk.out
      obtain ⟨I2, hI2⟩ : ∃ I, I = scanSorted ltInt dk b i0 := ⟨_, rfl⟩
      rw [← hI2] at HR
      have HI2 : Hid (scanSorted ltInt dk b i0 = I2) := hI2.symm
      have HZ := HZk
      clear HLk hI2
      go_wp2_with fail
      go_loopw [7] (fun vv wr => ∃ i : Nat, vv = .int .i64 (i : Nat) ∧ i0 ≤ i ∧ i ≤ b ∧ Hid (SoG w blk off dk wr) ∧ Hid (scanSorted ltInt dk b i = I2)) (fun vv _ => b - (RowKit.intOf vv).toNat)
      case atStart => exact ⟨i0, rfl, by omega, by omega, HGk.out, HI2.out⟩
      case round =>
        obtain ⟨i, rfl, hv1, hv2, HGi, HSi⟩ := hrel
        obtain ⟨t, ht⟩ : ∃ t, t = i - 1 := ⟨_, rfl⟩
        have hti : (i : Int) - 1 = (t : Int) := by omega
        have htw : IntKind.i64.wrap ((i : Int) - 1) = (t : Int) := by rw [hti, IntKind.wrap_i64]; omega
        have htv : IntKind.i64.wrap (t : Int) = (t : Int) := by rw [IntKind.wrap_i64]; omega
        have htlt : t < i := by omega
        go_upto_region 5 with fail
        go_cut [32] from 17 to 32 (fun c wx => ∃ β : Bool, c = .bool β ∧ Hid (β = (decide (i < b) && !ltInt dk[i]! dk[t]!)) ∧ Hid (SoG w blk off dk wx))
        case first =>
          by_cases hle : i < b
          · have e1 : decide ((i : Int) < (b : Int)) = true := decide_eq_true (by omega)
            have e1' : decide (i < b) = true := decide_eq_true hle
            have hiN : (i : Int) < (N : Int) := by omega
            have hjN : (t : Int) < (N : Int) := by omega
            obtain ⟨c0, f0⟩ := HGi.out.cell HH.out (HZ.out.trans HN.out) (j := i) (by have := HN.out; omega)
            obtain ⟨c1, f1⟩ := HGi.out.cell HH.out (HZ.out.trans HN.out) (j := t) (by have := HN.out; omega)
            obtain ⟨x, hx⟩ : ∃ x, x = dk[i]! := ⟨_, rfl⟩
            obtain ⟨y, hy⟩ : ∃ y, y = dk[t]! := ⟨_, rfl⟩
            rw [← hx] at c0
            rw [← hy] at c1
            obtain ⟨q, hq⟩ : ∃ q, q = ltInt x y := ⟨_, rfl⟩
            have LXY : Hid (∀ w1, Calls Try.prog 66 #[.int .u32 x, .int .u32 y] w1 fun e w' => e = .returned (.bool q) ∧ w' = w1) := fun w1 => by rw [hq]; exact LS.out _ _ w1
            have HQ : Hid (q = ltInt dk[i]! dk[t]!) := by unfold Hid; rw [hq, hx, hy]
            clear hq hx hy
            have HQ2 : Hid ((!q) = (decide (i < b) && !ltInt dk[i]! dk[t]!)) := by unfold Hid; rw [e1', HQ.out]; simp
            clear HSi ht
            go_wp2_with fail
            go_quiet (first | (go_at_call 66; exact Calls.quiet_of_same (LXY.out _)))
            go_wp2_with fail
            go_meet
            exact ⟨_, rfl, HQ2.out, HGi.out.drewN _⟩
          · have e1 : decide ((i : Int) < (b : Int)) = false := decide_eq_false (by omega)
            have e1' : decide (i < b) = false := decide_eq_false hle
            have HQ2 : Hid (false = (decide (i < b) && !ltInt dk[i]! dk[t]!)) := by unfold Hid; rw [e1']; simp
            clear HSi ht
            go_wp2_with fail
            go_quiet (fail)
            go_wp2_with fail
            go_meet
            exact ⟨_, rfl, HQ2.out, HGi.out.drewN _⟩
        case rest =>
          obtain ⟨β, rfl, HB, HGx⟩ := hcut
          cases β with
          | true =>
            have hb := HB.out.symm
            rw [ht, Bool.and_eq_true, decide_eq_true_eq] at hb
            have hle := hb.1
            have HS2 : Hid (scanSorted ltInt dk b (i + 1) = I2) := by
              unfold Hid; rw [← HSi.out]; conv => rhs; unfold scanSorted
              rw [if_pos (by rw [Bool.and_eq_true, decide_eq_true_eq]; exact hb)]
            clear hb HB HSi ht htv htw hti
            go_wp2_with fail
            go_roundw
            case rel => exact ⟨i + 1, by go_num, by omega, by omega, HGx.out, HS2.out⟩
            case measure => simp [RowKit.intOf]; omega
          | false =>
            have he : I2 = i := by
              have hb := HB.out.symm
              rw [ht] at hb
              rw [← HSi.out]; conv => lhs; unfold scanSorted
              rw [if_neg (by rw [hb]; simp)]
            replace he := he.symm
            subst he
            clear HB HSi ht htv htw hti htlt t
            have HG := HGx
            clear HGi HGx
            by_cases hib : i = b
            · have t1 : ((i : Int) == (b : Int)) = true := by simp; omega
              have t1' : (i == b) = true := by simp; omega
              have HF : Hid ((R1, R2) = (dk, true)) := by unfold Hid; rw [← HR.out, if_pos hib]
              have Hib := Lib.hid hib
              clear hib HR
              go_wp2_with fail
              go_ret
              have E1 : R1 = dk := congrArg Prod.fst HF.out
              have E2 : R2 = true := congrArg Prod.snd HF.out
              exact ⟨by rw [E2]; rfl, by rw [E1]; exact HG.out⟩
            · have t1 : ((i : Int) == (b : Int)) = false := by simp; omega
              have t1' : (i == b) = false := by simp; omega
              obtain ⟨l, hl⟩ : ∃ l, l = b - a := ⟨_, rfl⟩
              have hli : (b : Int) - (a : Int) = (l : Int) := by omega
              by_cases h50 : b - a < 50
              · have t2 : decide ((l : Int) < 50) = true := decide_eq_true (by omega)
                have t2' : decide (l < 50) = true := decide_eq_true (by omega)
                have HF : Hid ((R1, R2) = (dk, false)) := by unfold Hid; rw [← HR.out, if_neg hib, if_pos h50]
                clear HR hl
                go_wp2_with fail
                go_ret
                have E1 : R1 = dk := congrArg Prod.fst HF.out
                have E2 : R2 = false := congrArg Prod.snd HF.out
                exact ⟨by rw [E2]; rfl, by rw [E1]; exact HG.out⟩
              · have t2 : decide ((l : Int) < 50) = false := decide_eq_false (by omega)
                have t2' : decide (l < 50) = false := decide_eq_false (by omega)
                obtain ⟨t, ht⟩ : ∃ t, t = i - 1 := ⟨_, rfl⟩
                have hti : (i : Int) - 1 = (t : Int) := by omega
                have htw : IntKind.i64.wrap ((i : Int) - 1) = (t : Int) := by rw [hti, IntKind.wrap_i64]; omega
                have htv : IntKind.i64.wrap (t : Int) = (t : Int) := by rw [IntKind.wrap_i64]; omega
                have htlt : t < i := by omega
                have hibb : i < b := by omega
                obtain ⟨ds, hds⟩ : ∃ ds, ds = swp dk i t := ⟨_, rfl⟩
                obtain ⟨D1, hD1⟩ : ∃ D, D = fixDown ltInt a i ds := ⟨_, rfl⟩
                obtain ⟨D2, hD2⟩ : ∃ D, D = fixUp ltInt b i D1 := ⟨_, rfl⟩
                have HF : Hid (partialIns ltInt a b s i D2 = (R1, R2)) := by unfold Hid; rw [← HR.out, if_neg hib, if_neg h50, hD2, hD1, hds, ht]
                have HDa : Hid (2 ≤ i - a → shiftDown ltInt t ds = D1) := fun h => by rw [hD1]; unfold fixDown; rw [if_pos h, ht]
                have HDb : Hid (¬ 2 ≤ i - a → ds = D1) := fun h => by rw [hD1]; unfold fixDown; rw [if_neg h]
                have HUa : Hid (2 ≤ b - i → shiftUp ltInt b (i + 1) D1 = D2) := fun h => by rw [hD2]; unfold fixUp; rw [if_pos h]
                have HUb : Hid (¬ 2 ≤ b - i → D1 = D2) := fun h => by rw [hD2]; unfold fixUp; rw [if_neg h]
                have hml : (l : Int) ≤ 4194304 := by omega
                clear HR hl hD1 hD2 hib h50 ht
                have hiN : (i : Int) < (N : Int) := by omega
                have hjN : (t : Int) < (N : Int) := by omega
                obtain ⟨c0, f0⟩ := HG.out.cell HH.out (HZk.out.trans HN.out) (j := i) (by have := HN.out; omega)
                obtain ⟨c1, f1⟩ := HG.out.cell HH.out (HZk.out.trans HN.out) (j := t) (by have := HN.out; omega)
                obtain ⟨z, cz, fz⟩ := set_cell (HG.out.holds HH.out (HZk.out.trans HN.out)) (i := i) (k := t) (by have := HZk.out; omega) (by have := HZk.out; omega) dk[t]!
                have HS := Lib.hid (HG.out.swap HH.out (HZk.out.trans HN.out) (j := i) (k := t) (by have := HZk.out; omega) (by have := HZk.out; omega))
                have HZd : Hid ((swp dk i t).size = N) := by unfold Hid; rw [swp_sz]; exact HZk.out
                obtain ⟨u, hu⟩ : ∃ x, x = dk[i]! := ⟨_, rfl⟩
                obtain ⟨v, hv⟩ : ∃ y, y = dk[t]! := ⟨_, rfl⟩
                rw [← hu, ← hv] at HS
                rw [← hu] at c0
                rw [← hv] at c1
                rw [← hv] at cz fz
                clear hu hv
                rw [← hds] at HS HZd
                clear hds HG
                go_wp2_with fail
                go_region
                have HSd := Lib.hid (HS.out.drewN 1)
                obtain ⟨W0, hW0⟩ : ∃ W, W = ((wc.setCell ⟨blk, off + i, none⟩ (.int .u32 v)).setCell ⟨blk, off + t, none⟩ (.int .u32 u)).drew := ⟨_, rfl⟩
                have HSW0 : Hid (SoG w blk off ds W0) := by unfold Hid; rw [hW0]; exact HSd.out
                rw [← hW0]
                clear HS HSd c0 c1 f0 f1 cz fz hiN hjN hW0
                obtain ⟨m, hm⟩ : ∃ m, m = i - a := ⟨_, rfl⟩
                have hmi : (i : Int) - (a : Int) = (m : Int) := by omega
                have hmu : (m : Int) ≤ 4194304 := by omega
                rw [← hm] at HDa HDb
                obtain ⟨n, hn⟩ : ∃ m, m = b - i := ⟨_, rfl⟩
                have hni : (b : Int) - (i : Int) = (n : Int) := by omega
                have hnu : (n : Int) ≤ 4194304 := by omega
                rw [← hn] at HUa HUb
                clear hm hn t1 t1' t2 t2'
                go_upto_if 61 with fail
                go_cut [] (fun wx => Hid (SoG w blk off D1 wx) ∧ Hid (D1.size = N))
                case first =>
                  clear HUa HUb HF
                  by_cases h2 : 2 ≤ m
                  · have t3 : decide ((m : Int) ≥ 2) = true := decide_eq_true (by omega)
                    have t3' : decide (2 ≤ (m : Int)) = true := decide_eq_true (by omega)
                    have t3'' : decide (2 ≤ m) = true := decide_eq_true h2
                    have HD1 := Lib.hid (HDa.out h2)
                    clear HDa HDb
                    go_wp2_with fail
                    go_loopw [9] (fun vv wr => ∃ (j : Nat) (dj : Array Int), vv = .int .i64 (j : Nat) ∧ j < i ∧ Hid (SoG w blk off dj wr) ∧ Hid (dj.size = N) ∧ Hid (shiftDown ltInt j dj = D1)) (fun vv _ => (RowKit.intOf vv).toNat)
                    case atStart => exact ⟨t, ds, by first | rfl | go_num, htlt, HSW0.out, HZd.out, HD1.out⟩
                    case round =>
                      obtain ⟨j, dj, rfl, hji, HGj, HZ, HSj⟩ := hrel
                      cases j with
                      | zero =>
                        have e1 : decide (((0 : Nat) : Int) ≥ 1) = false := by decide
                        have HE : Hid (dj = D1) := HSj.out
                        go_wp2_with fail
                        go_meet
                        rw [← HE.out]; exact ⟨HGj.out, HZ.out⟩
                      | succ j =>
                        obtain ⟨J, hJ⟩ : ∃ J, J = j + 1 := ⟨_, rfl⟩
                        have HSt : Hid ((if !ltInt dj[J]! dj[j]! then dj else shiftDown ltInt j (swp dj J j)) = D1) := by unfold Hid; rw [hJ]; exact HSj.out
                        rw [← hJ] at hji ⊢
                        have e1 : decide ((J : Int) ≥ 1) = true := decide_eq_true (by omega)
                        have e1' : decide (1 ≤ (J : Int)) = true := decide_eq_true (by omega)
                        have e1'' : decide (1 ≤ J) = true := decide_eq_true (by omega)
                        have hjJ : j < J := by omega
                        have hji2 : (J : Int) - 1 = (j : Int) := by omega
                        have hjw : IntKind.i64.wrap ((J : Int) - 1) = (j : Int) := by rw [hji2, IntKind.wrap_i64]; omega
                        have hjv : IntKind.i64.wrap (j : Int) = (j : Int) := by rw [IntKind.wrap_i64]; omega
                        clear hJ HSj
                        have hiN : (J : Int) < (N : Int) := by omega
                        have hjN : (j : Int) < (N : Int) := by omega
                        obtain ⟨c0, f0⟩ := HGj.out.cell HH.out (HZ.out.trans HN.out) (j := J) (by have := HN.out; omega)
                        obtain ⟨c1, f1⟩ := HGj.out.cell HH.out (HZ.out.trans HN.out) (j := j) (by have := HN.out; omega)
                        obtain ⟨x, hx⟩ : ∃ x, x = dj[J]! := ⟨_, rfl⟩
                        obtain ⟨y, hy⟩ : ∃ y, y = dj[j]! := ⟨_, rfl⟩
                        rw [← hx] at c0
                        rw [← hy] at c1
                        obtain ⟨q, hq⟩ : ∃ q, q = ltInt x y := ⟨_, rfl⟩
                        have LXY : Hid (∀ w1, Calls Try.prog 66 #[.int .u32 x, .int .u32 y] w1 fun e w' => e = .returned (.bool q) ∧ w' = w1) := fun w1 => by rw [hq]; exact LS.out _ _ w1
                        have HQ : Hid (q = ltInt dj[J]! dj[j]!) := by unfold Hid; rw [hq, hx, hy]
                        clear hq hx hy
                        have HSWq := Lib.hid (fun n => (HGj.out.drewN n).swap HH.out (HZ.out.trans HN.out) (j := J) (k := j) (by have := HZ.out; omega) (by have := HZ.out; omega))
                        have HZW : Hid ((swp dj J j).size = N) := by unfold Hid; rw [swp_sz]; exact HZ.out
                        have HXY : Hid (x = dj[J]! ∧ y = dj[j]!) := ⟨by have := (HGj.out.cell HH.out (HZ.out.trans HN.out) (j := J) (by have := HN.out; omega)).1; rw [c0] at this; injection this with h; injection h, by have := (HGj.out.cell HH.out (HZ.out.trans HN.out) (j := j) (by have := HN.out; omega)).1; rw [c1] at this; injection this with h; injection h⟩
                        rw [← HXY.out.1, ← HXY.out.2] at HSWq
                        clear HXY
                        go_wp2_with fail
                        go_quiet (first | (go_at_call 66; exact Calls.quiet_of_same (LXY.out _)))
                        obtain ⟨W, hW⟩ : ∃ W, W = wr.drewN nq := ⟨_, rfl⟩
                        have c0' : W.cell? ⟨blk, off + J, none⟩ = some (.int .u32 x) := by rw [hW]; exact c0
                        have f0' : W.frozen? ⟨blk, off + J, none⟩ = false := by rw [hW]; exact f0
                        have c1' : W.cell? ⟨blk, off + j, none⟩ = some (.int .u32 y) := by rw [hW]; exact c1
                        have f1' : W.frozen? ⟨blk, off + j, none⟩ = false := by rw [hW]; exact f1
                        have HSW := Lib.hid (HSWq.out nq)
                        have HGW : Hid (SoG w blk off dj W) := by unfold Hid; rw [hW]; exact HGj.out.drewN _
                        rw [← hW] at HSW ⊢
                        clear hW c0 c1 f0 f1 HSWq HGj
                        cases q with
                        | true =>
                            have HE : Hid (shiftDown ltInt j (swp dj J j) = D1) := by unfold Hid; rw [← HSt.out, ← HQ.out]; rfl
                            clear HQ HSt LXY
                            go_wp2_with fail
                            go_region
                            go_wp2_with fail
                            go_roundw
                            case rel => exact ⟨j, _, by go_num, by omega, HSW.out.drewN _, HZW.out, HE.out⟩
                            case measure => simp [RowKit.intOf]; try omega
                        | false =>
                            have HE : Hid (dj = D1) := by unfold Hid; rw [← HSt.out, ← HQ.out]; rfl
                            clear HQ HSt LXY HSW HZW
                            go_wp2_with fail
                            go_meet
                            rw [← HE.out]; exact ⟨HGW.out, HZ.out⟩
                  · have t3 : decide ((m : Int) ≥ 2) = false := decide_eq_false (by omega)
                    have t3' : decide (2 ≤ (m : Int)) = false := decide_eq_false (by omega)
                    have t3'' : decide (2 ≤ m) = false := decide_eq_false h2
                    have HD1 := Lib.hid (HDb.out h2)
                    go_wp2_with fail
                    go_meet
                    rw [← HD1.out]
                    exact ⟨HSW0.out, HZd.out⟩
                case rest =>
                  obtain ⟨HGD, HZD⟩ := hcut
                  clear HDa HDb HSW0 HZd
                  by_cases h2 : 2 ≤ n
                  · have t3 : decide ((n : Int) ≥ 2) = true := decide_eq_true (by omega)
                    have t3' : decide (2 ≤ (n : Int)) = true := decide_eq_true (by omega)
                    have t3'' : decide (2 ≤ n) = true := decide_eq_true h2
                    have HD2 := Lib.hid (HUa.out h2)
                    clear HUa HUb
                    go_wp2_with fail
                    go_loopw [10] (fun vv wr => ∃ (J : Nat) (dj : Array Int), vv = .int .i64 (J : Nat) ∧ i < J ∧ J ≤ b ∧ Hid (SoG w blk off dj wr) ∧ Hid (dj.size = N) ∧ Hid (shiftUp ltInt b J dj = D2)) (fun vv _ => b - (RowKit.intOf vv).toNat)
                    case atStart => exact ⟨i + 1, D1, by first | rfl | go_num, by omega, by omega, HGD.out, HZD.out, HD2.out⟩
                    case round =>
                      obtain ⟨J, dj, rfl, hiJ, hJb, HGj, HZ, HSj⟩ := hrel
                      by_cases hlt : J < b
                      · have e1 : decide ((J : Int) < (b : Int)) = true := decide_eq_true (by omega)
                        have e1' : decide (J < b) = true := decide_eq_true hlt
                        obtain ⟨j, hj⟩ : ∃ j, j = J - 1 := ⟨_, rfl⟩
                        have HSt : Hid ((if !ltInt dj[J]! dj[j]! then dj else shiftUp ltInt b (J + 1) (swp dj J j)) = D2) := by
                          unfold Hid; rw [← HSj.out, hj]; conv => rhs; unfold shiftUp
                          rw [if_pos hlt]
                        have hjJ : j < J := by omega
                        have hji2 : (J : Int) - 1 = (j : Int) := by omega
                        have hjw : IntKind.i64.wrap ((J : Int) - 1) = (j : Int) := by rw [hji2, IntKind.wrap_i64]; omega
                        have hjv : IntKind.i64.wrap (j : Int) = (j : Int) := by rw [IntKind.wrap_i64]; omega
                        clear hj HSj
                        have hiN : (J : Int) < (N : Int) := by omega
                        have hjN : (j : Int) < (N : Int) := by omega
                        obtain ⟨c0, f0⟩ := HGj.out.cell HH.out (HZ.out.trans HN.out) (j := J) (by have := HN.out; omega)
                        obtain ⟨c1, f1⟩ := HGj.out.cell HH.out (HZ.out.trans HN.out) (j := j) (by have := HN.out; omega)
                        obtain ⟨x, hx⟩ : ∃ x, x = dj[J]! := ⟨_, rfl⟩
                        obtain ⟨y, hy⟩ : ∃ y, y = dj[j]! := ⟨_, rfl⟩
                        rw [← hx] at c0
                        rw [← hy] at c1
                        obtain ⟨q, hq⟩ : ∃ q, q = ltInt x y := ⟨_, rfl⟩
                        have LXY : Hid (∀ w1, Calls Try.prog 66 #[.int .u32 x, .int .u32 y] w1 fun e w' => e = .returned (.bool q) ∧ w' = w1) := fun w1 => by rw [hq]; exact LS.out _ _ w1
                        have HQ : Hid (q = ltInt dj[J]! dj[j]!) := by unfold Hid; rw [hq, hx, hy]
                        clear hq hx hy
                        have HSWq := Lib.hid (fun n => (HGj.out.drewN n).swap HH.out (HZ.out.trans HN.out) (j := J) (k := j) (by have := HZ.out; omega) (by have := HZ.out; omega))
                        have HZW : Hid ((swp dj J j).size = N) := by unfold Hid; rw [swp_sz]; exact HZ.out
                        have HXY : Hid (x = dj[J]! ∧ y = dj[j]!) := ⟨by have := (HGj.out.cell HH.out (HZ.out.trans HN.out) (j := J) (by have := HN.out; omega)).1; rw [c0] at this; injection this with h; injection h, by have := (HGj.out.cell HH.out (HZ.out.trans HN.out) (j := j) (by have := HN.out; omega)).1; rw [c1] at this; injection this with h; injection h⟩
                        rw [← HXY.out.1, ← HXY.out.2] at HSWq
                        clear HXY
                        go_wp2_with fail
                        go_quiet (first | (go_at_call 66; exact Calls.quiet_of_same (LXY.out _)))
                        obtain ⟨W, hW⟩ : ∃ W, W = wr.drewN nq := ⟨_, rfl⟩
                        have c0' : W.cell? ⟨blk, off + J, none⟩ = some (.int .u32 x) := by rw [hW]; exact c0
                        have f0' : W.frozen? ⟨blk, off + J, none⟩ = false := by rw [hW]; exact f0
                        have c1' : W.cell? ⟨blk, off + j, none⟩ = some (.int .u32 y) := by rw [hW]; exact c1
                        have f1' : W.frozen? ⟨blk, off + j, none⟩ = false := by rw [hW]; exact f1
                        have HSW := Lib.hid (HSWq.out nq)
                        have HGW : Hid (SoG w blk off dj W) := by unfold Hid; rw [hW]; exact HGj.out.drewN _
                        rw [← hW] at HSW ⊢
                        clear hW c0 c1 f0 f1 HSWq HGj
                        cases q with
                        | true =>
                            have HE : Hid (shiftUp ltInt b (J + 1) (swp dj J j) = D2) := by unfold Hid; rw [← HSt.out, ← HQ.out]; rfl
                            clear HQ HSt LXY
                            go_wp2_with fail
                            go_region
                            go_wp2_with fail
                            go_roundw
                            case rel => exact ⟨J + 1, _, by go_num, by omega, by omega, HSW.out.drewN _, HZW.out, HE.out⟩
                            case measure => simp [RowKit.intOf]; omega
                        | false =>
                            have HE : Hid (dj = D2) := by unfold Hid; rw [← HSt.out, ← HQ.out]; rfl
                            clear HQ HSt LXY HSW HZW
                            go_wp2_with fail
                            go_roundw
                            case rel => exact ⟨i, s, k + 1, D2, rfl, by go_num, by omega, by omega, by omega, by rw [← HE.out]; exact HGW.out, by rw [← HE.out]; exact HZ.out, HF.out⟩
                            case measure => simp [RowKit.intOf]; omega
                      · have e1 : decide ((J : Int) < (b : Int)) = false := decide_eq_false (by omega)
                        have e1' : decide (J < b) = false := decide_eq_false hlt
                        have HE : Hid (dj = D2) := by unfold Hid; rw [← HSj.out]; unfold shiftUp; rw [if_neg hlt]
                        clear HSj
                        go_wp2_with fail
                        go_roundw
                        case rel => exact ⟨i, s, k + 1, D2, rfl, by go_num, by omega, by omega, by omega, by rw [← HE.out]; exact HGj.out, by rw [← HE.out]; exact HZ.out, HF.out⟩
                        case measure => simp [RowKit.intOf]; omega
                  · have t3 : decide ((n : Int) ≥ 2) = false := decide_eq_false (by omega)
                    have t3' : decide (2 ≤ (n : Int)) = false := decide_eq_false (by omega)
                    have t3'' : decide (2 ≤ n) = false := decide_eq_false h2
                    have HD2 := Lib.hid (HUb.out h2)
                    go_wp2_with fail
                    go_roundw
                    case rel => exact ⟨i, s, k + 1, D2, rfl, by go_num, by omega, by omega, by omega, by rw [← HD2.out]; exact HGD.out, by rw [← HD2.out]; exact HZD.out, HF.out⟩
                    case measure => simp [RowKit.intOf]; omega
end Go.Proofs.Ytfobapnncjjeiaa
