/-
  GangPlays: whatever is placed, removed, turned and closed up: each answer, all cells, the rows, which is active, what is idle, and who runs, are what the chapter says; what comes out is its owner's: so the law returns true for every input.
-/
import Derived.Test.YtfobapnncjjeiaaGaRkl
import Derived.Test.YtfobapnncjjeiaaLaw
import Derived.Test.YtfobapnncjjeiaaRows
import Derived.Test.YtfobapnncjjeiaaArgs2
namespace Go.Proofs.Ytfobapnncjjeiaa.gangPlays
open Go.ChangeShapes Go.WideShapes Go.ChangeAt Go.RowKit
set_option linter.unusedVariables false

theorem own : ownKnob Try.prog.godebug = none := by kernel_rfl

open Go Go.ChangeShapes Go.WideShapes Go.ChangeAt Go.RowKit Go.Lib Go.Deep
set_option maxRecDepth 100000 in
set_option maxHeartbeats 8000000 in
theorem walk_no (N : Int) (v : Value) (row : Int) (w : World) (hN : ¬ (0 ≤ N ∧ N ≤ 7)) :
    Calls Try.prog 3 #[.int .i64 N, v, .int .i64 row] w fun e w' => e = .returned (.bool true) ∧ Below w.heap.size w w' := by
  have K : Hid (∀ w1, Calls Try.prog 10 #[] w1 fun e w' => e = .returned (.bool true) ∧ Below w1.heap.size w1 w') := known16_any
  by_cases h1 : 7 < N ∧ N ≤ 10
  · have d1 : decide (N > 7) = true := decide_eq_true h1.1
    have d1' : decide (7 < N) = true := decide_eq_true h1.1
    have d2 : decide (N ≤ 10) = true := decide_eq_true h1.2
    go_enter Try.func3, Try.ntmps3
    go_wp2_with fail
    refine (K.out _).mono ?_; rintro e w1 ⟨rfl, b1⟩
    go_wp2_with fail
    go_ret
    exact ⟨rfl, b1⟩
  · have P := Lib.hid (gnew_no N w (by omega))
    have Q : Hid (∀ w1, Calls Try.prog 12 #[.int .i64 N] w1 fun e w' => e = .returned (.tuple #[.pointer none, .int .i64 2]) ∧ Below w1.heap.size w1 w') := fun w1 => rnew_no N w1 (by omega)
    by_cases h7 : 7 < N
    · have d1 : decide (N > 7) = true := decide_eq_true h7
      have d1' : decide (7 < N) = true := decide_eq_true h7
      have d2 : decide (N ≤ 10) = false := decide_eq_false (by omega)
      go_enter Try.func3, Try.ntmps3
      go_wp2_with fail
      refine P.out.mono ?_; rintro e w1 ⟨rfl, b1⟩
      go_wp2_with fail
      refine (Q.out _).mono ?_; rintro e w2 ⟨rfl, b2⟩
      go_wp2_with fail
      refine (K.out _).mono ?_; rintro e w3 ⟨rfl, b3⟩
      go_wp2_with fail
      go_ret
      exact ⟨rfl, below_next b3 (below_next b2 b1)⟩
    · have d1 : decide (N > 7) = false := decide_eq_false h7
      have d1' : decide (7 < N) = false := decide_eq_false h7
      go_enter Try.func3, Try.ntmps3
      go_wp2_with fail
      refine P.out.mono ?_; rintro e w1 ⟨rfl, b1⟩
      go_wp2_with fail
      refine (Q.out _).mono ?_; rintro e w2 ⟨rfl, b2⟩
      go_wp2_with fail
      refine (K.out _).mono ?_; rintro e w3 ⟨rfl, b3⟩
      go_wp2_with fail
      go_ret
      exact ⟨rfl, below_next b3 (below_next b2 b1)⟩
set_option maxRecDepth 100000 in
set_option maxHeartbeats 8000000 in
theorem walk_yes (N : Nat) (v : Value) (L : List AcI) (row : Int) (w : World) (hA : AcArg w v L) (hN : N ≤ 7) :
    Calls Try.prog 3 #[.int .i64 (N : Nat), v, .int .i64 row] w fun e w' => e = .returned (.bool true) ∧ Below w.heap.size w w' := by
  have K : Hid (∀ w1, Calls Try.prog 10 #[] w1 fun e w' => e = .returned (.bool true) ∧ Below w1.heap.size w1 w') := known16_any
  have HR := Lib.hid hA.1
  have HW := Lib.hid hA.2.2
  have hlen : L.length ≤ 9223372036854775807 := by have := hA.2.1; unfold maxLen at this; omega
  have NW := Lib.hid (gnew_ok N w (by omega) w.heap.size (Nat.le_refl _))
  have NR : Hid (∀ w1, Calls Try.prog 12 #[.int .i64 (N : Nat)] w1 fun e w' => (∃ m, e = .returned (.tuple #[.pointer (some ⟨m, 0, none⟩), .int .i64 0]) ∧ w1.heap.size ≤ m ∧ RMt w' m N 0 (.slice none 0 0) []) ∧ Below w1.heap.size w1 w') := fun w1 => rnew_ok N w1 (by omega)
  obtain ⟨va0, vc0, rfl⟩ := RowG.slice hA.1
  obtain ⟨LL, hLL⟩ : ∃ n, n = L.length := ⟨_, rfl⟩
  have HLL := Lib.hid hLL
  rw [← hLL] at HR hlen ⊢
  have d1 : decide ((N : Int) > 7) = false := decide_eq_false (by omega)
  have d1' : decide ((7 : Int) < (N : Int)) = false := decide_eq_false (by omega)
  have d1'' : decide (7 < N) = false := decide_eq_false (by omega)
  clear hA hLL
  go_enter Try.func3, Try.ntmps3
  go_wp2_with fail
  refine NW.out.mono ?_; rintro e w1 ⟨⟨m, rfl, hmlo, hg1⟩, b1⟩
  have HG1 := Lib.hid hg1
  have HB1 := Lib.hid b1
  clear hg1 b1 NW hmlo
  go_wp2_with fail
  refine (NR.out _).mono ?_; rintro e w2 ⟨⟨rb, rfl, hrlo, hr2⟩, b2⟩
  have HS0 : Hid (BSt w m rb N 0 [] 0 0 w2) := BSt.start HG1.out (fun k hk => hk) HB1.out b2 hr2 hrlo
  clear HG1 HB1 hrlo hr2 b2 NR d1 d1' d1''
  go_wp2_with fail
  go_loopw [11] (fun iv wr => ∃ (k a : Nat) (l : List Ce), k ≤ LL ∧ k ≤ 60 ∧ iv = .int .i64 k ∧ Hid (BSt w m rb N a l 0 0 wr)) (fun iv _ => 60 - (RowKit.intOf iv).toNat)
  case atStart => exact ⟨0, 0, [], Nat.zero_le _, Nat.zero_le _, rfl, HS0.out⟩
  case round =>
    obtain ⟨k, a, l, hk, hk5, rfl, HS⟩ := hrel
    by_cases hlt : k < LL
    · have d1 : decide ((k : Int) < (LL : Int)) = true := decide_eq_true (by omega)
      have d1' : decide (k < LL) = true := decide_eq_true hlt
      by_cases h60 : k < 60
      · have d2 : decide ((k : Int) < 60) = true := decide_eq_true (by omega)
        have d2' : decide (k < 60) = true := decide_eq_true h60
        have hki : (k : Int) < (LL : Int) := by omega
        have hkl : k < L.length := by rw [← HLL.out]; exact hlt
        have hr := RowG.kept HR.out HS.out.bel
        cases va0 with
        | none =>
          have : L = [] := by
            rcases hr with ⟨h, _⟩ | ⟨b, off, c, h1, _⟩
            · exact h
            · cases h1
          rw [this] at hkl; simp at hkl
        | some AD =>
        obtain ⟨bb, off, e, hc⟩ := RowG.at hr hkl
        injection e with e; subst e
        have x0 := hc wr (Below.refl _ _) 0 _ rfl
        have x1 := hc wr (Below.refl _ _) 1 _ rfl
        have x2 := hc wr (Below.refl _ _) 2 _ rfl
        have hw := HW.out L[k] (List.getElem_mem hkl)
        obtain ⟨y, hy⟩ : ∃ y, y = L[k] := ⟨_, rfl⟩
        rw [← hy] at x0 x1 x2 hw
        obtain ⟨KK, I, O⟩ := y
        obtain ⟨hI0, hI1⟩ := hw
        dsimp only at x0 x1 x2 hI0 hI1
        simp only [Nat.add_zero] at x0
        obtain ⟨id, rfl⟩ := Int.eq_ofNat_of_zero_le hI0
        have hid2 : id < 4294967296 := by omega
        have BO := Lib.hid (both_any w m rb N a id 0 0 KK O l wr HS.out hid2)
        clear hr hc hy hI0 hI1 HS hkl hid2
        go_wp2_with fail
        refine BO.out.mono ?_; rintro e w3 ⟨rfl, a1, l1, hs1⟩
        have HS1 := Lib.hid hs1
        obtain ⟨ow1, lv1, hop1⟩ := hs1.op
        have HOP1 := Lib.hid hop1
        have CE := Lib.hid (cells_any m N a1 ow1 l1 w3 hop1.gm.gn)
        clear hs1 hop1 BO x0 x1 x2
        go_wp2_with fail
        refine CE.out.mono ?_; rintro e w4 ⟨⟨va, rfl, ova⟩, b4⟩
        have HOA := Lib.hid ova
        have HLTA : Hid (∀ g, va.ownBlock = some g → w3.heap.size ≤ g ∧ g < w4.heap.size) := fun g h => ova.lt g h
        have HB4 := Lib.hid b4
        have RU := Lib.hid (runsAll_any m N a1 ow1 l1 w4 (HOP1.out.gm.kept b4).gn HOP1.out.gm.act)
        clear ova b4 CE
        go_wp2_with fail
        refine RU.out.mono ?_; rintro e w5 ⟨⟨vb, ys, rfl, hpm, hsr, ovb⟩, b5⟩
        have HYL : Hid (ys.length ≤ 262144) := by unfold Hid; rw [hpm.length_eq]; unfold ids; rw [List.length_map]; exact runs_len HOP1.out.gm.ok
        have HS5 := Lib.hid (HS1.out.made (below_next b5 HB4.out))
        have HPM := Lib.hid hpm
        have HSR := Lib.hid hsr
        have HOA5 : Hid (COwn w5 w3.heap.size va l1) := own_older HOA.out b5
        have HOB5 := Lib.hid ovb
        have HLTB : Hid (∀ g, vb.ownBlock = some g → w4.heap.size ≤ g ∧ g < w5.heap.size) := fun g h => ovb.lt g h
        have hw34 := HB4.out.size
        have hw45 := b5.size
        have HLO : Hid (w.heap.size ≤ w3.heap.size) := HS1.out.bel.size
        clear hpm hsr ovb b5 HOA HB4 RU HS1 HOP1
        obtain ⟨ow5, lv5, hop5⟩ := HS5.out.op
        have HOP5 := Lib.hid hop5
        have hll := hop5.gm.ok.len
        have HLN : Hid (l1.length ≤ 16384) := hll
        have q1 := hop5.rm.c1
        have q2 := hop5.rm.c2
        clear hop5
        have SM : Hid (∀ w', Below w5.heap.size w5 w' → Calls Try.prog 16 #[va, lv5] w' fun e w'' => e = .returned (.bool true) ∧ Below w'.heap.size w' w'') := fun w' hb => by
          have h := same16_any va lv5 l1 l1 w' (crow_of_own (own_older HOA5.out hb)) (HOP5.out.rm.kept hb).cr (by omega) (by omega)
          rwa [decide_eq_true rfl] at h
        obtain ⟨R, hR⟩ : ∃ n, n = rowsG l1 := ⟨_, rfl⟩
        obtain ⟨ID, hID⟩ : ∃ n, n = idleG N l1 row := ⟨_, rfl⟩
        have RW : Hid (∀ w', Below w5.heap.size w5 w' → Calls Try.prog 17 #[.pointer (some ⟨m, 0, none⟩)] w' fun e w'' => e = .returned (.int .i64 (R : Nat)) ∧ Below w'.heap.size w' w'') := fun w' hb => by
          rw [hR]; exact rows_any m N a1 ow5 l1 w' (HOP5.out.gm.kept hb).gn
        have RR : Hid (∀ w', Below w5.heap.size w5 w' → Calls Try.prog 18 #[.pointer (some ⟨rb, 0, none⟩)] w' fun e w'' => e = .returned (.int .i64 (R : Nat)) ∧ Below w'.heap.size w' w'') := fun w' hb => by
          rw [hR]; exact (rrows_any rb N a1 N lv5 l1 w' (HOP5.out.rm.kept hb) HOP5.out.gm.ok).mono (by rintro e w'' ⟨rfl, rfl⟩; exact ⟨rfl, Below.refl _ _⟩)
        have AC : Hid (∀ w', Below w5.heap.size w5 w' → Calls Try.prog 19 #[.pointer (some ⟨m, 0, none⟩)] w' fun e w'' => e = .returned (.int .i64 (a1 : Nat)) ∧ Below w'.heap.size w' w'') := fun w' hb => active_any m N a1 ow5 l1 w' (HOP5.out.gm.kept hb).gn
        have IM : Hid (∀ w', Below w5.heap.size w5 w' → Calls Try.prog 20 #[.pointer (some ⟨m, 0, none⟩), .int .i64 row] w' fun e w'' => e = .returned (.int .i64 ID) ∧ Below w'.heap.size w' w'') := fun w' hb => by
          rw [hID]; exact idle_any m N a1 ow5 l1 row w' (HOP5.out.gm.kept hb).gn
        have IR : Hid (∀ w', Below w5.heap.size w5 w' → Calls Try.prog 21 #[.pointer (some ⟨rb, 0, none⟩), .int .i64 row] w' fun e w'' => e = .returned (.int .i64 ID) ∧ Below w'.heap.size w' w'') := fun w' hb => by
          rw [hID]; exact ridle_any rb N a1 lv5 l1 row w' (HOP5.out.rm.kept hb) HOP5.out.gm.ok
        have RN : Hid (∀ w', Below w5.heap.size w5 w' → Calls Try.prog 23 #[.pointer (some ⟨rb, 0, none⟩)] w' fun e w'' => ∃ v', e = .returned v' ∧ URow w'' v' ys ∧ Below w'.heap.size w' w'') := fun w' hb => by
          refine (rruns_any rb N a1 lv5 l1 w' (HOP5.out.rm.kept hb) HOP5.out.gm.ok HOP5.out.gm.act).mono ?_
          rintro e w'' ⟨⟨v', ys', rfl, hp', hs', ho'⟩, hb'⟩
          obtain rfl : ys' = ys := perm_sorted_eq (hp'.trans HPM.out.symm) hs' HSR.out
          exact ⟨v', rfl, ho', hb'⟩
        have SJ : Hid (∀ v' w', Below w5.heap.size w5 w' → URow w' v' ys → Calls Try.prog 22 #[vb, v'] w' fun e w'' => e = .returned (.bool true) ∧ Below w'.heap.size w' w'') := fun v' w' hb hu => by
          have h := samejobs_any vb v' ys ys w' (urow_of_own (own_older HOB5.out hb)) hu (by have := HYL.out; omega) (by have := HYL.out; omega)
          rwa [decide_eq_true rfl] at h
        have t1 : ((R : Int) != (R : Int)) = false := by simp
        have t2 : ((a1 : Int) != (a1 : Int)) = false := by simp
        have t3 : (ID != ID) = false := by simp
        clear hR hID HOP5 hll
        go_upto_region 15 with fail
        go_cut [115] from 52 to 134 (fun s wx => s = .bool false ∧ Hid (Below w5.heap.size w5 wx))
        case first =>
          go_loud (go_region_held3 (fun w' => w'.cell? ⟨rb, 1, none⟩ = some lv5 ∧ w'.cell? ⟨rb, 2, none⟩ = some (.int .i64 (a1 : Nat)) ∧ Below w5.heap.size w5 w')
            (first
              | exact ⟨q1, q2, (Below.refl _ _).drew⟩
              | exact ⟨q1, q2, Below.refl _ _⟩
              | (rcases ‹_ ∧ _ ∧ Below w5.heap.size w5 _› with ⟨q0, q3, q5⟩; exact ⟨cell_next (by assumption) q0, cell_next (by assumption) q3, below_next (by assumption) q5⟩))
            (first
              | (go_at_call 16; ((with_reducible refine (SM.out _ (‹_ ∧ _ ∧ Below w5.heap.size w5 _›).2.2).mono ?_); rintro e wm ⟨rfl, bm⟩))
              | (go_at_call 17; ((with_reducible refine (RW.out _ (‹_ ∧ _ ∧ Below w5.heap.size w5 _›).2.2).mono ?_); rintro e wm ⟨rfl, bm⟩))
              | (go_at_call 18; ((with_reducible refine (RR.out _ (‹_ ∧ _ ∧ Below w5.heap.size w5 _›).2.2).mono ?_); rintro e wm ⟨rfl, bm⟩))
              | (go_at_call 19; ((with_reducible refine (AC.out _ (‹_ ∧ _ ∧ Below w5.heap.size w5 _›).2.2).mono ?_); rintro e wm ⟨rfl, bm⟩))
              | (go_at_call 20; ((with_reducible refine (IM.out _ (‹_ ∧ _ ∧ Below w5.heap.size w5 _›).2.2).mono ?_); rintro e wm ⟨rfl, bm⟩))
              | (go_at_call 21; ((with_reducible refine (IR.out _ (‹_ ∧ _ ∧ Below w5.heap.size w5 _›).2.2).mono ?_); rintro e wm ⟨rfl, bm⟩))
              | (go_at_call 23; ((with_reducible refine (RN.out _ (‹_ ∧ _ ∧ Below w5.heap.size w5 _›).2.2).mono ?_); rintro e wm ⟨v', rfl, hu', bm⟩))
              | (go_at_call 22; ((with_reducible refine (SJ.out _ _ (‹_ ∧ _ ∧ Below w5.heap.size w5 _›).2.2 hu').mono ?_); rintro e wm ⟨rfl, bm⟩))))
          all_goals (have HBz := (‹_ ∧ _ ∧ Below w5.heap.size w5 _›).2.2)
          all_goals (go_wp2_with fail)
          all_goals go_meet
          case rel => exact ⟨rfl, HBz⟩
        case rest =>
          obtain ⟨rfl, HX5⟩ := hcut
          have HSX := Lib.hid (HS5.out.kept HX5.out)
          obtain ⟨aa, ac, rfl⟩ := own_slice HOA5.out
          obtain ⟨ba, bc, rfl⟩ := own_slice HOB5.out
          obtain ⟨LA, hLA⟩ : ∃ n, n = l1.length := ⟨_, rfl⟩
          obtain ⟨LB, hLB⟩ : ∃ n, n = ys.length := ⟨_, rfl⟩
          have HOAx : Hid (wc.ownsRow w3.heap.size 48 4 (.slice aa LA ac) LA (l1.flatMap ceV)) := by unfold Hid; rw [hLA]; exact own_older HOA5.out HX5.out
          have HOBx : Hid (wc.ownsRow w4.heap.size 32 1 (.slice ba LB bc) LB (uL ys)) := by unfold Hid; rw [hLB]; exact own_older HOB5.out HX5.out
          rw [← hLA] at HLTA
          rw [← hLB] at HLTB
          rw [← hLA, ← hLB]
          have hla : LA ≤ 16384 := by rw [hLA]; exact HLN.out
          have hlb : LB ≤ 262144 := by rw [hLB]; exact HYL.out
          clear SM RW RR AC IM IR RN SJ t1 t2 t3 q1 q2 HOA5 HOB5 HS5 HX5 HPM HSR hLA hLB HYL HLN
          obtain ⟨wy, hwy⟩ : ∃ wy, wy = wc := ⟨_, rfl⟩
          subst hwy
          go_wp2_with fail
          go_loopw [15] (fun i wr => ∃ (j : Nat) (zs : List Value), j ≤ LA ∧ i = .int .i64 j ∧ Hid (wr.ownsRow w3.heap.size 48 4 (.slice aa LA ac) LA zs) ∧ Hid (Chg (fun q => (Value.slice aa LA ac).ownBlock = some q) wy wr)) (fun i _ => LA - (RowKit.intOf i).toNat)
          case atStart => exact ⟨0, _, Nat.zero_le _, rfl, HOAx.out, Chg.refl _ _⟩
          case round =>
            obtain ⟨j, zs, hj, rfl, HZ, HCs⟩ := hrel
            by_cases hltj : j < LA
            · have hj1 : decide (j < LA) = true := decide_eq_true hltj
              have hj2 : (j : Int) < (LA : Int) := by omega
              have hj3 : decide ((j : Int) < (LA : Int)) = true := decide_eq_true hj2
              obtain ⟨q, hqa⟩ := row_addr16 HZ.out (by omega)
              subst hqa
              obtain ⟨⟨cc, hcc⟩, hff, hst, hch⟩ := owns_put16 HZ.out (j := j * 4 + 1) (by omega) (.int .i64 (-7))
              have HST := Lib.hid hst
              have HCH : Hid (Chg (fun q' => (Value.slice (some ⟨q, 0, none⟩) LA ac).ownBlock = some q') wy (wr.setCell ⟨q, j * 4 + 1, none⟩ (.int .i64 (-7)))) := HCs.out.trans (hch.weak fun k hk => by rw [hk]; rfl)
              clear hst hch
              go_wp2_with fail
              go_roundw
              case rel => exact ⟨j + 1, _, hltj, by go_num, HST, HCH⟩
              case measure => simp [RowKit.intOf]; omega
            · have hj1 : decide (j < LA) = false := decide_eq_false hltj
              have hj2 : ¬ (j : Int) < (LA : Int) := by omega
              have hj3 : decide ((j : Int) < (LA : Int)) = false := decide_eq_false hj2
              obtain ⟨wn, hwn⟩ : ∃ wn, wn = wr := ⟨_, rfl⟩
              subst hwn
              have HOBn : Hid (wn.ownsRow w4.heap.size 32 1 (.slice ba LB bc) LB (uL ys)) := own_chg HOBx.out HCs.out (fun k h h' => by have := (HLTA.out k h').2; have := (HLTB.out k h).1; omega)
              have HSn := Lib.hid (HSX.out.chg HCs.out (fun k h => by have := HLTA.out k h; have := HLO.out; omega))
              clear hltj hj HZ HCs HOAx HOBx HSX
              go_wp2_with fail
              go_loopw [16] (fun i wr => ∃ (j : Nat) (zs : List Value), j ≤ LB ∧ i = .int .i64 j ∧ Hid (wr.ownsRow w4.heap.size 32 1 (.slice ba LB bc) LB zs) ∧ Hid (Chg (fun q => (Value.slice ba LB bc).ownBlock = some q) wn wr)) (fun i _ => LB - (RowKit.intOf i).toNat)
              case atStart => exact ⟨0, _, Nat.zero_le _, rfl, HOBn.out, Chg.refl _ _⟩
              case round =>
                obtain ⟨j, zs, hj, rfl, HZ, HCs⟩ := hrel
                by_cases hltj : j < LB
                · have hj1 : decide (j < LB) = true := decide_eq_true hltj
                  have hj2 : (j : Int) < (LB : Int) := by omega
                  have hj3 : decide ((j : Int) < (LB : Int)) = true := decide_eq_true hj2
                  obtain ⟨q, hqa⟩ := row_addr16 HZ.out (by omega)
                  subst hqa
                  obtain ⟨⟨cc, hcc⟩, hff, hst, hch⟩ := owns_put16 HZ.out (j := j) (by omega) (.int .u32 0)
                  have HST := Lib.hid hst
                  have HCH : Hid (Chg (fun q' => (Value.slice (some ⟨q, 0, none⟩) LB bc).ownBlock = some q') wn (wr.setCell ⟨q, j, none⟩ (.int .u32 0))) := HCs.out.trans (hch.weak fun k hk => by rw [hk]; rfl)
                  clear hst hch
                  go_wp2_with fail
                  go_roundw
                  case rel => exact ⟨j + 1, _, hltj, by go_num, HST, HCH⟩
                  case measure => simp [RowKit.intOf]; omega
                · have hj1 : decide (j < LB) = false := decide_eq_false hltj
                  have hj2 : ¬ (j : Int) < (LB : Int) := by omega
                  have hj3 : decide ((j : Int) < (LB : Int)) = false := decide_eq_false hj2
                  have HSz := Lib.hid (HSn.out.chg HCs.out (fun k h => by have := HLTB.out k h; have := HLO.out; omega)).free
                  clear HZ HCs
                  go_wp2_with fail
                  go_roundw
                  case rel => exact ⟨k + 1, a1, l1, hlt, by omega, by go_num, HSz⟩
                  case measure => simp [RowKit.intOf]; omega
      · have d2 : decide ((k : Int) < 60) = false := decide_eq_false (by omega)
        have d2' : decide (k < 60) = false := decide_eq_false h60
        go_wp2_with fail
        refine (K.out _).mono ?_; rintro e w9 ⟨rfl, b9⟩
        have HB9 := below_next b9 HS.out.bel
        clear b9
        go_wp2_with fail
        go_ret
        exact ⟨rfl, HB9⟩
    · have d1 : decide ((k : Int) < (LL : Int)) = false := decide_eq_false (by omega)
      have d1' : decide (k < LL) = false := decide_eq_false hlt
      go_wp2_with fail
      refine (K.out _).mono ?_; rintro e w9 ⟨rfl, b9⟩
      have HB9 := below_next b9 HS.out.bel
      clear b9
      go_wp2_with fail
      go_ret
      exact ⟨rfl, HB9⟩
theorem walk (N : Int) (v : Value) (L : List AcI) (row : Int) (w : World) (hN0 : (Lit.int .i64 N).wf = true) (hA : AcArg w v L) (hr0 : (Lit.int .i64 row).wf = true) :
    Calls Try.prog 3 #[.int .i64 N, v, .int .i64 row] w fun e w' => e = .returned (.bool true) ∧ Below w.heap.size w w' := by
  by_cases hN : 0 ≤ N ∧ N ≤ 7
  · obtain ⟨n, rfl⟩ := Int.eq_ofNat_of_zero_le hN.1
    exact walk_yes n v L row w hA (by omega)
  · exact walk_no N v row w hN


set_option maxRecDepth 100000 in
theorem lifted (os : Os) (started : os.Started) (H : Type) (enc : TypeId × Value → H) :
    ReturnsInHanded {} Try.checked os 3 .any (Rows.gangPlaysSpec.pre6 enc Try.prog Try.f3 Rows.gangPlaysRow.domain false) (Rows.gangPlaysSpec.post enc Try.prog Try.f3 false true false false) := by
  refine returnsInHanded_of_change (C := Try.checked) own started (by kernel_rfl) Try.func3
    (ChangeSpec.witness6 (enc := enc) (C := Try.checked) false ⟨#[], #[.int .i64 0, .slice none 0 0, .int .i64 0], []⟩ 8 (by kernel_rfl) (by kernel_rfl) (by kernel_rfl) (by kernel_rfl)) ?_
  intro W base args ds gs before hval0 hW _ _
  have hval : ∀ (j : Nat) t v, Try.f3.params[j]? = some t → args[j]? = some v → Value.okWide Try.prog W .any base t v := hval0
  have hW' := hW
  obtain ⟨p, q, hA0, hV, rfl, hfz, hnd⟩ := hW
  have hA : DataW.TrodAll enc Try.prog W 0 (fun _ => true) true Try.f3.params.toList args.toList ds p := hA0
  rw [Try.params3] at hA hval
  obtain ⟨v0, vs0, d0, ds0, p0, q0, hargs, rfl, rfl, h0, r0⟩ := trodAll_cons hA
  obtain ⟨v1, vs1, d1, ds1, p1, q1, rfl, rfl, rfl, h1, r1⟩ := trodAll_cons r0
  obtain ⟨v2, vs2, d2, ds2, p2, q2, rfl, rfl, rfl, h2, r2⟩ := trodAll_cons r1
  obtain ⟨rfl, rfl, rfl⟩ := trodAll_nil r2
  obtain rfl : args = #[v0, v1, v2] := by cases args; simp_all
  obtain ⟨order, rfl, rfl, rfl, w0⟩ := open_int Try.underlying3 (hval 0 3 v0 rfl rfl) h0
  obtain ⟨L, w1⟩ := open_acts h1 (okWide_slice Try.underlying22 (hval 1 22 v1 rfl rfl))
  obtain ⟨row, rfl, rfl, rfl, w2⟩ := open_int Try.underlying3 (hval 2 3 v2 rfl rfl) h2
  clear hA0 hval0
  refine (walk order v1 L row W w0 w1 w2).mono fun e W' ⟨he, hb⟩ => ?_
  subst he
  exact ⟨_, rfl, law_post (by kernel_rfl) (by kernel_rfl) rfl Try.underlying4 rfl hW' rfl hb⟩

theorem over : Rows.gangPlaysRow.holds Try.pinned (OpenSpec.ofChange Rows.gangPlaysSpec) :=
  OpenClaim.holds_of_wide 3 Try.f3 rfl rfl rfl rfl rfl rfl rfl ⟨rfl, rfl, rfl, rfl, rfl⟩ rfl rfl rfl rfl rfl (by kernel_rfl) Try.func3 (by kernel_rfl)
    (of_decide_eq_true (by kernel_rfl)) (by unfold Func.isWrapper; first | (rw [if_pos (by decide +kernel)]; kernel_rfl) | (rw [if_neg (by decide +kernel)]; exact ⟨rfl, rfl⟩))
    (fun os started H enc _ => lifted os started H enc)

theorem proved : Rows.GangPlaysSaid :=
  over
#print axioms proved
end Go.Proofs.Ytfobapnncjjeiaa.gangPlays
