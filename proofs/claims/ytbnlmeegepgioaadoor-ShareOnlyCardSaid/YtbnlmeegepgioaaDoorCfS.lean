/-
  gangerref10.Check: at any configuration.
-/
import Derived.Test.YtbnlmeegepgioaaDoorCfR
namespace Go.Proofs.YtbnlmeegepgioaaDoor
open Go Go.RowKit Go.Lib
set_option linter.unusedVariables false

set_option maxRecDepth 100000 in
set_option maxHeartbeats 8000000 in
theorem refConf_any (pol half quan req wf wa ws wq wp : Int) (vp vc va : Value) (lp : List PaT) (lc : List ClT) (la : List AcT) (w : World) (hp : PRow w vp lp) (hc : QRow w vc lc) (ha : AcRow w va la)
    (sp : ∀ x ∈ lp, Short x.1) (sc : ∀ x ∈ lc, Short x.1) (sa : ∀ x ∈ la, Short x.1 ∧ Short x.2.1) :
    Calls Tryd.prog 37 #[confV pol half quan req wf wa ws wq wp vp vc va] w fun e w' => CheckPost (ConfOk ⟨pol, half, quan, req, [wf, wa, ws, wq, wp], lp, lc, la⟩) w e w' := by
  have WI : Hid (∀ n lo hi w, Calls Tryd.prog 47 #[.int .i64 n, .int .i64 lo, .int .i64 hi] w fun e w' => e = .returned (.bool (!inR n lo hi)) ∧ w' = w) := out_any
  have NM := refName_hid
  obtain ⟨pa, pc, rfl⟩ := hp.slice
  obtain ⟨ca, cc, rfl⟩ := hc.slice
  obtain ⟨aa, ac, rfl⟩ := ha.slice
  obtain ⟨LP, hLP⟩ : ∃ L, L = lp.length := ⟨_, rfl⟩
  obtain ⟨LC, hLC⟩ : ∃ L, L = lc.length := ⟨_, rfl⟩
  obtain ⟨LA, hLA⟩ : ∃ L, L = la.length := ⟨_, rfl⟩
  rw [← hLP] at hp ⊢
  rw [← hLC] at hc ⊢
  rw [← hLA] at ha ⊢
  have HLP := Lib.hid hLP
  have HLC := Lib.hid hLC
  have HLA := Lib.hid hLA
  have HP := Lib.hid hp
  have HC := Lib.hid hc
  have HA := Lib.hid ha
  have SHP := Lib.hid sp
  have SHC := Lib.hid sc
  have SA := Lib.hid sa
  clear hp hc ha sp sc sa hLP hLC hLA
  obtain ⟨w0, hw0⟩ : ∃ w0, w0 = w.alloc (.cells #[.int .i64 pol, .int .i64 half, .int .i64 quan, .int .i64 req, .int .i64 wf, .int .i64 wa, .int .i64 ws, .int .i64 wq, .int .i64 wp, .slice pa LP pc, .slice ca LC cc, .slice aa LA ac] 65) := ⟨_, rfl⟩
  obtain ⟨gB, hgB⟩ : ∃ gB, gB = w.heap.size := ⟨_, rfl⟩
  have hb0 : Below w.heap.size w w0 := by rw [hw0]; exact (Below.refl _ _).alloc (Nat.le_refl _) _
  have HE0 : Hid (Blk w0 gB #[.int .i64 pol, .int .i64 half, .int .i64 quan, .int .i64 req, .int .i64 wf, .int .i64 wa, .int .i64 ws, .int .i64 wq, .int .i64 wp, .slice pa LP pc, .slice ca LC cc, .slice aa LA ac] 65) := by unfold Hid; rw [hw0, hgB]; exact Blk.new _ _ _
  obtain ⟨w00, hw00⟩ : ∃ w00, w00 = w0.alloc (.cells #[.int .i64 wf, .int .i64 wa, .int .i64 ws, .int .i64 wq, .int .i64 wp] 61) := ⟨_, rfl⟩
  obtain ⟨gW, hgW⟩ : ∃ gW, gW = w0.heap.size := ⟨_, rfl⟩
  have hb1 : Below w0.heap.size w0 w00 := by rw [hw00]; exact (Below.refl _ _).alloc (Nat.le_refl _) _
  have HW0 : Hid (Blk w00 gW #[.int .i64 wf, .int .i64 wa, .int .i64 ws, .int .i64 wq, .int .i64 wp] 61) := by unfold Hid; rw [hw00, hgW]; exact Blk.new _ _ _
  have HB1 := Lib.hid (hb0.trans (hb1.mono hb0.size))
  have HE1 := Lib.hid (HE0.out.kept hb1)
  clear hb0 hb1
  obtain ⟨z1, hz1⟩ : ∃ y, y = inR wf 0 1048576 := ⟨_, rfl⟩
  obtain ⟨z2, hz2⟩ : ∃ y, y = inR wa 0 1048576 := ⟨_, rfl⟩
  obtain ⟨z3, hz3⟩ : ∃ y, y = inR ws 0 1048576 := ⟨_, rfl⟩
  obtain ⟨z4, hz4⟩ : ∃ y, y = inR wq 0 1048576 := ⟨_, rfl⟩
  obtain ⟨z5, hz5⟩ : ∃ y, y = inR wp 0 1048576 := ⟨_, rfl⟩
  have HWT : Hid (wtsOk [wf, wa, ws, wq, wp] = (z1 && z2 && z3 && z4 && z5)) := by unfold Hid wtsOk; rw [hz1, hz2, hz3, hz4, hz5]; simp [Bool.and_assoc]
  obtain ⟨y1, hy1⟩ : ∃ y, y = inR pol 1 4 := ⟨_, rfl⟩
  obtain ⟨y2, hy2⟩ : ∃ y, y = inR half 1 4294967296 := ⟨_, rfl⟩
  obtain ⟨y3, hy3⟩ : ∃ y, y = inR quan 1 1073741824 := ⟨_, rfl⟩
  obtain ⟨y4, hy4⟩ : ∃ y, y = inR req 0 100 := ⟨_, rfl⟩
  have HNUM : Hid (numsOk ⟨pol, half, quan, req, [wf, wa, ws, wq, wp], lp, lc, la⟩ = (y1 && y2 && y3 && y4)) := by unfold Hid numsOk; rw [hy1, hy2, hy3, hy4]
  obtain ⟨l1, hl1⟩ : ∃ y, y = inR (LP : Int) 1 8 := ⟨_, rfl⟩
  obtain ⟨l2, hl2⟩ : ∃ y, y = inR (LC : Int) 1 8 := ⟨_, rfl⟩
  obtain ⟨l3, hl3⟩ : ∃ y, y = inR (LA : Int) 1 50 := ⟨_, rfl⟩
  have HLEN : Hid ((l1 && l2 && l3) = true ↔ (1 ≤ LP ∧ LP ≤ 8) ∧ (1 ≤ LC ∧ LC ≤ 8) ∧ 1 ≤ LA ∧ LA ≤ 50) := by
    unfold Hid; rw [hl1, hl2, hl3, Bool.and_eq_true, Bool.and_eq_true, (show inR (LP : Int) 1 8 = true ↔ 1 ≤ LP ∧ LP ≤ 8 from inR_len (lo := 1) (hi := 8)), (show inR (LC : Int) 1 8 = true ↔ 1 ≤ LC ∧ LC ≤ 8 from inR_len (lo := 1) (hi := 8)), (show inR (LA : Int) 1 50 = true ↔ 1 ≤ LA ∧ LA ≤ 50 from inR_len (lo := 1) (hi := 50)), and_assoc]
  have HZ1 := Lib.hid hz1
  have HZ2 := Lib.hid hz2
  have HZ3 := Lib.hid hz3
  have HZ4 := Lib.hid hz4
  have HZ5 := Lib.hid hz5
  have HY1 := Lib.hid hy1
  have HY2 := Lib.hid hy2
  have HY3 := Lib.hid hy3
  have HY4 := Lib.hid hy4
  have HL1 := Lib.hid hl1
  have HL2 := Lib.hid hl2
  have HL3 := Lib.hid hl3
  have c0 := HW0.out.cell 0
  have c1 := HW0.out.cell 1
  have c2 := HW0.out.cell 2
  have c3 := HW0.out.cell 3
  have c4 := HW0.out.cell 4
  have d4 := HE0.out.cell 4
  have d5 := HE0.out.cell 5
  have d6 := HE0.out.cell 6
  have d7 := HE0.out.cell 7
  have d8 := HE0.out.cell 8
  have e0 := HE1.out.cell 0
  have e1 := HE1.out.cell 1
  have e2 := HE1.out.cell 2
  have e3 := HE1.out.cell 3
  have e9 := HE1.out.cell 9
  have e10 := HE1.out.cell 10
  have e11 := HE1.out.cell 11
  simp at c0 c1 c2 c3 c4 d4 d5 d6 d7 d8 e0 e1 e2 e3 e9 e10 e11
  clear hz1 hz2 hz3 hz4 hz5 hy1 hy2 hy3 hy4 hl1 hl2 hl3
  unfold confV
  go_enter Tryd.func37, Tryd.ntmps37
  go_upto_region 1 with fail
  rw [← hw0, ← hgB]
  clear hw0 hgB
  go_upto_region 2 with fail
  rw [← hw00, ← hgW]
  clear hw00 hgW d4 d5 d6 d7 d8 HE0
  go_cut [34] (fun sl wx => sl = .bool (!(z1 && z2 && z3 && z4 && z5)) ∧ Hid (w00 = wx))
  case first =>
    go_wp2_with fail
    refine (WI.out _ _ _ _).mono ?_; rintro e w1 ⟨rfl, hw⟩; replace hw := hw.symm; subst hw
    rw [← HZ1.out]
    cases z1 with
    | false =>
      go_wp2_with fail
      go_meet
      exact ⟨by simp, rfl⟩
    | true =>
      go_wp2_with fail
      refine (WI.out _ _ _ _).mono ?_; rintro e w1 ⟨rfl, hw⟩; replace hw := hw.symm; subst hw
      rw [← HZ2.out]
      cases z2 with
      | false =>
        go_wp2_with fail
        go_meet
        exact ⟨by simp, rfl⟩
      | true =>
        go_wp2_with fail
        refine (WI.out _ _ _ _).mono ?_; rintro e w1 ⟨rfl, hw⟩; replace hw := hw.symm; subst hw
        rw [← HZ3.out]
        cases z3 with
        | false =>
          go_wp2_with fail
          go_meet
          exact ⟨by simp, rfl⟩
        | true =>
          go_wp2_with fail
          refine (WI.out _ _ _ _).mono ?_; rintro e w1 ⟨rfl, hw⟩; replace hw := hw.symm; subst hw
          rw [← HZ4.out]
          cases z4 with
          | false =>
            go_wp2_with fail
            go_meet
            exact ⟨by simp, rfl⟩
          | true =>
            go_wp2_with fail
            refine (WI.out _ _ _ _).mono ?_; rintro e w1 ⟨rfl, hw⟩; replace hw := hw.symm; subst hw
            rw [← HZ5.out]
            go_wp2_with fail
            go_meet
            exact ⟨by simp, rfl⟩
  case rest =>
    obtain ⟨rfl, hw⟩ := hcut
    obtain rfl := hw.out
    clear HZ1 HZ2 HZ3 HZ4 HZ5 HW0 c0 c1 c2 c3 c4
    obtain ⟨nz, hnz⟩ : ∃ nb, nb = (z1 && z2 && z3 && z4 && z5) := ⟨_, rfl⟩
    rw [← hnz] at HWT ⊢
    clear hnz
    cases nz with
    | false =>
      have HNO : Hid (¬ ConfOk ⟨pol, half, quan, req, [wf, wa, ws, wq, wp], lp, lc, la⟩) := fun h => by have := h.2.1; rw [HWT.out] at this; cases this
      go_wp2_with fail
      go_ret
      exact ⟨100, rfl, .inr ⟨rfl, HNO.out⟩, HB1.out⟩
    | true =>
      go_upto_region 4 with fail
      go_cut [52] (fun sl wx => sl = .bool (!(y1 && y2 && y3 && y4)) ∧ Hid (w00 = wx))
      case first =>
        go_wp2_with fail
        refine (WI.out _ _ _ _).mono ?_; rintro e w1 ⟨rfl, hw⟩; replace hw := hw.symm; subst hw
        rw [← HY1.out]
        cases y1 with
        | false =>
          go_wp2_with fail
          go_meet
          exact ⟨by simp, rfl⟩
        | true =>
          go_wp2_with fail
          refine (WI.out _ _ _ _).mono ?_; rintro e w1 ⟨rfl, hw⟩; replace hw := hw.symm; subst hw
          rw [← HY2.out]
          cases y2 with
          | false =>
            go_wp2_with fail
            go_meet
            exact ⟨by simp, rfl⟩
          | true =>
            go_wp2_with fail
            refine (WI.out _ _ _ _).mono ?_; rintro e w1 ⟨rfl, hw⟩; replace hw := hw.symm; subst hw
            rw [← HY3.out]
            cases y3 with
            | false =>
              go_wp2_with fail
              go_meet
              exact ⟨by simp, rfl⟩
            | true =>
              go_wp2_with fail
              refine (WI.out _ _ _ _).mono ?_; rintro e w1 ⟨rfl, hw⟩; replace hw := hw.symm; subst hw
              rw [← HY4.out]
              go_wp2_with fail
              go_meet
              exact ⟨by simp, rfl⟩
      case rest =>
        obtain ⟨rfl, hw⟩ := hcut
        obtain rfl := hw.out
        clear HY1 HY2 HY3 HY4 e0 e1 e2 e3
        obtain ⟨nb, hnb⟩ : ∃ nb, nb = (y1 && y2 && y3 && y4) := ⟨_, rfl⟩
        rw [← hnb] at HNUM ⊢
        clear hnb
        cases nb with
        | false =>
          have HNO : Hid (¬ ConfOk ⟨pol, half, quan, req, [wf, wa, ws, wq, wp], lp, lc, la⟩) := fun h => by have := h.1; rw [HNUM.out] at this; cases this
          go_wp2_with fail
          go_ret
          exact ⟨100, rfl, .inr ⟨rfl, HNO.out⟩, HB1.out⟩
        | true =>
          go_upto_region 6 with fail
          go_cut [68] (fun sl wx => sl = .bool (!(l1 && l2 && l3)) ∧ Hid (w00 = wx))
          case first =>
            go_wp2_with fail
            refine (WI.out _ _ _ _).mono ?_; rintro e w1 ⟨rfl, hw⟩; replace hw := hw.symm; subst hw
            rw [← HL1.out]
            cases l1 with
            | false =>
              go_wp2_with fail
              go_meet
              exact ⟨by simp, rfl⟩
            | true =>
              go_wp2_with fail
              refine (WI.out _ _ _ _).mono ?_; rintro e w1 ⟨rfl, hw⟩; replace hw := hw.symm; subst hw
              rw [← HL2.out]
              cases l2 with
              | false =>
                go_wp2_with fail
                go_meet
                exact ⟨by simp, rfl⟩
              | true =>
                go_wp2_with fail
                refine (WI.out _ _ _ _).mono ?_; rintro e w1 ⟨rfl, hw⟩; replace hw := hw.symm; subst hw
                rw [← HL3.out]
                go_wp2_with fail
                go_meet
                exact ⟨by simp, rfl⟩
          case rest =>
            obtain ⟨rfl, hw⟩ := hcut
            obtain rfl := hw.out
            clear HL1 HL2 HL3 e9 e10 e11
            obtain ⟨nl, hnl⟩ : ∃ nb, nb = (l1 && l2 && l3) := ⟨_, rfl⟩
            rw [← hnl] at HLEN ⊢
            clear hnl
            cases nl with
            | false =>
              have HNO : Hid (¬ ConfOk ⟨pol, half, quan, req, [wf, wa, ws, wq, wp], lp, lc, la⟩) := fun h => by
                have := HLEN.out.2 ⟨by rw [HLP.out]; exact ⟨h.2.2.1.1, h.2.2.1.2.1⟩, by rw [HLC.out]; exact ⟨h.2.2.2.1.1, h.2.2.2.1.2.1⟩, by rw [HLA.out]; exact ⟨h.2.2.2.2.1, h.2.2.2.2.2.1⟩⟩
                cases this
              go_wp2_with fail
              go_ret
              exact ⟨100, rfl, .inr ⟨rfl, HNO.out⟩, HB1.out⟩
            | true =>
              obtain ⟨⟨hp1, hp8⟩, ⟨hc1, hc8⟩, ha1, ha5⟩ : (1 ≤ LP ∧ LP ≤ 8) ∧ (1 ≤ LC ∧ LC ≤ 8) ∧ 1 ≤ LA ∧ LA ≤ 50 := by simpa using HLEN.out
              clear HLEN
              go_wp2_with fail
              go_loopw [4] (fun i wr => ∃ k : Nat, k ≤ LP ∧ i = .int .i64 k ∧ Hid (RowOk (·.1) paOk lp k) ∧ Hid (Blk wr gB #[.int .i64 pol, .int .i64 half, .int .i64 quan, .int .i64 req, .int .i64 wf, .int .i64 wa, .int .i64 ws, .int .i64 wq, .int .i64 wp, .slice pa LP pc, .slice ca LC cc, .slice aa LA ac] 65) ∧ Hid (Below w.heap.size w wr)) (fun i _ => LP - (RowKit.intOf i).toNat)
              case atStart => exact ⟨0, Nat.zero_le _, rfl, RowOk.zero _ _ _, HE1, HB1⟩
              case round =>
                obtain ⟨k, hk, rfl, HK, HBk, HB⟩ := hrel
                have g9 := HBk.out.cell 9
                simp at g9
                by_cases hlt : k < LP
                · have hd : decide (k < LP) = true := decide_eq_true hlt
                  have hki : (k : Int) < (LP : Int) := by omega
                  have hkl : k < lp.length := by rw [← HLP.out]; exact hlt
                  obtain ⟨b, off, hva, hall⟩ := rowG_all HP.out (by omega)
                  subst hva
                  have HALL := Lib.hid hall
                  have hse := SHP.out _ (List.getElem_mem hkl)
                  have hcell := hall k hkl
                  obtain ⟨⟨nm, x1, x2, x3⟩, hx⟩ : ∃ x, x = lp[k] := ⟨_, rfl⟩
                  rw [← hx] at hcell hse
                  have c0 := hcell wr HB.out 0 _ rfl
                  have c1 := hcell wr HB.out 1 _ rfl
                  have c2 := hcell wr HB.out 2 _ rfl
                  have c3 := hcell wr HB.out 3 _ rfl
                  dsimp only at c0 c1 c2 c3 hse
                  simp only [Nat.add_zero] at c0
                  have HX := Lib.hid hx
                  obtain ⟨wA, hwA⟩ : ∃ wA, wA = wr.alloc (.cells #[.string nm, .int .i64 x1, .int .i64 x2, .int .i64 x3] 67) := ⟨_, rfl⟩
                  have hbA : Below wr.heap.size wr wA := by rw [hwA]; exact (Below.refl _ _).alloc (Nat.le_refl _) _
                  obtain ⟨gE, hgE⟩ : ∃ gE, gE = wr.heap.size := ⟨_, rfl⟩
                  have HE : Hid (Blk wA gE #[.string nm, .int .i64 x1, .int .i64 x2, .int .i64 x3] 67) := by unfold Hid; rw [hwA, hgE]; exact Blk.new _ _ _
                  have HBA := Lib.hid (HB.out.trans (hbA.mono HB.out.size))
                  have HBL := Lib.hid (HBk.out.kept hbA)
                  have NK := Lib.hid (NM.out nm wA hse)
                  obtain ⟨y0, hy0⟩ : ∃ y, y = nameB nm := ⟨_, rfl⟩
                  obtain ⟨y1, hy1⟩ : ∃ y, y = inR x1 0 10 := ⟨_, rfl⟩
                  obtain ⟨y2, hy2⟩ : ∃ y, y = inR x2 0 1048576 := ⟨_, rfl⟩
                  obtain ⟨y3, hy3⟩ : ∃ y, y = inR x3 1 1073741824 := ⟨_, rfl⟩
                  have HAC : Hid (paOk lp[k] = (y0 && y1 && y2 && y3)) := by unfold Hid; rw [← hx, hy0, hy1, hy2, hy3]; rfl
                  have HY0 := Lib.hid hy0
                  have HY1 := Lib.hid hy1
                  have HY2 := Lib.hid hy2
                  have HY3 := Lib.hid hy3
                  have e0 := HE.out.cell 0
                  have e1 := HE.out.cell 1
                  have e2 := HE.out.cell 2
                  have e3 := HE.out.cell 3
                  simp at e0 e1 e2 e3
                  clear hcell hall hse hx hbA hy0 hy1 hy2 hy3
                  go_upto_region 12 with fail
                  rw [← hwA, ← hgE]
                  clear hwA hgE c0 c1 c2 c3
                  go_cut [99] (fun sl wx => sl = .bool (!(y0 && y1 && y2 && y3)) ∧ Hid (wA = wx))
                  case first =>
                    go_wp2_with fail
                    refine NK.out.mono ?_; rintro e w1 ⟨rfl, hw⟩; replace hw := hw.symm; subst hw
                    rw [← HY0.out]
                    cases y0 with
                    | false =>
                      go_wp2_with fail
                      go_meet
                      exact ⟨by simp, rfl⟩
                    | true =>
                      go_wp2_with fail
                      refine (WI.out _ _ _ _).mono ?_; rintro e w1 ⟨rfl, hw⟩; replace hw := hw.symm; subst hw
                      rw [← HY1.out]
                      cases y1 with
                      | false =>
                        go_wp2_with fail
                        go_meet
                        exact ⟨by simp, rfl⟩
                      | true =>
                        go_wp2_with fail
                        refine (WI.out _ _ _ _).mono ?_; rintro e w1 ⟨rfl, hw⟩; replace hw := hw.symm; subst hw
                        rw [← HY2.out]
                        cases y2 with
                        | false =>
                          go_wp2_with fail
                          go_meet
                          exact ⟨by simp, rfl⟩
                        | true =>
                          go_wp2_with fail
                          refine (WI.out _ _ _ _).mono ?_; rintro e w1 ⟨rfl, hw⟩; replace hw := hw.symm; subst hw
                          rw [← HY3.out]
                          go_wp2_with fail
                          go_meet
                          exact ⟨by simp, rfl⟩
                  case rest =>
                    obtain ⟨rfl, hw⟩ := hcut
                    obtain rfl := hw.out
                    clear HY0 HY1 HY2 HY3 NK
                    obtain ⟨y, hy⟩ : ∃ y, y = (y0 && y1 && y2 && y3) := ⟨_, rfl⟩
                    rw [← hy] at HAC ⊢
                    clear hy e1 e2 e3
                    cases y with
                    | false =>
                      have HNO : Hid (¬ ConfOk ⟨pol, half, quan, req, [wf, wa, ws, wq, wp], lp, lc, la⟩) := fun h => by have := h.2.2.1.2.2.el k hkl hkl; rw [HAC.out] at this; cases this
                      go_wp2_with fail
                      go_ret
                      exact ⟨100, rfl, .inr ⟨rfl, HNO.out⟩, HBA.out⟩
                    | true =>
                      clear e0 g9
                      go_wp2_with fail
                      go_loopw [6] (fun i wr => ∃ (q : Nat), q ≤ k ∧ i = .int .i64 q ∧ Hid (nm ∉ (lp.take q).map (·.1)) ∧ Hid (Below wA.heap.size wA wr)) (fun i _ => k - (RowKit.intOf i).toNat)
                      case atStart => exact ⟨0, Nat.zero_le _, rfl, by unfold Hid; simp, Below.refl _ _⟩
                      case round =>
                        obtain ⟨q, hqk, rfl, HN, HBr⟩ := hrel
                        by_cases hlq : q < k
                        · have hdq : decide (q < k) = true := decide_eq_true hlq
                          have hqi : (q : Int) < (k : Int) := by omega
                          have hqL : (q : Int) < (LP : Int) := by omega
                          have hql : q < lp.length := by rw [← HLP.out]; omega
                          have htn := take_names (·.1) hql
                          have HBq := Lib.hid (HBA.out.trans (HBr.out.mono HBA.out.size))
                          have a0 := HALL.out q hql wr HBq.out 0 _ rfl
                          have e0 := (HE.out.kept HBr.out).cell 0
                          have g9 := (HBL.out.kept HBr.out).cell 9
                          simp at e0 g9
                          simp only [Nat.add_zero] at a0
                          obtain ⟨qn, hqn⟩ : ∃ qn, qn = lp[q].1 := ⟨_, rfl⟩
                          rw [← hqn] at htn a0
                          have HTN := Lib.hid htn
                          clear htn hqn
                          by_cases qa : qn = nm
                          · have q1 : (qn.toList == nm.toList) = true := by rw [str_beq]; exact decide_eq_true qa
                            have HNO : Hid (¬ ConfOk ⟨pol, half, quan, req, [wf, wa, ws, wq, wp], lp, lc, la⟩) := fun h => by
                              refine (RowOk.back (l := lp) h.2.2.1.2.2 hkl hkl).2 ?_
                              rw [← HX.out]
                              refine List.mem_map.2 ⟨lp[q], List.mem_take_iff_getElem.2 ⟨q, by omega, rfl⟩, ?_⟩
                              have := HTN.out
                              rw [take_names (·.1) hql] at this
                              have h2 := List.append_cancel_left this
                              injection h2 with h2
                              exact h2.trans qa
                            clear qa
                            go_upto_region 17 with fail
                            go_quiet (fail)
                            go_wp2_with fail
                            go_ret
                            exact ⟨100, rfl, .inr ⟨rfl, HNO.out⟩, below_drewN HBq.out _⟩
                          · have q1 : (qn.toList == nm.toList) = false := by rw [str_beq]; exact decide_eq_false qa
                            have HN2 : Hid (nm ∉ (lp.take (q + 1)).map (·.1)) := by
                              unfold Hid; rw [HTN.out, List.mem_append]
                              rintro (h | h)
                              · exact HN.out h
                              · rw [List.mem_singleton] at h; exact qa h.symm
                            clear qa
                            go_upto_region 17 with fail
                            go_quiet (fail)
                            go_wp2_with fail
                            go_roundw
                            case rel => exact ⟨q + 1, hlq, by go_num, HN2, below_drewN HBr.out _⟩
                            case measure => simp [RowKit.intOf]; omega
                        · have hdq : decide (q < k) = false := decide_eq_false hlq
                          have hqi : ¬ (q : Int) < (k : Int) := by omega
                          obtain rfl : q = k := by omega
                          have HPN : Hid (RowOk (·.1) paOk lp (q + 1)) := HK.out.step hkl HAC.out (by rw [← HX.out]; exact HN.out)
                          have HBq := Lib.hid (HBA.out.trans (HBr.out.mono HBA.out.size))
                          have HBLq := Lib.hid (HBL.out.kept HBr.out)
                          clear hlq
                          go_wp2_with fail
                          go_roundw
                          case rel => exact ⟨q + 1, hlt, by go_num, HPN, HBLq, HBq⟩
                          case measure => simp [RowKit.intOf]; omega
                · have hd : decide (k < LP) = false := decide_eq_false hlt
                  have hki : ¬ (k : Int) < (LP : Int) := by omega
                  have hkl : k = lp.length := by rw [← HLP.out]; omega
                  have HFP : Hid (PartsOk lp) := ⟨by rw [← HLP.out]; exact hp1, by rw [← HLP.out]; exact hp8, by rw [← hkl]; exact HK.out⟩
                  clear hkl hlt hk
                  go_wp2_with fail
                  clear HK
                  have HBK2 := Lib.hid HBk.out
                  have HB2 := Lib.hid HB.out
                  clear HBk HB g9
                  go_loopw [7] (fun i wr => ∃ k : Nat, k ≤ LC ∧ i = .int .i64 k ∧ Hid (RowOk (·.1) clOk lc k) ∧ Hid (Blk wr gB #[.int .i64 pol, .int .i64 half, .int .i64 quan, .int .i64 req, .int .i64 wf, .int .i64 wa, .int .i64 ws, .int .i64 wq, .int .i64 wp, .slice pa LP pc, .slice ca LC cc, .slice aa LA ac] 65) ∧ Hid (Below w.heap.size w wr)) (fun i _ => LC - (RowKit.intOf i).toNat)
                  case atStart => exact ⟨0, Nat.zero_le _, rfl, RowOk.zero _ _ _, HBK2, HB2⟩
                  case round =>
                    obtain ⟨k, hk, rfl, HK, HBk, HB⟩ := hrel
                    have g10 := HBk.out.cell 10
                    simp at g10
                    by_cases hlt : k < LC
                    · have hd : decide (k < LC) = true := decide_eq_true hlt
                      have hki : (k : Int) < (LC : Int) := by omega
                      have hkl : k < lc.length := by rw [← HLC.out]; exact hlt
                      obtain ⟨b, off, hva, hall⟩ := rowG_all HC.out (by omega)
                      subst hva
                      have HALL := Lib.hid hall
                      have hse := SHC.out _ (List.getElem_mem hkl)
                      have hcell := hall k hkl
                      obtain ⟨⟨nm, x1, x2⟩, hx⟩ : ∃ x, x = lc[k] := ⟨_, rfl⟩
                      rw [← hx] at hcell hse
                      have c0 := hcell wr HB.out 0 _ rfl
                      have c1 := hcell wr HB.out 1 _ rfl
                      have c2 := hcell wr HB.out 2 _ rfl
                      dsimp only at c0 c1 c2 hse
                      simp only [Nat.add_zero] at c0
                      have HX := Lib.hid hx
                      obtain ⟨wA, hwA⟩ : ∃ wA, wA = wr.alloc (.cells #[.string nm, .int .i64 x1, .int .i64 x2] 69) := ⟨_, rfl⟩
                      have hbA : Below wr.heap.size wr wA := by rw [hwA]; exact (Below.refl _ _).alloc (Nat.le_refl _) _
                      obtain ⟨gE, hgE⟩ : ∃ gE, gE = wr.heap.size := ⟨_, rfl⟩
                      have HE : Hid (Blk wA gE #[.string nm, .int .i64 x1, .int .i64 x2] 69) := by unfold Hid; rw [hwA, hgE]; exact Blk.new _ _ _
                      have HBA := Lib.hid (HB.out.trans (hbA.mono HB.out.size))
                      have HBL := Lib.hid (HBk.out.kept hbA)
                      have NK := Lib.hid (NM.out nm wA hse)
                      obtain ⟨y0, hy0⟩ : ∃ y, y = nameB nm := ⟨_, rfl⟩
                      obtain ⟨y1, hy1⟩ : ∃ y, y = inR x1 0 1048576 := ⟨_, rfl⟩
                      obtain ⟨y2, hy2⟩ : ∃ y, y = inR x2 1 1048576 := ⟨_, rfl⟩
                      have HAC : Hid (clOk lc[k] = (y0 && y1 && y2)) := by unfold Hid; rw [← hx, hy0, hy1, hy2]; rfl
                      have HY0 := Lib.hid hy0
                      have HY1 := Lib.hid hy1
                      have HY2 := Lib.hid hy2
                      have e0 := HE.out.cell 0
                      have e1 := HE.out.cell 1
                      have e2 := HE.out.cell 2
                      simp at e0 e1 e2
                      clear hcell hall hse hx hbA hy0 hy1 hy2
                      go_upto_region 23 with fail
                      rw [← hwA, ← hgE]
                      clear hwA hgE c0 c1 c2
                      go_cut [139] (fun sl wx => sl = .bool (!(y0 && y1 && y2)) ∧ Hid (wA = wx))
                      case first =>
                        go_wp2_with fail
                        refine NK.out.mono ?_; rintro e w1 ⟨rfl, hw⟩; replace hw := hw.symm; subst hw
                        rw [← HY0.out]
                        cases y0 with
                        | false =>
                          go_wp2_with fail
                          go_meet
                          exact ⟨by simp, rfl⟩
                        | true =>
                          go_wp2_with fail
                          refine (WI.out _ _ _ _).mono ?_; rintro e w1 ⟨rfl, hw⟩; replace hw := hw.symm; subst hw
                          rw [← HY1.out]
                          cases y1 with
                          | false =>
                            go_wp2_with fail
                            go_meet
                            exact ⟨by simp, rfl⟩
                          | true =>
                            go_wp2_with fail
                            refine (WI.out _ _ _ _).mono ?_; rintro e w1 ⟨rfl, hw⟩; replace hw := hw.symm; subst hw
                            rw [← HY2.out]
                            go_wp2_with fail
                            go_meet
                            exact ⟨by simp, rfl⟩
                      case rest =>
                        obtain ⟨rfl, hw⟩ := hcut
                        obtain rfl := hw.out
                        clear HY0 HY1 HY2 NK
                        obtain ⟨y, hy⟩ : ∃ y, y = (y0 && y1 && y2) := ⟨_, rfl⟩
                        rw [← hy] at HAC ⊢
                        clear hy e1 e2
                        cases y with
                        | false =>
                          have HNO : Hid (¬ ConfOk ⟨pol, half, quan, req, [wf, wa, ws, wq, wp], lp, lc, la⟩) := fun h => by have := h.2.2.2.1.2.2.el k hkl hkl; rw [HAC.out] at this; cases this
                          go_wp2_with fail
                          go_ret
                          exact ⟨100, rfl, .inr ⟨rfl, HNO.out⟩, HBA.out⟩
                        | true =>
                          clear e0 g10
                          go_wp2_with fail
                          go_loopw [9] (fun i wr => ∃ (q : Nat), q ≤ k ∧ i = .int .i64 q ∧ Hid (nm ∉ (lc.take q).map (·.1)) ∧ Hid (Below wA.heap.size wA wr)) (fun i _ => k - (RowKit.intOf i).toNat)
                          case atStart => exact ⟨0, Nat.zero_le _, rfl, by unfold Hid; simp, Below.refl _ _⟩
                          case round =>
                            obtain ⟨q, hqk, rfl, HN, HBr⟩ := hrel
                            by_cases hlq : q < k
                            · have hdq : decide (q < k) = true := decide_eq_true hlq
                              have hqi : (q : Int) < (k : Int) := by omega
                              have hqL : (q : Int) < (LC : Int) := by omega
                              have hql : q < lc.length := by rw [← HLC.out]; omega
                              have htn := take_names (·.1) hql
                              have HBq := Lib.hid (HBA.out.trans (HBr.out.mono HBA.out.size))
                              have a0 := HALL.out q hql wr HBq.out 0 _ rfl
                              have e0 := (HE.out.kept HBr.out).cell 0
                              have g10 := (HBL.out.kept HBr.out).cell 10
                              simp at e0 g10
                              simp only [Nat.add_zero] at a0
                              obtain ⟨qn, hqn⟩ : ∃ qn, qn = lc[q].1 := ⟨_, rfl⟩
                              rw [← hqn] at htn a0
                              have HTN := Lib.hid htn
                              clear htn hqn
                              by_cases qa : qn = nm
                              · have q1 : (qn.toList == nm.toList) = true := by rw [str_beq]; exact decide_eq_true qa
                                have HNO : Hid (¬ ConfOk ⟨pol, half, quan, req, [wf, wa, ws, wq, wp], lp, lc, la⟩) := fun h => by
                                  refine (RowOk.back (l := lc) h.2.2.2.1.2.2 hkl hkl).2 ?_
                                  rw [← HX.out]
                                  refine List.mem_map.2 ⟨lc[q], List.mem_take_iff_getElem.2 ⟨q, by omega, rfl⟩, ?_⟩
                                  have := HTN.out
                                  rw [take_names (·.1) hql] at this
                                  have h2 := List.append_cancel_left this
                                  injection h2 with h2
                                  exact h2.trans qa
                                clear qa
                                go_upto_region 28 with fail
                                go_quiet (fail)
                                go_wp2_with fail
                                go_ret
                                exact ⟨100, rfl, .inr ⟨rfl, HNO.out⟩, below_drewN HBq.out _⟩
                              · have q1 : (qn.toList == nm.toList) = false := by rw [str_beq]; exact decide_eq_false qa
                                have HN2 : Hid (nm ∉ (lc.take (q + 1)).map (·.1)) := by
                                  unfold Hid; rw [HTN.out, List.mem_append]
                                  rintro (h | h)
                                  · exact HN.out h
                                  · rw [List.mem_singleton] at h; exact qa h.symm
                                clear qa
                                go_upto_region 28 with fail
                                go_quiet (fail)
                                go_wp2_with fail
                                go_roundw
                                case rel => exact ⟨q + 1, hlq, by go_num, HN2, below_drewN HBr.out _⟩
                                case measure => simp [RowKit.intOf]; omega
                            · have hdq : decide (q < k) = false := decide_eq_false hlq
                              have hqi : ¬ (q : Int) < (k : Int) := by omega
                              obtain rfl : q = k := by omega
                              have HPN : Hid (RowOk (·.1) clOk lc (q + 1)) := HK.out.step hkl HAC.out (by rw [← HX.out]; exact HN.out)
                              have HBq := Lib.hid (HBA.out.trans (HBr.out.mono HBA.out.size))
                              have HBLq := Lib.hid (HBL.out.kept HBr.out)
                              clear hlq
                              go_wp2_with fail
                              go_roundw
                              case rel => exact ⟨q + 1, hlt, by go_num, HPN, HBLq, HBq⟩
                              case measure => simp [RowKit.intOf]; omega
                    · have hd : decide (k < LC) = false := decide_eq_false hlt
                      have hki : ¬ (k : Int) < (LC : Int) := by omega
                      have hkl : k = lc.length := by rw [← HLC.out]; omega
                      have HFC : Hid (ClassesOk lc) := ⟨by rw [← HLC.out]; exact hc1, by rw [← HLC.out]; exact hc8, by rw [← hkl]; exact HK.out⟩
                      clear hkl hlt hk
                      have g11 := HBk.out.cell 11
                      simp at g11
                      have HTR := Lib.hid (tree_any (.slice aa LA ac) la wr (HA.out.kept HB.out) SA.out (by rw [← HLA.out]; exact ha5))
                      go_wp2_with fail
                      refine HTR.out.mono ?_; rintro e w1 ⟨er, rfl, he, b1⟩
                      have HER := Lib.hid he
                      have HB9 := Lib.hid (HB.out.trans (b1.mono HB.out.size))
                      clear he b1 HTR
                      go_wp2_with fail
                      go_ret
                      refine ⟨er, rfl, ?_, HB9.out⟩
                      rcases HER.out with ⟨h1, h2⟩ | ⟨h1, h2⟩
                      · exact .inl ⟨h1, HNUM.out, HWT.out, HFP.out, HFC.out, by rw [← HLA.out]; exact ha1, by rw [← HLA.out]; exact ha5, h2.1, h2.2⟩
                      · exact .inr ⟨h1, fun h => h2 ⟨h.2.2.2.2.2.2.1, h.2.2.2.2.2.2.2⟩⟩
end Go.Proofs.YtbnlmeegepgioaaDoor
