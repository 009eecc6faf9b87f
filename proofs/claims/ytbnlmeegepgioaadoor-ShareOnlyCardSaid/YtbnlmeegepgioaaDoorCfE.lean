/-
  conf.Check: at any configuration.
-/
import Derived.Test.YtbnlmeegepgioaaDoorCfD
namespace Go.Proofs.YtbnlmeegepgioaaDoor
open Go Go.RowKit Go.Lib
set_option linter.unusedVariables false

def confV (pol half quan req f a s q p : Int) (vp vc va : Value) : Value := .agg #[.int .i64 pol, .int .i64 half, .int .i64 quan, .int .i64 req, .int .i64 f, .int .i64 a, .int .i64 s, .int .i64 q, .int .i64 p, vp, vc, va]
def CheckPost (P : Prop) (w : World) (e : Ending) (w' : World) : Prop := ∃ er : Int, e = .returned (.int .i64 er) ∧ ((er = 0 ∧ P) ∨ (er = 100 ∧ ¬ P)) ∧ Below w.heap.size w w'
set_option maxRecDepth 100000 in
set_option maxHeartbeats 4000000 in
theorem confCheck_any (pol half quan req f a s q p : Int) (vp vc va : Value) (lp : List PaT) (lc : List ClT) (la : List AcT) (w : World) (hp : PRow w vp lp) (hc : QRow w vc lc) (ha : AcRow w va la)
    (sp : ∀ x ∈ lp, Short x.1) (sc : ∀ x ∈ lc, Short x.1) (sa : ∀ x ∈ la, Short x.1 ∧ Short x.2.1) (hT : U8W w) :
    Calls Tryd.prog 41 #[confV pol half quan req f a s q p vp vc va] w fun e w' => CheckPost (ConfOk ⟨pol, half, quan, req, [f, a, s, q, p], lp, lc, la⟩) w e w' := by
  have WI : Hid (∀ n lo hi w, Calls Tryd.prog 54 #[.int .i64 n, .int .i64 lo, .int .i64 hi] w fun e w' => e = .returned (.bool (inR n lo hi)) ∧ w' = w) := within_any
  obtain ⟨pa, pc, rfl⟩ := hp.slice
  obtain ⟨ca, cc, rfl⟩ := hc.slice
  obtain ⟨aa, ac, rfl⟩ := ha.slice
  have HP := Lib.hid hp
  have HC := Lib.hid hc
  have HA := Lib.hid ha
  have HT := Lib.hid hT
  have SP := Lib.hid sp
  have SC := Lib.hid sc
  have SA := Lib.hid sa
  obtain ⟨w0, hw0⟩ : ∃ w0, w0 = w.alloc (.cells #[.int .i64 pol, .int .i64 half, .int .i64 quan, .int .i64 req, .int .i64 f, .int .i64 a, .int .i64 s, .int .i64 q, .int .i64 p, .slice pa lp.length pc, .slice ca lc.length cc, .slice aa la.length ac] 65) := ⟨_, rfl⟩
  obtain ⟨gB, hgB⟩ : ∃ gB, gB = w.heap.size := ⟨_, rfl⟩
  have hb0 : Below w.heap.size w w0 := by rw [hw0]; exact (Below.refl _ _).alloc (Nat.le_refl _) _
  have HB0 := Lib.hid hb0
  have HE0 : Hid (Blk w0 gB #[.int .i64 pol, .int .i64 half, .int .i64 quan, .int .i64 req, .int .i64 f, .int .i64 a, .int .i64 s, .int .i64 q, .int .i64 p, .slice pa lp.length pc, .slice ca lc.length cc, .slice aa la.length ac] 65) := by unfold Hid; rw [hw0, hgB]; exact Blk.new _ _ _
  obtain ⟨y1, hy1⟩ : ∃ y, y = inR pol 1 4 := ⟨_, rfl⟩
  obtain ⟨y2, hy2⟩ : ∃ y, y = inR half 1 4294967296 := ⟨_, rfl⟩
  obtain ⟨y3, hy3⟩ : ∃ y, y = inR quan 1 1073741824 := ⟨_, rfl⟩
  obtain ⟨y4, hy4⟩ : ∃ y, y = inR req 0 100 := ⟨_, rfl⟩
  have HNUM : Hid (numsOk ⟨pol, half, quan, req, [f, a, s, q, p], lp, lc, la⟩ = (y1 && y2 && y3 && y4)) := by unfold Hid numsOk; rw [hy1, hy2, hy3, hy4]
  have HY1 := Lib.hid hy1
  have HY2 := Lib.hid hy2
  have HY3 := Lib.hid hy3
  have HY4 := Lib.hid hy4
  have e0 := HE0.out.cell 0
  have e1 := HE0.out.cell 1
  have e2 := HE0.out.cell 2
  have e3 := HE0.out.cell 3
  have e4 := HE0.out.cell 4
  have e5 := HE0.out.cell 5
  have e6 := HE0.out.cell 6
  have e7 := HE0.out.cell 7
  have e8 := HE0.out.cell 8
  simp at e0 e1 e2 e3 e4 e5 e6 e7 e8
  clear hp hc ha hT sp sc sa hb0 hy1 hy2 hy3 hy4
  unfold confV
  go_enter Tryd.func41, Tryd.ntmps41
  go_upto_region 1 with fail
  rw [← hw0, ← hgB]
  clear hw0 hgB
  go_cut [3] (fun sl wx => sl = .bool (y1 && y2 && y3 && y4) ∧ Hid (w0 = wx))
  case first =>
    go_wp2_with fail
    refine (WI.out _ _ _ _).mono ?_; rintro e w1 ⟨rfl, hw⟩; replace hw := hw.symm; subst hw
    rw [← HY1.out]
    cases y1 with
    | false =>
      go_wp2_with fail
      go_meet
      exact ⟨by simp, rfl⟩
    | true =>
      go_wp2_with fail
      refine (WI.out _ _ _ _).mono ?_; rintro e w1 ⟨rfl, hw⟩; replace hw := hw.symm; subst hw
      rw [← HY2.out]
      cases y2 with
      | false =>
        go_wp2_with fail
        go_meet
        exact ⟨by simp, rfl⟩
      | true =>
        go_wp2_with fail
        refine (WI.out _ _ _ _).mono ?_; rintro e w1 ⟨rfl, hw⟩; replace hw := hw.symm; subst hw
        rw [← HY3.out]
        cases y3 with
        | false =>
          go_wp2_with fail
          go_meet
          exact ⟨by simp, rfl⟩
        | true =>
          go_wp2_with fail
          refine (WI.out _ _ _ _).mono ?_; rintro e w1 ⟨rfl, hw⟩; replace hw := hw.symm; subst hw
          rw [← HY4.out]
          cases y4 with
          | false =>
            go_wp2_with fail
            go_meet
            exact ⟨by simp, rfl⟩
          | true =>
            go_wp2_with fail
            go_meet
            exact ⟨by simp, rfl⟩
  case rest =>
    obtain ⟨rfl, hw⟩ := hcut
    obtain rfl := hw.out
    clear HY1 HY2 HY3 HY4
    obtain ⟨nb, hnb⟩ : ∃ nb, nb = (y1 && y2 && y3 && y4) := ⟨_, rfl⟩
    rw [← hnb] at HNUM ⊢
    clear hnb
    cases nb with
    | false =>
      have HNO : Hid (¬ ConfOk ⟨pol, half, quan, req, [f, a, s, q, p], lp, lc, la⟩) := fun h => by have := h.1; rw [HNUM.out] at this; cases this
      go_wp2_with fail
      go_ret
      exact ⟨100, rfl, .inr ⟨rfl, HNO.out⟩, HB0.out⟩
    | true =>
      have WT := Lib.hid (areWeights_any f a s q p w0)
      unfold wtV at WT
      go_wp2_with fail
      refine WT.out.mono ?_; rintro e w1 ⟨r, rfl, hr, b1⟩
      have HR1 := Lib.hid hr
      have HB1 := Lib.hid (HB0.out.trans (b1.mono HB0.out.size))
      have HE1 := Lib.hid (HE0.out.kept b1)
      have g5 := HE1.out.cell 9
      simp at g5
      clear hr b1 WT e0 e1 e2 e3 e4 e5 e6 e7 e8
      cases r with
      | false =>
        have HNO : Hid (¬ ConfOk ⟨pol, half, quan, req, [f, a, s, q, p], lp, lc, la⟩) := fun h => by have := HR1.out.2 h.2.1; cases this
        go_wp2_with fail
        go_ret
        exact ⟨100, rfl, .inr ⟨rfl, HNO.out⟩, HB1.out⟩
      | true =>
        have HW : Hid (wtsOk [f, a, s, q, p] = true) := by unfold Hid; simpa using HR1.out
        have PT := Lib.hid (areParts_any _ lp w1 (HP.out.kept HB1.out) SP.out (HT.out.next HB1.out))
        go_wp2_with fail
        refine PT.out.mono ?_; rintro e w2 ⟨r, rfl, hr, b2⟩
        have HR2 := Lib.hid hr
        have HB2 := Lib.hid (HB1.out.trans (b2.mono HB1.out.size))
        have HE2 := Lib.hid (HE1.out.kept b2)
        have g6 := HE2.out.cell 10
        simp at g6
        clear hr b2 PT g5 HR1
        cases r with
        | false =>
          have HNO : Hid (¬ ConfOk ⟨pol, half, quan, req, [f, a, s, q, p], lp, lc, la⟩) := fun h => by have := HR2.out.2 h.2.2.1; cases this
          go_wp2_with fail
          go_ret
          exact ⟨100, rfl, .inr ⟨rfl, HNO.out⟩, HB2.out⟩
        | true =>
          have HPO : Hid (PartsOk lp) := by unfold Hid; simpa using HR2.out
          have CT := Lib.hid (areClasses_any _ lc w2 (HC.out.kept HB2.out) SC.out (HT.out.next HB2.out))
          go_wp2_with fail
          refine CT.out.mono ?_; rintro e w3 ⟨r, rfl, hr, b3⟩
          have HR3 := Lib.hid hr
          have HB3 := Lib.hid (HB2.out.trans (b3.mono HB2.out.size))
          have HE3 := Lib.hid (HE2.out.kept b3)
          have g7 := HE3.out.cell 11
          simp at g7
          clear hr b3 CT g6 HR2
          cases r with
          | false =>
            have HNO : Hid (¬ ConfOk ⟨pol, half, quan, req, [f, a, s, q, p], lp, lc, la⟩) := fun h => by have := HR3.out.2 h.2.2.2.1; cases this
            go_wp2_with fail
            go_ret
            exact ⟨100, rfl, .inr ⟨rfl, HNO.out⟩, HB3.out⟩
          | true =>
            have HCO : Hid (ClassesOk lc) := by unfold Hid; simpa using HR3.out
            have AT := Lib.hid (areAccounts_any _ la w3 (HA.out.kept HB3.out) SA.out (HT.out.next HB3.out))
            go_wp2_with fail
            refine AT.out.mono ?_; rintro e w4 ⟨r, rfl, hr, b4⟩
            have HR4 := Lib.hid hr
            have HB4 := Lib.hid (HB3.out.trans (b4.mono HB3.out.size))
            clear hr b4 AT g7 HR3
            cases r with
            | false =>
              have HNO : Hid (¬ ConfOk ⟨pol, half, quan, req, [f, a, s, q, p], lp, lc, la⟩) := fun h => by have := HR4.out.2 h.2.2.2.2; cases this
              go_wp2_with fail
              go_ret
              exact ⟨100, rfl, .inr ⟨rfl, HNO.out⟩, HB4.out⟩
            | true =>
              have HAO : Hid (AccOk la) := by unfold Hid; simpa using HR4.out
              have HY : Hid (ConfOk ⟨pol, half, quan, req, [f, a, s, q, p], lp, lc, la⟩) := ⟨HNUM.out, HW.out, HPO.out, HCO.out, HAO.out⟩
              go_wp2_with fail
              go_ret
              exact ⟨0, rfl, .inl ⟨rfl, HY.out⟩, HB4.out⟩
end Go.Proofs.YtbnlmeegepgioaaDoor
