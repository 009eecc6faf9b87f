/-
  DependJoins: needs together, all of them or one of them, say what their parts say: so the law returns true for every input, the listed tables of Go's library reading as the program's text lays them.
-/
import Derived.Test.YtpobghdiecfoaaaDoorDeW8
import Derived.Test.YtpobghdiecfoaaaDoorDeAr
import Derived.Test.YtpobghdiecfoaaaDoorLaw
import Derived.Test.YtpobghdiecfoaaaDoorDeW
import Derived.Test.YtpobghdiecfoaaaDoorRows
import Derived.Test.YtpobghdiecfoaaaDoorArgs2
import Derived.Test.YtpobghdiecfoaaaDoorLaid
import Derived.Test.YtpobghdiecfoaaaDoorCards
import Derived.Test.YtpobghdiecfoaaaDoorTie
import Derived.MakeChecks
import Derived.SevenTiedAt
namespace Go.Proofs.YtpobghdiecfoaaaDoor.dependJoins
open Go.ChangeShapes Go.WideShapes Go.ChangeAt Go.RowKit
set_option linter.unusedVariables false

theorem own : ownKnob Tryd.prog.godebug = none := by kernel_rfl

open Go Go.RowKit Go.Lib
theorem nd_one {l : List NdM} : ∀ u ∈ l.flatMap ndV, (∀ p ∈ l, ∃ a n c, p.2.1 = .slice a n c) → u.oneCell' = true := fun u hu h => by
  obtain ⟨p, hp, hm⟩ := List.mem_flatMap.1 hu
  obtain ⟨a, n, c, e⟩ := h p hp
  unfold ndV at hm
  rw [e] at hm
  simp at hm
  rcases hm with rfl | rfl <;> rfl
theorem nrw_one {w : World} {v : Value} {l : List NdM} (h : NRw w v l) : ∀ u ∈ l.flatMap ndV, u.oneCell' = true := fun u hu => nd_one u hu fun p hp => by
  obtain ⟨a, c, e⟩ := (h.jobs p hp).slice
  exact ⟨a, _, c, e⟩
set_option maxRecDepth 100000 in
set_option maxHeartbeats 8000000 in
theorem walk (aa : Bool) (av : Value) (al : List NdM) (ba : Bool) (bv : Value) (bl : List NdM) (wv : Value) (wl : List Wh) (alone : Bool) (w : World) (hE : Env8 w) (hda : NRx w av al) (hdb : NRx w bv bl) (hw : WhArg w wv wl) :
    Calls Tryd.prog 8 #[.agg #[.bool aa, av], .agg #[.bool ba, bv], wv, .bool alone] w fun e w' => e = .returned (.bool true) ∧ Below w.heap.size w w' := by
  have K : Hid (∀ w1, Below w.heap.size w w1 → Calls Tryd.prog 11 #[] w1 fun e w' => e = .returned (.bool true) ∧ Below w1.heap.size w1 w') := fun w1 hb => known8_any w1 (hE.next hb)
  have HDA := Lib.hid hda
  have HDB := Lib.hid hdb
  have HW := Lib.hid hw
  obtain ⟨da, dc, rfl⟩ := hda.row.slice
  obtain ⟨ea, ec, rfl⟩ := hdb.row.slice
  obtain ⟨la, lc, rfl⟩ := hw.1.slice
  obtain ⟨LA, hLA⟩ : ∃ n, n = al.length := ⟨_, rfl⟩
  obtain ⟨LB, hLB⟩ : ∃ n, n = bl.length := ⟨_, rfl⟩
  obtain ⟨LW, hLW⟩ : ∃ n, n = wl.length := ⟨_, rfl⟩
  have HLE : Hid (LA = al.length ∧ LB = bl.length ∧ LW = wl.length) := ⟨hLA, hLB, hLW⟩
  rw [← hLA] at HDA ⊢
  rw [← hLB] at HDB ⊢
  rw [← hLW] at HW ⊢
  have MA : Hid (∀ w1, Below w.heap.size w w1 → Calls Tryd.prog 10 #[.agg #[.bool aa, .slice da LA dc], .slice la LW lc] w1 fun e w' => ManyTo (al.length + LW + lensOf al) e ∧ Below w1.heap.size w1 w') := fun w1 hb => many_any aa (.slice da LA dc) al la LW lc w1 (HDA.out.kept hb) (by rw [hLW]; exact HW.out.2.1)
  have MB : Hid (∀ w1, Below w.heap.size w w1 → Calls Tryd.prog 10 #[.agg #[.bool ba, .slice ea LB ec], .slice none 0 0] w1 fun e w' => ManyTo (bl.length + 0 + lensOf bl) e ∧ Below w1.heap.size w1 w') := fun w1 hb => many_any ba (.slice ea LB ec) bl none 0 0 w1 (HDB.out.kept hb) (by omega)
  obtain ⟨g4, hg4⟩ : ∃ g, g = w.heap.size := ⟨_, rfl⟩
  obtain ⟨g5, hg5⟩ : ∃ g, g = g4 + 1 := ⟨_, rfl⟩
  obtain ⟨X, hX⟩ : ∃ X, X = (w.alloc (.cells #[.bool aa, .slice da LA dc] 24)).alloc (.cells #[.bool ba, .slice ea LB ec] 24) := ⟨_, rfl⟩
  have HBX : Hid (Below w.heap.size w X) := by unfold Hid; rw [hX]; exact ((Below.refl _ _).alloc (Nat.le_refl _) _).alloc (by simp) _
  have HKA : Hid (Blk X g4 #[.bool aa, .slice da LA dc] 24) := by unfold Hid; rw [hX, hg4]; exact (Blk.new w _ _).old _
  have HKB : Hid (Blk X g5 #[.bool ba, .slice ea LB ec] 24) := by unfold Hid; rw [hX]; exact Blk.fresh _ _ _ g5 (by rw [hg5, hg4]; simp)
  have HGG : Hid (w.heap.size ≤ g4 ∧ g4 < g5) := ⟨Nat.le_of_eq hg4.symm, by omega⟩
  have HXX := Lib.hid hX
  have HG4 := Lib.hid hg4
  have HG5 := Lib.hid hg5
  have x0 := HKA.out.cell 0
  have x1 := HKA.out.cell 1
  have y0 := HKB.out.cell 0
  have y1 := HKB.out.cell 1
  simp at x0 x1 y0 y1
  clear hE hda hdb hw hLA hLB hLW hX hg4 hg5
  go_enter Tryd.func8, Tryd.ntmps8
  go_upto_region 1 with fail
  rw [← HG4.out, ← HG5.out, ← HXX.out]
  go_wp2_with fail
  refine (MA.out X HBX.out).mono ?_; rintro e w1 ⟨⟨β, rfl, hβ⟩, b1⟩
  have HB1 := Lib.hid (below_next b1 HBX.out)
  have HK1 := Lib.hid b1
  have d0 := cell_next b1 y0
  have d1 := cell_next b1 y1
  have HBA := Lib.hid hβ
  clear b1 MA hβ x0 x1 y0 y1
  cases β with
  | true =>
    go_wp2_with fail
    refine (K.out w1 HB1.out).mono ?_; rintro e w2 ⟨rfl, b2⟩
    have HB2 := below_next b2 HB1.out
    clear b2
    go_wp2_with fail
    go_returns
    exact ⟨rfl, HB2⟩
  | false =>
  have HSA := Lib.hid (HBA.out rfl)
  clear HBA
  go_wp2_with fail
  refine (MB.out w1 HB1.out).mono ?_; rintro e w2 ⟨⟨β, rfl, hβ⟩, b2⟩
  have HB2 := Lib.hid (below_next b2 HB1.out)
  have HK2 := Lib.hid (below_next b2 HK1.out)
  have HBB := Lib.hid hβ
  clear b2 MB hβ d0 d1 HB1 HK1
  cases β with
  | true =>
    go_wp2_with fail
    refine (K.out w2 HB2.out).mono ?_; rintro e w3 ⟨rfl, b3⟩
    have HB3 := below_next b3 HB2.out
    clear b3
    go_wp2_with fail
    go_returns
    exact ⟨rfl, HB3⟩
  | false =>
  have hsa := HSA.out
  have hsb := HBB.out rfl
  have HNA : Hid (NRw w (.slice da LA dc) al) := HDA.out.few (by omega)
  have HNB : Hid (NRw w (.slice ea LB ec) bl) := HDB.out.few (by omega)
  have hwn : wl.length ≤ 1048576 := by have := HLE.out.2.2; omega
  have HWN := Lib.hid hwn
  have HWR : Hid (RowG 2 whV w (.slice la LW lc) wl) := HW.out.1
  have hLAb : LA ≤ 1000 := by have := HLE.out.1; omega
  have hLBb : LB ≤ 1000 := by have := HLE.out.2.1; omega
  clear hsa hsb hwn HSA HBB HW HDA HDB
  have HA2 := Lib.hid (HKA.out.kept HK2.out)
  have HB22 := Lib.hid (HKB.out.kept HK2.out)
  have x0 := HA2.out.cell 0
  have y0 := HB22.out.cell 0
  simp at x0 y0
  have fx0 := HA2.out.free 0
  have fy0 := HB22.out.free 0
  have y0' : (w2.setCell ⟨g4, 0, none⟩ (.bool false)).cell? ⟨g5, 0, none⟩ = some (.bool ba) := by
    have := (HB22.out.other (a := ⟨g4, 0, none⟩) (by show g5 ≠ g4; have := HGG.out; omega) (.bool false)).cell 0
    simpa using this
  have fy0' : (w2.setCell ⟨g4, 0, none⟩ (.bool false)).frozen? ⟨g5, 0, none⟩ = false := (HB22.out.other (a := ⟨g4, 0, none⟩) (by show g5 ≠ g4; have := HGG.out; omega) (.bool false)).free 0
  obtain ⟨V, hV⟩ : ∃ x, x = (w2.setCell ⟨g4, 0, none⟩ (.bool false)).setCell ⟨g5, 0, none⟩ (.bool false) := ⟨_, rfl⟩
  have HVA : Hid (Blk V g4 #[.bool false, .slice da LA dc] 24) := by unfold Hid; rw [hV]; exact (HA2.out.set 0 (.bool false)).other (by show g4 ≠ g5; have := HGG.out; omega) _
  have HVB : Hid (Blk V g5 #[.bool false, .slice ea LB ec] 24) := by
    unfold Hid; rw [hV]
    exact (HB22.out.other (a := ⟨g4, 0, none⟩) (by show g5 ≠ g4; have := HGG.out; omega) (.bool false)).set 0 (.bool false)
  have HBV : Hid (Below w.heap.size w V) := by
    unfold Hid; rw [hV]
    have c1 : Chg (fun k => k = g4 ∨ k = g5) w2 (w2.setCell ⟨g4, 0, none⟩ (.bool false)) := Chg.setCell 0 _ (.inl rfl)
    have c2 : Chg (fun k => k = g4 ∨ k = g5) (w2.setCell ⟨g4, 0, none⟩ (.bool false)) ((w2.setCell ⟨g4, 0, none⟩ (.bool false)).setCell ⟨g5, 0, none⟩ (.bool false)) := Chg.setCell 0 _ (.inr rfl)
    exact HB2.out.trans ((c1.trans c2).to_below HB2.out.size fun k hk e => by
      have := HGG.out
      rcases e with e | e <;> omega)
  have HVV := Lib.hid hV
  clear hV HA2 HB22 HKA HKB HK2 HB2
  go_upto_region 5 with fail
  rw [← HVV.out]
  clear HVV x0 y0 fx0 fy0 y0' fy0'
  have x0 := HVA.out.cell 0
  have x1 := HVA.out.cell 1
  have y0 := HVB.out.cell 0
  have y1 := HVB.out.cell 1
  simp at x0 x1 y0 y1
  have CA : Hid (∀ w1, Below w.heap.size w w1 → Calls Tryd.prog 13 #[.agg #[.bool false, .slice da LA dc]] w1 fun e w' => e = .returned (.int .i64 (chkD false (ndsOf al))) ∧ Below w1.heap.size w1 w') := fun w1 hb => check_any false _ al w1 (HNA.out.kept hb)
  have CB : Hid (∀ w1, Below w.heap.size w w1 → Calls Tryd.prog 13 #[.agg #[.bool false, .slice ea LB ec]] w1 fun e w' => e = .returned (.int .i64 (chkD false (ndsOf bl))) ∧ Below w1.heap.size w1 w') := fun w1 hb => check_any false _ bl w1 (HNB.out.kept hb)
  go_cut [55] from 26 to 55 (fun bv wx => ∃ β : Bool, bv = .bool β ∧ Hid (β = false → okD false (ndsOf al) ∧ okD false (ndsOf bl) ∧ LA = 1 ∧ LB = 1) ∧ Hid (Below V.heap.size V wx))
  case first =>
    by_cases hoa : okD false (ndsOf al)
    · have hca : chkD false (ndsOf al) = 0 := if_pos hoa
      rw [hca] at CA
      have HOA := Lib.hid hoa
      clear hca hoa
      go_wp2_with fail
      refine (CA.out V HBV.out).mono ?_; rintro e w3 ⟨rfl, b3⟩
      have HB3 := Lib.hid b3
      have HB3W := Lib.hid (below_next b3 HBV.out)
      have z0 := cell_next b3 y0
      have z1 := cell_next b3 y1
      have v1 := cell_next b3 x1
      clear b3 CA x0 y0
      by_cases hob : okD false (ndsOf bl)
      · have hcb : chkD false (ndsOf bl) = 0 := if_pos hob
        rw [hcb] at CB
        have HOB := Lib.hid hob
        clear hcb hob
        go_wp2_with fail
        refine (CB.out w3 HB3W.out).mono ?_; rintro e w4 ⟨rfl, b4⟩
        have HB4 := Lib.hid (below_next b4 HB3.out)
        have u1 := cell_next HB4.out x1
        have t1 := cell_next HB4.out y1
        clear b4 CB z0 z1 v1 x1 y1
        by_cases h20 : 20 < LA + LB
        · have q1 : decide ((LA : Int) + (LB : Int) > 20) = true := decide_eq_true (by omega)
          have q2 : decide (20 < LA + LB) = true := decide_eq_true h20
          have q3 : decide ((20 : Int) < (LA : Int) + (LB : Int)) = true := decide_eq_true (by omega)
          clear h20
          go_wp2_with fail
          go_meet
          exact ⟨true, rfl, (fun h => nomatch h), HB4.out⟩
        · have q1 : decide ((LA : Int) + (LB : Int) > 20) = false := decide_eq_false (by omega)
          have q2 : decide (20 < LA + LB) = false := decide_eq_false h20
          have q3 : decide ((20 : Int) < (LA : Int) + (LB : Int)) = false := decide_eq_false (by omega)
          clear h20
          by_cases hA1 : LA = 1
          · have p1 : ((LA : Int) != 1) = false := by simp [hA1]
            have p2 : (LA != 1) = false := by simp [hA1]
            by_cases hB1 : LB = 1
            · have p3 : ((LB : Int) != 1) = false := by simp [hB1]
              have p4 : (LB != 1) = false := by simp [hB1]
              have HF : Hid (LA = 1 ∧ LB = 1) := ⟨hA1, hB1⟩
              clear hA1 hB1
              go_wp2_with fail
              go_meet
              exact ⟨false, rfl, fun _ => ⟨HOA.out, HOB.out, HF.out.1, HF.out.2⟩, HB4.out⟩
            · have p3 : ((LB : Int) != 1) = true := by simp; omega
              have p4 : (LB != 1) = true := by simpa using hB1
              clear hA1 hB1
              go_wp2_with fail
              go_meet
              exact ⟨true, rfl, (fun h => nomatch h), HB4.out⟩
          · have p1 : ((LA : Int) != 1) = true := by simp; omega
            have p2 : (LA != 1) = true := by simpa using hA1
            clear hA1
            go_wp2_with fail
            go_meet
            exact ⟨true, rfl, (fun h => nomatch h), HB4.out⟩
      · have hcb : chkD false (ndsOf bl) = 2 := if_neg hob
        rw [hcb] at CB
        clear hcb hob
        go_wp2_with fail
        refine (CB.out w3 HB3W.out).mono ?_; rintro e w4 ⟨rfl, b4⟩
        have HB4 := Lib.hid (below_next b4 HB3.out)
        clear b4 CB z0 z1 v1 x1 y1
        go_wp2_with fail
        go_meet
        exact ⟨true, rfl, (fun h => nomatch h), HB4.out⟩
    · have hca : chkD false (ndsOf al) = 2 := if_neg hoa
      rw [hca] at CA
      clear hca hoa
      go_wp2_with fail
      refine (CA.out V HBV.out).mono ?_; rintro e w3 ⟨rfl, b3⟩
      have HB3 := Lib.hid b3
      clear b3 CA x0 x1 y0 y1
      go_wp2_with fail
      go_meet
      exact ⟨true, rfl, (fun h => nomatch h), HB3.out⟩
  case rest =>
  obtain ⟨β, rfl, HF, HBC⟩ := hcut
  have HBW := Lib.hid (below_next HBC.out HBV.out)
  clear CA CB
  cases β with
  | true =>
    go_wp2_with fail
    refine (K.out _ HBW.out).mono ?_; rintro e w3 ⟨rfl, b3⟩
    have HB3 := below_next b3 HBW.out
    clear b3
    go_wp2_with fail
    go_returns
    exact ⟨rfl, HB3⟩
  | false =>
  obtain ⟨hoa, hob, hA1, hB1⟩ := HF.out rfl
  obtain ⟨na, hna⟩ : ∃ n, ndsOf al = [n] := by
    have h : (ndsOf al).length = 1 := by rw [ndsOf_len, ← HLE.out.1]; exact hA1
    exact List.length_eq_one_iff.1 h
  obtain ⟨nb, hnb⟩ : ∃ n, ndsOf bl = [n] := by
    have h : (ndsOf bl).length = 1 := by rw [ndsOf_len, ← HLE.out.2.1]; exact hB1
    exact List.length_eq_one_iff.1 h
  rw [hna] at hoa
  rw [hnb] at hob
  have hoc : okD false [na, nb] := ⟨by simp, (fun h => nomatch h), fun n hn => by
    rcases List.mem_cons.1 hn with rfl | hn
    · exact hoa.2.2 _ (List.mem_singleton.2 rfl)
    · exact hob.2.2 _ hn⟩
  have hod : okD true [na, nb] := ⟨by simp, (fun _ => by simp), hoc.2.2⟩
  have hjA := join_all alone wl na nb
  have hjB := join_any alone wl na nb
  have hsx := sayD_le false alone wl [na]
  have hsy := sayD_le false alone wl [nb]
  obtain ⟨x, hx⟩ : ∃ x, x = sayD false alone wl [na] := ⟨_, rfl⟩
  obtain ⟨y, hy⟩ : ∃ x, x = sayD false alone wl [nb] := ⟨_, rfl⟩
  obtain ⟨z, hz⟩ : ∃ x, x = sayD false alone wl [na, nb] := ⟨_, rfl⟩
  obtain ⟨q, hq⟩ : ∃ x, x = sayD true alone wl [na, nb] := ⟨_, rfl⟩
  have SX : Hid (∀ w1, Below w.heap.size w w1 → Calls Tryd.prog 23 #[.agg #[.bool false, .slice da LA dc], .slice la LW lc, .bool alone] w1 fun e w' => e = .returned (.int .i64 x) ∧ Below w1.heap.size w1 w') := fun w1 hb => by
    have h := say_any false _ al _ wl alone w1 (HNA.out.kept hb) (HWR.out.kept hb) HWN.out
    rw [hna, show sayB false alone wl [na] = x by rw [hx]; exact if_pos hoa] at h
    exact h
  have SY : Hid (∀ w1, Below w.heap.size w w1 → Calls Tryd.prog 23 #[.agg #[.bool false, .slice ea LB ec], .slice la LW lc, .bool alone] w1 fun e w' => e = .returned (.int .i64 y) ∧ Below w1.heap.size w1 w') := fun w1 hb => by
    have h := say_any false _ bl _ wl alone w1 (HNB.out.kept hb) (HWR.out.kept hb) HWN.out
    rw [hnb, show sayB false alone wl [nb] = y by rw [hy]; exact if_pos hob] at h
    exact h
  have SC : Hid (∀ w1 v cl, Below w.heap.size w w1 → NRw w1 v cl → ndsOf cl = [na, nb] → Calls Tryd.prog 23 #[.agg #[.bool false, v], .slice la LW lc, .bool alone] w1 fun e w' => e = .returned (.int .i64 z) ∧ Below w1.heap.size w1 w') := fun w1 v cl hb hr hn => by
    have h := say_any false v cl _ wl alone w1 hr (HWR.out.kept hb) HWN.out
    rw [hn, show sayB false alone wl [na, nb] = z by rw [hz]; exact if_pos hoc] at h
    exact h
  have SD : Hid (∀ w1 v cl, Below w.heap.size w w1 → NRw w1 v cl → ndsOf cl = [na, nb] → Calls Tryd.prog 23 #[.agg #[.bool true, v], .slice la LW lc, .bool alone] w1 fun e w' => e = .returned (.int .i64 q) ∧ Below w1.heap.size w1 w') := fun w1 v cl hb hr hn => by
    have h := say_any true v cl _ wl alone w1 hr (HWR.out.kept hb) HWN.out
    rw [hn, show sayB true alone wl [na, nb] = q by rw [hq]; exact if_pos hod] at h
    exact h
  rw [← hx, ← hy, ← hz] at hjA
  rw [← hx, ← hy, ← hq] at hjB
  rw [← hx] at hsx
  rw [← hy] at hsy
  have HJA := Lib.hid hjA
  have HJB := Lib.hid hjB
  have HNDA := Lib.hid hna
  have HNDB := Lib.hid hnb
  have HSXY := Lib.hid (And.intro hsx hsy)
  obtain ⟨i0, hi0, hz0, hz1, hz2⟩ := info_parts Tryd.infoNeed8
  have HI := Lib.hid (And.intro hi0 (And.intro hz0 (And.intro hz1 hz2)))
  clear hoa hob hA1 hB1 hoc hod hjA hjB hsx hsy hx hy hz hq hna hnb HF hi0 hz0 hz1 hz2 x0 x1 y0 y1
  obtain ⟨wc9, hwc⟩ : ∃ x : World, x = wc := ⟨_, rfl⟩
  subst hwc
  obtain ⟨g9, hg9⟩ : ∃ g, g = wc9.heap.size := ⟨_, rfl⟩
  obtain ⟨W, hW⟩ : ∃ x, x = wc9.alloc (.cells #[.bool false, .slice none 0 0] 24) := ⟨_, rfl⟩
  have hbW : Below wc9.heap.size wc9 W := by rw [hW]; exact (Below.refl _ _).alloc (Nat.le_refl _) _
  have HK9 : Hid (Blk W g9 #[.bool false, .slice none 0 0] 24) := by unfold Hid; rw [hW, hg9]; exact Blk.new _ _ _
  have HBW2 := Lib.hid (below_next hbW HBW.out)
  have HVA9 := Lib.hid ((HVA.out.kept HBC.out).kept hbW)
  have HVB9 := Lib.hid ((HVB.out.kept HBC.out).kept hbW)
  have HNA9 := Lib.hid ((HNA.out.kept HBW.out).kept hbW)
  have HNB9 := Lib.hid ((HNB.out.kept HBW.out).kept hbW)
  have HG9 := Lib.hid hg9
  have HWW := Lib.hid hW
  obtain ⟨BN, hBN⟩ : ∃ b, b = W.heap.size := ⟨_, rfl⟩
  have HBN := Lib.hid hBN
  have HG9W : Hid (w.heap.size ≤ g9 ∧ g4 < g9 ∧ g5 < g9 ∧ g9 < BN) := by
    refine ⟨?_, ?_, ?_, ?_⟩
    · rw [hg9]; exact HBW.out.size
    · rw [hg9]; exact (HVA.out.kept HBC.out).lt
    · rw [hg9]; exact (HVB.out.kept HBC.out).lt
    · rw [hBN]; exact HK9.out.lt
  clear hg9 hW hbW hBN HVA HVB HBC HBV HBW
  go_upto_region 8 with fail
  rw [← HG9.out, ← HWW.out]
  clear HWW
  have c0 := HK9.out.cell 0
  have c1 := HK9.out.cell 1
  have x0 := HVA9.out.cell 0
  have x1 := HVA9.out.cell 1
  simp at c0 c1 x0 x1
  have f1 := HK9.out.free 1
  have HSA := Lib.hid (src_of_rowG ndV_len (by decide) HNA9.out.row)
  have HOA := Lib.hid (nrw_one HNA9.out)
  have hBNW : BN ≤ W.heap.size := Nat.le_of_eq HBN.out
  have HNX1 : Hid (∀ w8, W.grownBy w8 (Value.slice none 0 0).ownBlock → Below W.heap.size W w8) := fun w8 hg => (Below.refl _ _).grown hg (Nat.le_refl _) (fun q hq => by cases hq)
  obtain ⟨hi0, hz0, hz1, hz2⟩ := HI.out
  obtain ⟨LLA, hLLA⟩ : ∃ n, n = al.length := ⟨_, rfl⟩
  have hLL : LLA = LA := hLLA.trans HLE.out.1.symm
  rw [← HLE.out.1] at HSA
  clear hLLA hLL
  go_upto_region 9 with (first | (at_builtin; refine wpList_app rfl _ _ 22 rfl BN 46 i0 _ 2 32 Tryd.underlying22 hi0 hz0 hz1 hz2 rfl (by decide) _ 0 [] rfl ⟨rfl, .inl ⟨rfl, rfl⟩⟩ _ LA (al.flatMap ndV) rfl HSA.out HOA.out (by unfold maxLen; omega) (by omega) hBNW ?_; intro v8 w8 hown8 hgrow8 hat8; have HB8 := Lib.hid (HNX1.out w8 hgrow8); have HK98 := Lib.hid (HK9.out.kept HB8.out); have z1 := HK98.out.cell 1; have fz1 := HK98.out.free 1; simp at z1; rw [Nat.zero_add, List.nil_append] at hown8; have HO8 := Lib.hid hown8; obtain ⟨a8, c8, rfl⟩ := own_slice hown8; clear hown8 hgrow8 hat8))
  obtain ⟨wz, hwz⟩ : ∃ x, x = w8.setCell ⟨g9, 1, none⟩ (.slice a8 LA c8) := ⟨_, rfl⟩
  have hcs : Chg (One g9) w8 wz := by rw [hwz]; exact Chg.setCell (own := One g9) 1 _ rfl
  have HKZ : Hid (Blk wz g9 #[.bool false, .slice a8 LA c8] 24) := by unfold Hid; rw [hwz]; exact HK98.out.set 1 _
  have HBZ : Hid (Below w.heap.size w wz) := (below_next HB8.out HBW2.out).trans (hcs.to_below (below_next HB8.out HBW2.out).size fun k hk e => by have : k = g9 := e; have := HG9W.out; omega)
  have HVAZ : Hid (Blk wz g4 #[.bool false, .slice da LA dc] 24) := by unfold Hid; rw [hwz]; exact (HVA9.out.kept HB8.out).other (by show g4 ≠ g9; have := HG9W.out; omega) _
  have HVBZ : Hid (Blk wz g5 #[.bool false, .slice ea LB ec] 24) := by unfold Hid; rw [hwz]; exact (HVB9.out.kept HB8.out).other (by show g5 ≠ g9; have := HG9W.out; omega) _
  have HOZ : Hid (wz.ownsRow BN 46 2 (.slice a8 LA c8) LA (al.flatMap ndV)) := own_one HO8.out hcs (fun e => by have := (HO8.out.lt _ e).1; have := HG9W.out; omega)
  have hBNZ : BN ≤ wz.heap.size := Nat.le_trans hBNW (Nat.le_trans HB8.out.size hcs.size)
  have HNBZ := Lib.hid (HNB.out.kept HBZ.out)
  have HSB := Lib.hid (src_of_rowG ndV_len (by decide) HNBZ.out.row)
  rw [← HLE.out.2.1] at HSB
  have HOB := Lib.hid (nrw_one HNBZ.out)
  rw [← hwz]
  clear hwz hcs HK98 HO8 HB8 HNX1 HSA HOA HVA9 HVB9 HNA9 HNB9 HBW2 hBNW z1 fz1 c0 c1 x0 x1 f1 HK9
  have c0 := HKZ.out.cell 0
  have c1 := HKZ.out.cell 1
  have x0 := HVBZ.out.cell 0
  have x1 := HVBZ.out.cell 1
  simp at c0 c1 x0 x1
  have HNO : Hid (∀ g, g = g9 ∨ g = g4 ∨ g = g5 → some g ≠ (Value.slice a8 LA c8).ownBlock) := fun g hg e => by
    have := (HOZ.out.lt g e.symm).1
    have := HG9W.out
    omega
  have HNX2 : Hid (∀ w8, wz.grownBy w8 (Value.slice a8 LA c8).ownBlock → Blk w8 g9 #[.bool false, .slice a8 LA c8] 24 ∧ Blk w8 g4 #[.bool false, .slice da LA dc] 24 ∧ Blk w8 g5 #[.bool false, .slice ea LB ec] 24 ∧ Below w.heap.size w w8) := fun w8 hg =>
    ⟨blk_grown8 HKZ.out hg (HNO.out _ (.inl rfl)), blk_grown8 HVAZ.out hg (HNO.out _ (.inr (.inl rfl))), blk_grown8 HVBZ.out hg (HNO.out _ (.inr (.inr rfl))), HBZ.out.grown hg HBZ.out.size (fun q hq => by have := (HOZ.out.lt q hq).1; have := HG9W.out; omega)⟩
  go_upto_region 10 with (first | (at_builtin; refine wpList_app rfl _ _ 22 rfl BN 46 i0 _ 2 32 Tryd.underlying22 hi0 hz0 hz1 hz2 rfl (by decide) _ LA _ rfl HOZ.out _ LB (bl.flatMap ndV) rfl HSB.out HOB.out (by unfold maxLen; omega) (by omega) hBNZ ?_; intro v8 w8 hown8 hgrow8 hat8; obtain ⟨hk9, hk4, hk5, hb8⟩ := HNX2.out w8 hgrow8; have HK98 := Lib.hid hk9; have HK48 := Lib.hid hk4; have HK58 := Lib.hid hk5; have HB8 := Lib.hid hb8; have z1 := hk9.cell 1; have fz1 := hk9.free 1; simp at z1; have HO8 := Lib.hid hown8; obtain ⟨a10, c10, rfl⟩ := own_slice hown8; clear hown8 hgrow8 hat8 hk9 hk4 hk5 hb8))
  obtain ⟨wy, hwy⟩ : ∃ x, x = w8.setCell ⟨g9, 1, none⟩ (.slice a10 (LA + LB) c10) := ⟨_, rfl⟩
  have hcs : Chg (One g9) w8 wy := by rw [hwy]; exact Chg.setCell (own := One g9) 1 _ rfl
  have HKY : Hid (Blk wy g9 #[.bool false, .slice a10 (LA + LB) c10] 24) := by unfold Hid; rw [hwy]; exact HK98.out.set 1 _
  have HBY : Hid (Below w.heap.size w wy) := HB8.out.trans (hcs.to_below HB8.out.size fun k hk e => by have : k = g9 := e; have := HG9W.out; omega)
  have HVAY : Hid (Blk wy g4 #[.bool false, .slice da LA dc] 24) := by unfold Hid; rw [hwy]; exact HK48.out.other (by show g4 ≠ g9; have := HG9W.out; omega) _
  have HVBY : Hid (Blk wy g5 #[.bool false, .slice ea LB ec] 24) := by unfold Hid; rw [hwy]; exact HK58.out.other (by show g5 ≠ g9; have := HG9W.out; omega) _
  have HOY : Hid (wy.ownsRow BN 46 2 (.slice a10 (LA + LB) c10) (LA + LB) (al.flatMap ndV ++ bl.flatMap ndV)) := own_one HO8.out hcs (fun e => by have := (HO8.out.lt _ e).1; have := HG9W.out; omega)
  have HCL : Hid (∀ w1, Below w.heap.size w w1 → w1.ownsRow BN 46 2 (.slice a10 (LA + LB) c10) (LA + LB) (al.flatMap ndV ++ bl.flatMap ndV) → NRw w1 (.slice a10 (LA + LB) c10) (al ++ bl)) := fun w1 hb ho => by
    have h1 := HNA.out.kept hb
    have h2 := HNB.out.kept hb
    have hr : w1.ownsRow BN 46 2 (.slice a10 (LA + LB) c10) (al ++ bl).length ((al ++ bl).flatMap ndV) := by
      rw [List.length_append, List.flatMap_append, ← HLE.out.1, ← HLE.out.2.1]; exact ho
    refine ⟨rowG_of_own ndV_len hr, fun p hp => ?_, by rw [List.length_append, ← HLE.out.1, ← HLE.out.2.1]; omega, fun p hp => ?_, fun p hp => ?_⟩
    · rcases List.mem_append.1 hp with hp | hp
      · exact h1.jobs p hp
      · exact h2.jobs p hp
    · rcases List.mem_append.1 hp with hp | hp
      · exact h1.lens p hp
      · exact h2.lens p hp
    · rcases List.mem_append.1 hp with hp | hp
      · exact h1.small p hp
      · exact h2.small p hp
  have HNC : Hid (ndsOf (al ++ bl) = [na, nb]) := by
    unfold Hid
    have e : ndsOf (al ++ bl) = ndsOf al ++ ndsOf bl := by unfold ndsOf; rw [List.map_append]
    rw [e, HNDA.out, HNDB.out]; rfl
  rw [← hwy]
  obtain ⟨LC, hLC⟩ : ∃ n, n = LA + LB := ⟨_, rfl⟩
  rw [← hLC] at HKY HCL HOY
  rw [← hLC]
  have HG9B : Hid (w.heap.size ≤ g9 ∧ g4 ≠ g9 ∧ g5 ≠ g9 ∧ g9 < BN) := by have := HG9W.out; unfold Hid; omega
  clear hwy hcs HK98 HO8 HB8 HSB HOB HNX2 HKZ HVAZ HVBZ HOZ HBZ HNBZ HNO HNA HNB HWN HWR hBNZ z1 fz1 c0 c1 x0 x1 HI hi0 hz0 hz1 hz2 HK48 HK58 hLC HG9W HBN HLE hLAb hLBb HG9
  have c0 := HKY.out.cell 0
  have c1 := HKY.out.cell 1
  have x0 := HVAY.out.cell 0
  have x1 := HVAY.out.cell 1
  have y0 := HVBY.out.cell 0
  have y1 := HVBY.out.cell 1
  simp at c0 c1 x0 x1 y0 y1
  go_wp2_with fail
  refine (SX.out wy HBY.out).mono ?_; rintro e w5 ⟨rfl, b5⟩
  have HB5 := Lib.hid b5
  have y05 := cell_next b5 y0
  have y15 := cell_next b5 y1
  clear b5 SX x0 x1
  go_wp2_with fail
  refine (SY.out w5 (below_next HB5.out HBY.out)).mono ?_; rintro e w6 ⟨rfl, b6⟩
  have HB6 := Lib.hid (below_next b6 HB5.out)
  have c06 := cell_next HB6.out c0
  have c16 := cell_next HB6.out c1
  clear b6 SY y0 y1 y05 y15 HB5
  go_wp2_with fail
  refine (SC.out w6 _ _ (below_next HB6.out HBY.out) (HCL.out w6 (below_next HB6.out HBY.out) (own_older HOY.out HB6.out)) HNC.out).mono ?_; rintro e w7 ⟨rfl, b7⟩
  have HB7 := Lib.hid (below_next b7 HB6.out)
  have HK7 := Lib.hid (HKY.out.kept HB7.out)
  have c07 := HK7.out.cell 0
  simp at c07
  have f07 := HK7.out.free 0
  clear b7 SC c06 c16 HB6 c0 c1
  obtain ⟨wx, hwx⟩ : ∃ x, x = w7.setCell ⟨g9, 0, none⟩ (.bool true) := ⟨_, rfl⟩
  have hcs : Chg (One g9) w7 wx := by rw [hwx]; exact Chg.setCell (own := One g9) 0 _ rfl
  have HKX : Hid (Blk wx g9 #[.bool true, .slice a10 LC c10] 24) := by unfold Hid; rw [hwx]; exact HK7.out.set 0 _
  have HBX9 : Hid (Below w.heap.size w wx) := (below_next HB7.out HBY.out).trans (hcs.to_below (below_next HB7.out HBY.out).size fun k hk e => by have : k = g9 := e; have := HG9B.out; omega)
  have HCX : Hid (NRw wx (.slice a10 LC c10) (al ++ bl)) := HCL.out wx HBX9.out (own_one (own_older HOY.out HB7.out) hcs (fun e => by have := ((own_older HOY.out HB7.out).lt _ e).1; have := HG9B.out; omega))
  have HXW := Lib.hid hwx
  clear hwx hcs HK7
  go_upto_region 14 with fail
  rw [← HXW.out]
  clear HXW c07 f07
  have c0 := HKX.out.cell 0
  have c1 := HKX.out.cell 1
  simp at c0 c1
  go_wp2_with fail
  refine (SD.out wx _ _ HBX9.out HCX.out HNC.out).mono ?_; rintro e w9 ⟨rfl, b9⟩
  have HB9 := Lib.hid (below_next b9 HBX9.out)
  clear b9 SD c0 c1 HCX HCL
  obtain ⟨hsx, hsy⟩ := HSXY.out
  have hx3 : x = 1 ∨ x = 2 ∨ x = 3 := by omega
  have hy3 : y = 1 ∨ y = 2 ∨ y = 3 := by omega
  have hja := HJA.out
  have hjb := HJB.out
  clear hsx hsy HSXY HJA HJB
  rcases hx3 with rfl | rfl | rfl <;> rcases hy3 with rfl | rfl | rfl
  all_goals
    simp at hja hjb
    subst hja
    subst hjb
    go_wp2_with fail
    refine (K.out w9 HB9.out).mono ?_; rintro e w10 ⟨rfl, b10⟩
    have HB10 := Lib.hid (below_next b10 HB9.out)
    clear b10
    go_wp2_with fail
    go_returns
    exact ⟨rfl, HB10.out⟩


set_option maxRecDepth 100000 in
theorem lifted (os : Os) (started : os.Started) (H : Type) (enc : TypeId × Value → H) :
    ReturnsInHanded {} Tryd.checked os 8 .any (fun w args => (Rows.dependJoinsSpec.pre enc Tryd.prog Tryd.f8 Rows.dependJoinsRow.domain false w args ∧ laidMetH Tryd.prog laid8 w) ∧ sizedMet enc Tryd.prog Tryd.f8 (OpenSpec.ofChange Rows.dependJoinsSpec) false w args) (Rows.dependJoinsSpec.post enc Tryd.prog Tryd.f8 false true false false) := by
  refine laid_lift (C := Tryd.checked) (X := fun w _ => laidMetH Tryd.prog laid8 w) (fun _ _ _ hh h => h.of_heap hh) own started (by kernel_rfl) Tryd.func8
    (ChangeSpec.witness_shaped (enc := enc) (C := Tryd.checked) (os := os) (X := fun w _ => laidMetH Tryd.prog laid8 w) false (World.laidAll Tryd.prog os laid8) #[.agg #[.bool false, .slice none 0 0], .agg #[.bool false, .slice none 0 0], .slice none 0 0, .bool false] 8 (World.laidAll_os _ _ _)
      (World.shaped_of_ZipB (by kernel_rfl) (by kernel_rfl)) (by kernel_rfl) (by kernel_rfl) (by kernel_rfl)
      (by rw [MakeChecks.laidMetH_plain _ _ _ (by kernel_rfl)]; exact laidMet_laidAll _ (by kernel_rfl) (by kernel_rfl))) ?_
  intro W base args ds gs before hval0 hW hsz0 hL hS
  have hE := env8_of hL hS
  have hval : ∀ (j : Nat) t v, Tryd.f8.params[j]? = some t → args[j]? = some v → Value.okWide Tryd.prog W .any base t v := hval0
  have hW' := hW
  obtain ⟨p, q, hA0, hV, rfl, hfz, hnd⟩ := hW
  have hA : DataW.TrodAll enc Tryd.prog W 0 (fun _ => true) true Tryd.f8.params.toList args.toList ds p := hA0
  rw [Tryd.params8] at hA hval
  obtain ⟨v0, vs0, d0, ds0, p0, q0, hargs, rfl, rfl, h0, r0⟩ := trodAll_cons hA
  obtain ⟨v1, vs1, d1, ds1, p1, q1, rfl, rfl, rfl, h1, r1⟩ := trodAll_cons r0
  obtain ⟨v2, vs2, d2, ds2, p2, q2, rfl, rfl, rfl, h2, r2⟩ := trodAll_cons r1
  obtain ⟨v3, vs3, d3, ds3, p3, q3, rfl, rfl, rfl, h3, r3⟩ := trodAll_cons r2
  obtain ⟨rfl, rfl, rfl⟩ := trodAll_nil r3
  obtain rfl : args = #[v0, v1, v2, v3] := by cases args; simp_all
  have hz0 : ∀ k ∈ d0.weights Tryd.prog 24, k ≤ reachBytes := fun k hk => by
    have := List.all_eq_true.1 hsz0 k (DataW.weights_mem_each (j := 0) (t := 24) (d := d0) rfl rfl k hk)
    simpa using this
  obtain ⟨cs0, rfl, hs0, hf0⟩ := open_structZ Tryd.underlying24 (by kernel_rfl) (by kernel_rfl) (hval 0 24 v0 rfl rfl) hz0 h0
  obtain ⟨c0_0, y0_0, n0_0, e0_0, t0_0, z0_0⟩ := hf0 0 _ rfl
  obtain ⟨a1, rfl⟩ := field_bool Tryd.underlying4 t0_0
  obtain ⟨c0_1, y0_1, n0_1, e0_1, t0_1, z0_1⟩ := hf0 1 _ rfl
  obtain ⟨al, w0_1⟩ := field_needs t0_1 z0_1
  obtain rfl : cs0 = #[.bool a1, c0_1] := arr_of cs0 [.bool a1, c0_1] hs0 (fun j hj => by match j, hj with | 0, _ => exact e0_0 | 1, _ => exact e0_1 | j + 2, hj => exact absurd hj (by simp))
  have hz1 : ∀ k ∈ d1.weights Tryd.prog 24, k ≤ reachBytes := fun k hk => by
    have := List.all_eq_true.1 hsz0 k (DataW.weights_mem_each (j := 1) (t := 24) (d := d1) rfl rfl k hk)
    simpa using this
  obtain ⟨cs1, rfl, hs1, hf1⟩ := open_structZ Tryd.underlying24 (by kernel_rfl) (by kernel_rfl) (hval 1 24 v1 rfl rfl) hz1 h1
  obtain ⟨c1_0, y1_0, n1_0, e1_0, t1_0, z1_0⟩ := hf1 0 _ rfl
  obtain ⟨b1, rfl⟩ := field_bool Tryd.underlying4 t1_0
  obtain ⟨c1_1, y1_1, n1_1, e1_1, t1_1, z1_1⟩ := hf1 1 _ rfl
  obtain ⟨bl, w1_1⟩ := field_needs t1_1 z1_1
  obtain rfl : cs1 = #[.bool b1, c1_1] := arr_of cs1 [.bool b1, c1_1] hs1 (fun j hj => by match j, hj with | 0, _ => exact e1_0 | 1, _ => exact e1_1 | j + 2, hj => exact absurd hj (by simp))
  have hz2 : ∀ k ∈ d2.weights Tryd.prog 48, k ≤ reachBytes := fun k hk => by
    have := List.all_eq_true.1 hsz0 k (DataW.weights_mem_each (j := 2) (t := 48) (d := d2) rfl rfl k hk)
    simpa using this
  obtain ⟨wl, w2⟩ := open_wheres hz2 h2 (okWide_slice Tryd.underlying48 (hval 2 48 v2 rfl rfl))
  obtain ⟨alone, rfl, rfl, rfl⟩ := open_bool Tryd.underlying4 (hval 3 4 v3 rfl rfl) h3
  clear hA0 hval0
  refine (walk a1 c0_1 al b1 c1_1 bl v2 wl alone W hE w0_1 w1_1 w2).mono fun e W' ⟨he, hb⟩ => ?_
  subst he
  exact ⟨_, rfl, law_post (by kernel_rfl) (by kernel_rfl) rfl Tryd.underlying4 rfl hW' rfl hb⟩

theorem over : Rows.dependJoinsRow.holds Tryd.pinned (OpenSpec.ofChange Rows.dependJoinsSpec) :=
  OpenClaim.holds_of_wide 8 Tryd.f8 rfl rfl rfl rfl rfl rfl rfl ⟨rfl, rfl, rfl, rfl, rfl⟩ rfl rfl rfl rfl rfl (by kernel_rfl) Tryd.func8 (by kernel_rfl)
    (of_decide_eq_true (by kernel_rfl)) (by unfold Func.isWrapper; first | (rw [if_pos (by decide +kernel)]; kernel_rfl) | (rw [if_neg (by decide +kernel)]; exact ⟨rfl, rfl⟩))
    (fun os started H enc _ => lifted os started H enc)

theorem proved : Rows.DependJoinsCardSaid :=
  Claim7.holds_tied_plain_at .later [] _ true _ false over (fun _ h => by cases h) (by kernel_rfl) (fun _ h => by cases h) dependJoins_row_tie rfl ⟨rfl, rfl⟩ (by kernel_rfl) rfl
    (fun f fn hf hfn => by
      obtain rfl : f = 8 := Option.some.inj ((show Tryd.prog.funcNamed "ganger/gangerlaw08.DependJoins" = some 8 by kernel_rfl).symm.trans hf) |>.symm
      obtain rfl : fn = Tryd.f8 := (Option.some.inj (Tryd.func8.symm.trans hfn)).symm
      exact ⟨by kernel_rfl, fun j t ht => by
        rw [Tryd.params8] at ht
        have hm : t ∈ [24, 24, 48, 4] := by simpa using Array.mem_of_getElem? ht
        have hall : ([24, 24, 48, 4].all fun u => !Tryd.prog.wantsStandIn u) = true := by kernel_rfl
        exact (show Tryd.prog.wantsStandIn t = false by simpa using List.all_eq_true.1 hall t hm)⟩)
    (by kernel_rfl)
#print axioms proved
end Go.Proofs.YtpobghdiecfoaaaDoor.dependJoins
