/-
  BuddyPlays: whatever is done to a yard, it answers as gangerref04's: so the law returns true for every input.
-/
import Derived.Test.YtcdlfhheolbhaaaYgV
import Derived.Test.YtcdlfhheolbhaaaRows
import Derived.Test.YtcdlfhheolbhaaaArgs2
namespace Go.Proofs.Ytcdlfhheolbhaaa.buddyPlays
open Go.ChangeShapes Go.WideShapes Go.ChangeAt Go.RowKit
set_option linter.unusedVariables false

theorem own : ownKnob Try.prog.godebug = none := by kernel_rfl

open Go Go.ChangeShapes Go.WideShapes Go.ChangeAt Go.RowKit Go.Lib
attribute [local go_sem ↓] blk_eql blk_neq blk_grd
set_option maxRecDepth 100000 in
set_option maxHeartbeats 4000000 in
theorem walk (order : Int) (v1 : Value) (l : List Ac) (n : Int) (v3 : Value) (gs : List Int) (w : World) (h0 : (Lit.int .i64 order).wf = true) (h1 : AArg w v1 l) (h2 : (Lit.int .i64 n).wf = true) (h3 : IntsArg w .i64 v3 gs) :
    Calls Try.prog 3 #[.int .i64 order, v1, .int .i64 n, v3] w fun e w' => e = .returned (.bool true) ∧ Below w.heap.size w w' := by
  have K : Hid (∀ w1, Calls Try.prog 11 #[] w1 fun e w' => e = .returned (.bool true) ∧ Below w1.heap.size w1 w') := known4_any
  have HG := Lib.hid (grow_of_ints h3)
  obtain ⟨ga, gc, hv⟩ := HG.out.slice
  subst hv
  have HA := Lib.hid h1.1
  have hlm := h1.2
  unfold maxLen at hlm
  obtain ⟨va, vc, hv⟩ := h1.1.slice
  subst hv
  clear h0 h1 h2 h3
  by_cases hA : 6 < order ∧ order ≤ 10
  · obtain ⟨a1, a2⟩ := hA
    have d1 : decide (6 < order) = true := decide_eq_true a1
    have d2 : decide (order ≤ 10) = true := decide_eq_true a2
    go_enter Try.func3, Try.ntmps3
    go_wp2_with fail
    refine (K.out _).mono ?_; rintro e w1 ⟨rfl, b1⟩
    have HB1 := Lib.hid b1
    clear b1
    go_wp2_with fail
    go_ret
    exact ⟨rfl, HB1.out⟩
  · have hor : (decide (6 < order) = true ∧ 6 < order ∧ decide (order ≤ 10) = false ∧ ¬ order ≤ 10) ∨ (decide (6 < order) = false ∧ ¬ 6 < order ∧ True ∧ True) := by
      by_cases h : 6 < order
      · have h2 : ¬ order ≤ 10 := fun h' => hA ⟨h, h'⟩
        exact .inl ⟨decide_eq_true h, h, decide_eq_false h2, h2⟩
      · exact .inr ⟨decide_eq_false h, h, trivial, trivial⟩
    have HAA := Lib.hid hA
    clear hA
    by_cases hgl : (60 : Int) < (gs.length : Int)
    · have d3 : decide ((60 : Int) < (gs.length : Int)) = true := decide_eq_true hgl
      rcases hor with ⟨hx1, hx2, hx3, hx4⟩ | ⟨hx1, hx2, hx3, hx4⟩ <;>
      · go_enter Try.func3, Try.ntmps3
        go_wp2_with fail
        refine (K.out _).mono ?_; rintro e w1 ⟨rfl, b1⟩
        have HB1 := Lib.hid b1
        clear b1
        go_wp2_with fail
        go_ret
        exact ⟨rfl, HB1.out⟩
    · have d3 : decide ((60 : Int) < (gs.length : Int)) = false := decide_eq_false hgl
      have NW := Lib.hid (New_any order w)
      by_cases hr : 0 ≤ order ∧ order ≤ 6
      · obtain ⟨r1, r2⟩ := hr
        have d1 : decide (6 < order) = false := decide_eq_false (by omega)
        have d1' : ¬ 6 < order := by omega
        clear hor
        go_enter Try.func3, Try.ntmps3
        go_wp2_with fail
        refine NW.out.mono ?_; rintro e w1 (⟨N, g1, hq, hn10, rfl, hY, b1⟩ | ⟨hq, rfl, hw⟩)
        · subst hq
          have HY1 := Lib.hid hY
          have HB1 := Lib.hid b1
          have RW := Lib.hid (rNew_any (N : Int) w1)
          clear hY b1 NW
          go_wp2_with fail
          refine RW.out.mono ?_; rintro e w2 (⟨N', g2, hq, _, rfl, hM, b2⟩ | ⟨hq, rfl, hw⟩)
          · obtain rfl : N = N' := by omega
            have HM2 : Hid (RM w2 g2 (fun k => w1.heap.size ≤ k) N [] (List.replicate (2 ^ N) false)) := hM
            have HY2 : Hid (YS w2 g1 (cutO (fun k => w.heap.size ≤ k) w1.heap.size w2.heap.size) N [] []) := HY1.out.away (own' := fun _ => False) (chg_none b2) (fun k _ h => absurd h id)
            have HD2 : Hid (∀ k, k < w2.heap.size → cutO (fun k => w.heap.size ≤ k) w1.heap.size w2.heap.size k → ¬ w1.heap.size ≤ k) := fun k hk hc h => by
              rcases hc with ⟨_, h1⟩ | h1 <;> omega
            have HLO : Hid ((∀ k, cutO (fun k => w.heap.size ≤ k) w1.heap.size w2.heap.size k → w.heap.size ≤ k) ∧ (∀ k, w1.heap.size ≤ k → w.heap.size ≤ k)) := ⟨cut_lo (fun k h => h) (Nat.le_trans HB1.out.size b2.size), fun k h => Nat.le_trans HB1.out.size h⟩
            have HB2 := Lib.hid (HB1.out.trans (b2.mono HB1.out.size))
            have HS0 : Hid (SimP N [] [] [] (List.replicate (2 ^ N) false)) := SimP.zero N
            have OR := Lib.hid (Order_any g1 _ N [] [] w2 HY2.out)
            clear hM b2 RW hq HB1 HY1
            go_wp2_with fail
            refine OR.out.mono ?_; rintro e w3 ⟨rfl, hw⟩; replace hw := hw.symm; subst hw
            clear OR
            go_wp2_with fail
            have hg60 : gs.length ≤ 60 := by omega
            clear hgl d3
            go_loopw [13] (fun i wr => ∃ (k : Nat) (tk : List Bk) (fl : List Nat) (L : List Bk) (bad : List Bool) (oy om : Nat → Prop), k ≤ l.length ∧ k ≤ 80 ∧ i = .int .i64 k ∧ Hid (SimP N tk fl L bad) ∧ Hid (YS wr g1 oy N tk fl) ∧ Hid (RM wr g2 om N L bad) ∧
              Hid (∀ k, k < wr.heap.size → oy k → ¬ om k) ∧ Hid ((∀ k, oy k → w.heap.size ≤ k) ∧ (∀ k, om k → w.heap.size ≤ k)) ∧ Hid (Below w.heap.size w wr)) (fun i _ => l.length - (RowKit.intOf i).toNat)
            case atStart => exact ⟨0, [], [], [], _, _, _, Nat.zero_le _, by omega, rfl, HS0, HY2, HM2, HD2, HLO, HB2⟩
            case round =>
              obtain ⟨k, tk, fl, L, bad, oy, om, hk, hk80, rfl, HS, HY, HM, HD, HLo, HB⟩ := hrel
              by_cases hex : k < l.length ∧ (k : Int) < 80
              · obtain ⟨hlt, h80⟩ := hex
                have hlt' : decide (k < l.length) = true := decide_eq_true hlt
                have hlti : (k : Int) < (l.length : Int) := by omega
                have hd80 : decide ((k : Int) < 80) = true := decide_eq_true h80
                rcases HA.out with ⟨h0, _⟩ | ⟨bb, off, c, hv, _, hc⟩
                · rw [h0] at hlt; simp at hlt
                · have hva : va = some ⟨bb, off, none⟩ := by injection hv
                  subst hva
                  obtain ⟨c0, c1, c2⟩ := (hc.kept HB.out) k hlt
                  obtain ⟨x, hx⟩ : ∃ x, x = l[k] := ⟨_, rfl⟩
                  have HCC : Hid (∀ w', Below w.heap.size w w' → w'.cell? ⟨bb, off + k * 3, none⟩ = some (.int .i64 x.1) ∧ w'.cell? ⟨bb, off + k * 3 + 1, none⟩ = some (.int .i64 x.2.1) ∧ w'.cell? ⟨bb, off + k * 3 + 2, none⟩ = some (.int .i64 x.2.2)) := fun w' hb => by
                    rw [hx]; exact (hc.kept hb) k hlt
                  rw [← hx] at c0 c1 c2
                  obtain ⟨x1, x2, x3⟩ := x
                  dsimp only at c0 c1 c2
                  have AC := Lib.hid (act_any g1 oy N tk fl x1 x2 x3 wr HY.out)
                  clear hc hv hx
                  go_wp2_with fail
                  refine AC.out.mono ?_; rintro e w4 ⟨r, er, tk', fl', rfl, hR, hY4, hC4⟩
                  have HR := Lib.hid hR
                  have HY4 := Lib.hid hY4
                  have HM4 := Lib.hid (HM.out.away hC4 (fun k hk h => HD.out k hk h))
                  have HD4 := Lib.hid (cut_r (b := w4.heap.size) HD.out)
                  have HB4 : Hid (Below w.heap.size w w4) := HB.out.trans (hC4.to_below HB.out.size (fun k hk h => by have := HLo.out.1 k h; omega))
                  have HLo4 : Hid ((∀ k, oy k → w.heap.size ≤ k) ∧ (∀ k, cutO om wr.heap.size w4.heap.size k → w.heap.size ≤ k)) := ⟨HLo.out.1, cut_lo HLo.out.2 HB4.out.size⟩
                  have hl4 := HS.out.len HY.out.1
                  have TD := Lib.hid (told_any g2 _ N L bad x1 x2 x3 w4 (by omega) HM4.out)
                  obtain ⟨e0, e1, e2⟩ := HCC.out w4 HB4.out
                  clear hR hY4 hC4 AC c0 c1 c2 HLo HM HD HB hl4 HY
                  go_wp2_with fail
                  refine TD.out.mono ?_; rintro e w5 ⟨r', er', L', bad', rfl, hT, hM5, hC5⟩
                  obtain ⟨hr1, hr2, hS5⟩ := sim_act HS.out HR.out hT
                  subst hr1
                  subst hr2
                  have HS5 := Lib.hid hS5
                  have HM5 := Lib.hid hM5
                  have HY5 := Lib.hid (HY4.out.away hC5 (fun k hk h h' => HD4.out k hk h' h))
                  have HD5 := Lib.hid (cut_l (b := w5.heap.size) HD4.out)
                  have HB5 : Hid (Below w.heap.size w w5) := HB4.out.trans (hC5.to_below HB4.out.size (fun k hk h => by have := HLo4.out.2 k h; omega))
                  have HLo5 : Hid ((∀ k, cutO oy w4.heap.size w5.heap.size k → w.heap.size ≤ k) ∧ (∀ k, cutO om wr.heap.size w4.heap.size k → w.heap.size ≤ k)) := ⟨cut_lo HLo4.out.1 HB5.out.size, HLo4.out.2⟩
                  obtain ⟨oy5, hoy5⟩ : ∃ o, o = cutO oy w4.heap.size w5.heap.size := ⟨_, rfl⟩
                  obtain ⟨om5, hom5⟩ : ∃ o, o = cutO om wr.heap.size w4.heap.size := ⟨_, rfl⟩
                  rw [← hoy5] at HY5 HD5 HLo5
                  rw [← hom5] at HM5 HD5 HLo5
                  have hop := hS5.sim.opnE
                  have HOP := Lib.hid hop
                  clear hT hM5 hC5 TD hS5 HR HS HY4 HM4 HD4 HB4 HLo4 hoy5 hom5 hop e0 e1 e2
                  have F5 := Lib.hid (Free_any g1 _ N _ _ _ w5 HY5.out.2)
                  go_wp2_with fail
                  refine F5.out.mono ?_; rintro e w6 ⟨vf, rfl, hof, b6⟩
                  have HF6 := Lib.hid hof
                  have HB6 := Lib.hid b6
                  have T6 := Lib.hid (Taken_any g1 _ N _ _ w6 (HY5.out.kept b6))
                  clear hof b6 F5
                  go_wp2_with fail
                  refine T6.out.mono ?_; rintro e w7 ⟨vt, rfl, hot, b7⟩
                  have HF7 := Lib.hid (own_older HF6.out b7)
                  have HFl6 : Hid (∀ q, vf.ownBlock = some q → q < w6.heap.size) := fun q h => (HF6.out.lt q h).2
                  have HT7 := Lib.hid hot
                  have HB7 := Lib.hid (HB6.out.trans (b7.mono HB6.out.size))
                  have s67 := HB6.out.size
                  have B7 := Lib.hid (Failed_any g1 _ N _ _ w7 (HY5.out.kept HB7.out))
                  clear hot b7 T6 HF6 HB6
                  go_wp2_with fail
                  refine B7.out.mono ?_; rintro e w8 ⟨vb, rfl, hob, b8⟩
                  have s78 := HB7.out.size
                  have HSP0 : Hid (∀ q, (vf.ownBlock = some q → vt.ownBlock = some q → False) ∧ (vf.ownBlock = some q → vb.ownBlock = some q → False) ∧ (vt.ownBlock = some q → vb.ownBlock = some q → False)) := fun q => ⟨fun h1 h2 => by have := HFl6.out q h1; have := (HT7.out.lt q h2).1; omega, fun h1 h2 => by have := (HF7.out.lt q h1).2; have := (hob.lt q h2).1; omega, fun h1 h2 => by have := (HT7.out.lt q h1).2; have := (hob.lt q h2).1; omega⟩
                  have HF8 : Hid (BOwn w8 w5.heap.size vf (freeL N (opn N tk' fl'))) := own_older HF7.out b8
                  have HT8 : Hid (BOwn w8 w5.heap.size vt tk') := (own_older HT7.out b8).mono s67
                  have HV8 : Hid (NOwn w8 w5.heap.size vb (natI fl')) := hob.mono s78
                  have HB8 := Lib.hid (HB7.out.trans (b8.mono HB7.out.size))
                  clear hob b8 B7 HF7 HT7 HB7 s67 s78
                  have HFL := Lib.hid (freeL_len hn10 (opn N tk' fl'))
                  have HTL := Lib.hid HY5.out.1.tlen
                  have HVL := Lib.hid HY5.out.1.flen
                  have RF8 := Lib.hid (rFree_any g2 N L' bad' w8 HM5.out.1 (HM5.out.kept HB8.out).rr)
                  unfold RFreePost at RF8
                  rw [HOP.out] at RF8
                  obtain ⟨fa, fc, rfl⟩ := own_slice HF8.out
                  obtain ⟨ta, tc, rfl⟩ := own_slice HT8.out
                  obtain ⟨ba, bc, rfl⟩ := own_slice HV8.out
                  have HSP := Lib.hid HSP0.out
                  obtain ⟨F, hF⟩ : ∃ F, F = freeL N (opn N tk' fl') := ⟨_, rfl⟩
                  rw [← hF] at HF8 HFL RF8 HSP
                  rw [← hF]
                  clear hF
                  have hFl := HFL.out
                  have hTl := HTL.out
                  have hVl := HVL.out
                  have hni := natI_len fl'
                  rw [hni]
                  obtain ⟨LF, hLF⟩ : ∃ LF, LF = F.length := ⟨_, rfl⟩
                  obtain ⟨LT, hLT⟩ : ∃ LT, LT = tk'.length := ⟨_, rfl⟩
                  obtain ⟨LB, hLB⟩ : ∃ LB, LB = fl'.length := ⟨_, rfl⟩
                  rw [hni] at HSP HV8
                  rw [← hLF] at HF8 HSP
                  rw [← hLT] at HT8 HSP
                  rw [← hLB] at HV8 HSP
                  rw [← hLF, ← hLT, ← hLB]
                  have hLF1 : LF ≤ 1024 := by omega
                  have hLT1 : LT ≤ 1024 := by omega
                  have hLB1 : LB ≤ 1024 := by omega
                  have HLF := Lib.hid hLF
                  have HLT := Lib.hid hLT
                  have HLB := Lib.hid hLB
                  have HRF : Hid (BRow w8 (.slice fa LF fc) F ∧ BRow w8 (.slice ta LT tc) tk' ∧ GRow w8 (.slice ba LB bc) (natI fl')) := by
                    refine ⟨?_, ?_, ?_⟩
                    · have := HF8.out; rw [hLF] at this ⊢; exact brow_of_own this
                    · have := HT8.out; rw [hLT] at this ⊢; exact brow_of_own this
                    · have h1 : NOwn w8 w5.heap.size (.slice ba LB bc) (natI fl') := by
                        exact HV8.out
                      exact grow_of_own h1
                  clear hFl hTl hVl hni hLF hLT hLB
                  go_wp2_with fail
                  refine RF8.out.mono ?_; rintro e w9 ⟨vf2, rfl, hof2, b9⟩
                  have S9 := Lib.hid (sameB_any (.slice fa LF fc) vf2 F F w9 (by rw [← HLF.out]; omega) (by rw [← HLF.out]; omega) (HRF.out.1.kept b9) (brow_of_own hof2))
                  rw [decide_eq_true rfl] at S9
                  have HR9 := Lib.hid b9
                  clear hof2 b9 RF8
                  go_wp2_with fail
                  refine S9.out.mono ?_; rintro e wa ⟨rfl, ba'⟩
                  have HRa : Hid (Below w8.heap.size w8 wa) := HR9.out.trans (ba'.mono HR9.out.size)
                  have HBM : Hid (∀ w', Below w8.heap.size w8 w' → RM w' g2 om5 N L' bad') := fun w' h => (HM5.out.kept HB8.out).kept h
                  have HBY : Hid (∀ w', Below w8.heap.size w8 w' → YS w' g1 oy5 N tk' fl') := fun w' h => (HY5.out.kept HB8.out).kept h
                  have RTa := Lib.hid (rTaken_any g2 N L' bad' wa HM5.out.1 (HBM.out wa HRa.out).rr)
                  rw [HS5.out.sim.taken HY5.out.1] at RTa
                  clear ba' S9 HR9
                  go_wp2_with fail
                  refine RTa.out.mono ?_; rintro e wb ⟨vt2, rfl, hot2, bb'⟩
                  have Sb := Lib.hid (sameB_any (.slice ta LT tc) vt2 tk' tk' wb (by rw [← HLT.out]; omega) (by rw [← HLT.out]; omega) ((HRF.out.2.1.kept HRa.out).kept bb') (brow_of_own hot2))
                  rw [decide_eq_true rfl] at Sb
                  have HRb := Lib.hid (HRa.out.trans (bb'.mono HRa.out.size))
                  clear hot2 bb' RTa
                  go_wp2_with fail
                  refine Sb.out.mono ?_; rintro e wc ⟨rfl, bc'⟩
                  have HRc := Lib.hid (HRb.out.trans (bc'.mono HRb.out.size))
                  have RVc := Lib.hid (rFailed_any g2 N L' bad' wc HM5.out.1 (HBM.out wc HRc.out).rr)
                  unfold badL at RVc
                  rw [HS5.out.sim.failed HY5.out.1] at RVc
                  clear bc' Sb
                  go_wp2_with fail
                  refine RVc.out.mono ?_; rintro e wd ⟨vb2, rfl, hob2, bd⟩
                  have Sd := Lib.hid (sameN_any (.slice ba LB bc) vb2 (natI fl') (natI fl') wd (by rw [natI_len, ← HLB.out]; omega) (by rw [natI_len, ← HLB.out]; omega) ((HRF.out.2.2.kept HRc.out).kept bd) (grow_of_own hob2))
                  rw [decide_eq_true rfl] at Sd
                  have HRd := Lib.hid (HRc.out.trans (bd.mono HRc.out.size))
                  clear hob2 bd RVc
                  go_wp2_with fail
                  refine Sd.out.mono ?_; rintro e we ⟨rfl, be⟩
                  have HRe := Lib.hid (HRd.out.trans (be.mono HRd.out.size))
                  have HBe := Lib.hid (HB5.out.trans (((HB8.out.trans (HRe.out.mono HB8.out.size))).mono HB5.out.size))
                  obtain ⟨e0, e1, e2⟩ := HCC.out we HBe.out
                  try dsimp only at e0 e1 e2
                  have HDe := Lib.hid (Held_any g1 oy5 N _ tk' fl' x3 we HY5.out.1.tlen HY5.out.1.small (HBY.out we HRe.out).2)
                  clear be Sd e0 e1
                  go_wp2_with fail
                  refine HDe.out.mono ?_; rintro e wf ⟨⟨ps, po⟩, pf, rfl, hH1, bf⟩
                  have HH1 := Lib.hid hH1
                  unfold bkV
                  obtain ⟨wg, hwg⟩ : ∃ wg, wg = wf.alloc (.cells #[.int .i64 (ps : Int), .int .i64 (po : Int)] 45) := ⟨_, rfl⟩
                  have hbg : Below wf.heap.size wf wg := by rw [hwg]; exact (Below.refl _ _).alloc (Nat.le_refl _) _
                  obtain ⟨gP, hgP⟩ : ∃ gP, gP = wf.heap.size := ⟨_, rfl⟩
                  have HP0 : Hid (Blk wg gP #[.int .i64 (ps : Int), .int .i64 (po : Int)] 45) := by unfold Hid; rw [hwg, hgP]; exact Blk.new _ _ _
                  have HRg := Lib.hid ((HRe.out.trans (bf.mono HRe.out.size)).trans (hbg.mono (Nat.le_trans HRe.out.size bf.size)))
                  have HBg := Lib.hid (HB5.out.trans (((HB8.out.trans (HRg.out.mono HB8.out.size))).mono HB5.out.size))
                  have hrf : Below w8.heap.size w8 wf := HRe.out.trans (bf.mono HRe.out.size)
                  obtain ⟨e0, e1, e2⟩ := HCC.out wf (HB5.out.trans (((HB8.out.trans (hrf.mono HB8.out.size))).mono HB5.out.size))
                  have hbbl : bb < wf.heap.size := World.block_lt_of_cell? wf _ e0
                  try dsimp only at e0 e1 e2
                  have HDg := Lib.hid (rHeld_any g2 N L' bad' x3 wg HM5.out.1 (HBM.out wg HRg.out).rr)
                  clear hH1 bf hbg HDe e0 e1 hrf
                  go_wp2_with fail
                  rw [← hwg, ← hgP]
                  clear hwg hgP
                  refine HDg.out.mono ?_; rintro e wh ⟨⟨qs, qo⟩, qf, rfl, hH2, bh⟩
                  obtain ⟨hpq, hpf⟩ := held_same HY5.out.1 HS5.out.sim.mem HH1.out hH2
                  injection hpq with hp1 hp2
                  subst hp1
                  subst hp2
                  subst hpf
                  unfold bkV
                  obtain ⟨wi, hwi⟩ : ∃ wi, wi = wh.alloc (.cells #[.int .i64 (ps : Int), .int .i64 (po : Int)] 45) := ⟨_, rfl⟩
                  have hbi : Below wh.heap.size wh wi := by rw [hwi]; exact (Below.refl _ _).alloc (Nat.le_refl _) _
                  obtain ⟨gQ, hgQ⟩ : ∃ gQ, gQ = wh.heap.size := ⟨_, rfl⟩
                  have HQ0 : Hid (Blk wi gQ #[.int .i64 (ps : Int), .int .i64 (po : Int)] 45) := by unfold Hid; rw [hwi, hgQ]; exact Blk.new _ _ _
                  have HP1 := Lib.hid (HP0.out.kept bh)
                  have hPl := HP1.out.lt
                  have HRi := Lib.hid ((HRg.out.trans (bh.mono HRg.out.size)).trans (hbi.mono (Nat.le_trans HRg.out.size bh.size)))
                  have p0 := HP1.out.cell 0
                  have p1 := HP1.out.cell 1
                  have q0 := HQ0.out.cell 0
                  have q1 := HQ0.out.cell 1
                  simp at p0 p1 q0 q1
                  have hbq : beqB (ps : Int) (po : Int) (ps : Int) (po : Int) = true := by rw [beqB_nat]; simp
                  have FTi := Lib.hid (Fits_any g1 oy5 N _ tk' fl' n wi (HBY.out wi HRi.out).2)
                  clear hH2 bh hbi HDg HH1 HP0 e2
                  go_wp2_with fail
                  rw [← hwi, ← hgQ]
                  clear hwi hgQ
                  refine FTi.out.mono ?_; rintro e wj ⟨ra, rfl, hra, bj⟩
                  have HRA := Lib.hid hra
                  have HRj := Lib.hid (HRi.out.trans (bj.mono HRi.out.size))
                  have RFj := Lib.hid (rFits_any g2 N L' bad' n wj HM5.out.1 (HBM.out wj HRj.out).rr)
                  rw [HOP.out] at RFj
                  clear hra bj FTi p0 p1 q0 q1
                  go_wp2_with fail
                  refine RFj.out.mono ?_; rintro e wk ⟨rb, rfl, hrb, bk⟩
                  have hab := bool_same HRA.out hrb
                  subst hab
                  have HRk := Lib.hid (HRj.out.trans (bk.mono HRj.out.size))
                  have HBk := Lib.hid (HB5.out.trans (((HB8.out.trans (HRk.out.mono HB8.out.size))).mono HB5.out.size))
                  have WDk := Lib.hid (Would_any g1 oy5 N tk' fl' n (.slice ga gs.length gc) gs wk (by omega) (HG.out.kept HBk.out) (HBY.out wk HRk.out))
                  clear hrb bk RFj HRA
                  go_wp2_with fail
                  refine WDk.out.mono ?_; rintro e wl ⟨rc, rfl, hrc, bl⟩
                  have HRC := Lib.hid hrc
                  have HRl := Lib.hid (HRk.out.trans (bl.mono HRk.out.size))
                  have HBl := Lib.hid (HB5.out.trans (((HB8.out.trans (HRl.out.mono HB8.out.size))).mono HB5.out.size))
                  have RWl := Lib.hid (rWould_any g2 N L' bad' n (.slice ga gs.length gc) gs wl (by omega) (HG.out.kept HBl.out) HM5.out.1 (HBM.out wl HRl.out).rr)
                  unfold RWouldPost at RWl
                  rw [(HS5.out.fold gs).sim.opnE] at RWl
                  clear hrc bl WDk
                  go_wp2_with fail
                  refine RWl.out.mono ?_; rintro e wm ⟨rd, rfl, hrd, bm⟩
                  have hcd := bool_same HRC.out hrd
                  subst hcd
                  have HRm := Lib.hid (HRl.out.trans (bm.mono HRl.out.size))
                  have HFm : Hid (wm.ownsRow 0 45 2 (.slice fa LF fc) LF (blkL F)) := by
                    have h : wm.ownsRow 0 45 2 (.slice fa LF fc) F.length (blkL F) := (own_older HF8.out HRm.out).mono (Nat.zero_le _)
                    rw [← HLF.out] at h; exact h
                  have HTm : Hid (wm.ownsRow 0 45 2 (.slice ta LT tc) LT (blkL tk')) := by
                    have h : wm.ownsRow 0 45 2 (.slice ta LT tc) tk'.length (blkL tk') := (own_older HT8.out HRm.out).mono (Nat.zero_le _)
                    rw [← HLT.out] at h; exact h
                  have HVm : Hid (wm.ownsRow 0 3 1 (.slice ba LB bc) LB (natL fl')) := by
                    have h : wm.ownsRow 0 3 1 (.slice ba LB bc) (natI fl').length (natL fl') := (own_older HV8.out HRm.out).mono (Nat.zero_le _)
                    rw [natI_len, ← HLB.out] at h; exact h
                  have HSEP : Hid (∀ q, ((Value.slice fa LF fc).ownBlock = some q → (Value.slice ta LT tc).ownBlock ≠ some q ∧ (Value.slice ba LB bc).ownBlock ≠ some q) ∧ ((Value.slice ta LT tc).ownBlock = some q → (Value.slice ba LB bc).ownBlock ≠ some q)) := fun q => ⟨fun h => ⟨fun h2 => (HSP.out q).1 h h2, fun h2 => (HSP.out q).2.1 h h2⟩, fun h h2 => (HSP.out q).2.2 h h2⟩
                  have HXm := Lib.hid (HB8.out.trans (HRm.out.mono HB8.out.size))
                  have HAP : Hid ((∀ q, (Value.slice fa LF fc).ownBlock = some q → w5.heap.size ≤ q) ∧ (∀ q, (Value.slice ta LT tc).ownBlock = some q → w5.heap.size ≤ q) ∧ (∀ q, (Value.slice ba LB bc).ownBlock = some q → w5.heap.size ≤ q)) := ⟨fun q h => (HF8.out.lt q h).1, fun q h => (HT8.out.lt q h).1, fun q h => (HV8.out.lt q h).1⟩
                  clear hrd bm RWl HRC HRe HRd HRc HRb HRa HRg HRi HRj HRk HRl HBe HBg HBk HBl HP1 HQ0 hbq HCC
                  go_wp2_with fail
                  go_loopw [25] (fun i wr => ∃ (j : Nat) (zs : List Value), j ≤ LF ∧ i = .int .i64 j ∧ Hid (wr.ownsRow 0 45 2 (Value.slice fa LF fc) LF zs) ∧ Hid (Chg (fun q => (Value.slice fa LF fc).ownBlock = some q) wm wr)) (fun i _ => LF - (RowKit.intOf i).toNat)
                  case atStart => exact ⟨0, _, Nat.zero_le _, rfl, HFm, Chg.refl _ _⟩
                  case round =>
                    obtain ⟨j, zs, hj, rfl, HZ, HCs⟩ := hrel
                    by_cases hltj : j < LF
                    · have hj1 : decide (j < LF) = true := decide_eq_true hltj
                      have hj2 : (j : Int) < (LF : Int) := by omega
                      obtain ⟨q, hqa, _, hql⟩ := bo_addr HZ.out (by omega)
                      subst hqa
                      obtain ⟨⟨cc, hcc⟩, hff, hst, hch⟩ := owns_put HZ.out (j := j * 2) (by omega) (.int .i64 (-7))
                      have HST := Lib.hid hst
                      have HCH : Hid (Chg (fun q' => (Value.slice (some ⟨q, 0, none⟩) LF fc).ownBlock = some q') wm (wr.setCell ⟨q, j * 2, none⟩ (.int .i64 (-7)))) := HCs.out.trans (hch.weak fun k hk => by rw [hk]; rfl)
                      clear hst hch
                      go_wp2_with fail
                      go_roundw
                      case rel => exact ⟨j + 1, _, hltj, by go_num, HST, HCH⟩
                      case measure => simp [RowKit.intOf]; omega
                    · have hj1 : decide (j < LF) = false := decide_eq_false hltj
                      have hj2 : ¬ (j : Int) < (LF : Int) := by omega
                      obtain ⟨wn, hwn⟩ : ∃ wn, wn = wr := ⟨_, rfl⟩
                      subst hwn
                      have HTn : Hid (wn.ownsRow 0 45 2 (.slice ta LT tc) LT (blkL tk')) := own_chg HTm.out HCs.out (fun k h h' => ((HSEP.out k).1 h').1 h)
                      have HVn : Hid (wn.ownsRow 0 3 1 (.slice ba LB bc) LB (natL fl')) := own_chg HVm.out HCs.out (fun k h h' => ((HSEP.out k).1 h').2 h)
                      have HXn : Hid (Below w5.heap.size w5 wn) := HXm.out.trans (HCs.out.to_below HXm.out.size (fun k hk h => by have := HAP.out.1 k h; omega))
                      clear hltj hj
                      go_wp2_with fail
                      go_loopw [26] (fun i wr => ∃ (j : Nat) (zs : List Value), j ≤ LT ∧ i = .int .i64 j ∧ Hid (wr.ownsRow 0 45 2 (Value.slice ta LT tc) LT zs) ∧ Hid (Chg (fun q => (Value.slice ta LT tc).ownBlock = some q) wn wr)) (fun i _ => LT - (RowKit.intOf i).toNat)
                      case atStart => exact ⟨0, _, Nat.zero_le _, rfl, HTn, Chg.refl _ _⟩
                      case round =>
                        obtain ⟨j, zs, hj, rfl, HZ, HCs⟩ := hrel
                        by_cases hltj : j < LT
                        · have hj1 : decide (j < LT) = true := decide_eq_true hltj
                          have hj2 : (j : Int) < (LT : Int) := by omega
                          obtain ⟨q, hqa, _, hql⟩ := bo_addr HZ.out (by omega)
                          subst hqa
                          obtain ⟨⟨cc, hcc⟩, hff, hst, hch⟩ := owns_put HZ.out (j := j * 2 + 1) (by omega) (.int .i64 (-7))
                          have HST := Lib.hid hst
                          have HCH : Hid (Chg (fun q' => (Value.slice (some ⟨q, 0, none⟩) LT tc).ownBlock = some q') wn (wr.setCell ⟨q, j * 2 + 1, none⟩ (.int .i64 (-7)))) := HCs.out.trans (hch.weak fun k hk => by rw [hk]; rfl)
                          clear hst hch
                          go_wp2_with fail
                          go_roundw
                          case rel => exact ⟨j + 1, _, hltj, by go_num, HST, HCH⟩
                          case measure => simp [RowKit.intOf]; omega
                        · have hj1 : decide (j < LT) = false := decide_eq_false hltj
                          have hj2 : ¬ (j : Int) < (LT : Int) := by omega
                          obtain ⟨wo, hwo⟩ : ∃ wo, wo = wr := ⟨_, rfl⟩
                          subst hwo
                          have HVo : Hid (wo.ownsRow 0 3 1 (.slice ba LB bc) LB (natL fl')) := own_chg HVn.out HCs.out (fun k h h' => (HSEP.out k).2 h' h)
                          have HXo : Hid (Below w5.heap.size w5 wo) := HXn.out.trans (HCs.out.to_below HXn.out.size (fun k hk h => by have := HAP.out.2.1 k h; omega))
                          clear hltj hj
                          go_wp2_with fail
                          go_loopw [27] (fun i wr => ∃ (j : Nat) (zs : List Value), j ≤ LB ∧ i = .int .i64 j ∧ Hid (wr.ownsRow 0 3 1 (Value.slice ba LB bc) LB zs) ∧ Hid (Chg (fun q => (Value.slice ba LB bc).ownBlock = some q) wo wr)) (fun i _ => LB - (RowKit.intOf i).toNat)
                          case atStart => exact ⟨0, _, Nat.zero_le _, rfl, HVo, Chg.refl _ _⟩
                          case round =>
                            obtain ⟨j, zs, hj, rfl, HZ, HCs⟩ := hrel
                            by_cases hltj : j < LB
                            · have hj1 : decide (j < LB) = true := decide_eq_true hltj
                              have hj2 : (j : Int) < (LB : Int) := by omega
                              obtain ⟨q, hqa, _, hql⟩ := bo_addr HZ.out (by omega)
                              subst hqa
                              obtain ⟨⟨cc, hcc⟩, hff, hst, hch⟩ := owns_put HZ.out (j := j) (by omega) (.int .i64 (-7))
                              have HST := Lib.hid hst
                              have HCH : Hid (Chg (fun q' => (Value.slice (some ⟨q, 0, none⟩) LB bc).ownBlock = some q') wo (wr.setCell ⟨q, j, none⟩ (.int .i64 (-7)))) := HCs.out.trans (hch.weak fun k hk => by rw [hk]; rfl)
                              clear hst hch
                              go_wp2_with fail
                              go_roundw
                              case rel => exact ⟨j + 1, _, hltj, by go_num, HST, HCH⟩
                              case measure => simp [RowKit.intOf]; omega
                            · have hj1 : decide (j < LB) = false := decide_eq_false hltj
                              have hj2 : ¬ (j : Int) < (LB : Int) := by omega
                              have HXe : Hid (Below w5.heap.size w5 wr) := HXo.out.trans (HCs.out.to_below HXo.out.size (fun k hk h => by have := HAP.out.2.2 k h; omega))
                              have HYe := Lib.hid (HY5.out.away (own' := fun _ => False) (chg_none HXe.out) (fun k _ h => absurd h id))
                              have HMe := Lib.hid (HM5.out.away (own' := fun _ => False) (chg_none HXe.out) (fun k _ h => absurd h id))
                              have HDe := Lib.hid (cut_lr (b := wr.heap.size) HD5.out)
                              have hbe : Below w.heap.size w wr := HB5.out.trans (HXe.out.mono HB5.out.size)
                              have HBe := Lib.hid hbe
                              have HLe : Hid ((∀ k, cutO oy5 w5.heap.size wr.heap.size k → w.heap.size ≤ k) ∧ (∀ k, cutO om5 w5.heap.size wr.heap.size k → w.heap.size ≤ k)) := ⟨cut_lo HLo5.out.1 hbe.size, cut_lo HLo5.out.2 hbe.size⟩
                              clear hltj hj hbe
                              go_wp2_with fail
                              go_roundw
                              case rel => exact ⟨k + 1, tk', fl', L', bad', _, _, hlt, by omega, by go_num, HS5, HYe, HMe, HDe, HLe, HBe⟩
                              case measure => simp [RowKit.intOf]; omega
              · have hor : (decide (k < l.length) = true ∧ (k : Int) < (l.length : Int) ∧ decide ((k : Int) < 80) = false ∧ ¬ (k : Int) < 80) ∨ (decide (k < l.length) = false ∧ ¬ (k : Int) < (l.length : Int) ∧ True ∧ True) := by
                  by_cases h : k < l.length
                  · have h2 : ¬ (k : Int) < 80 := fun h' => hex ⟨h, h'⟩
                    exact .inl ⟨decide_eq_true h, by omega, decide_eq_false h2, h2⟩
                  · exact .inr ⟨decide_eq_false h, by omega, trivial, trivial⟩
                clear hex
                rcases hor with ⟨hx1, hx2, hx3, hx4⟩ | ⟨hx1, hx2, hx3, hx4⟩ <;>
                · go_wp2_with fail
                  refine (K.out _).mono ?_; rintro e w3 ⟨rfl, b3⟩
                  have HB3 := Lib.hid (HB.out.trans (b3.mono HB.out.size))
                  clear b3
                  go_wp2_with fail
                  go_ret
                  exact ⟨rfl, HB3.out⟩
          · omega
        · omega
      · have hq : ¬ (0 ≤ order ∧ order ≤ 10) := fun h => by have := HAA.out; omega
        rcases hor with ⟨hx1, hx2, hx3, hx4⟩ | ⟨hx1, hx2, hx3, hx4⟩ <;>
        · go_enter Try.func3, Try.ntmps3
          go_wp2_with fail
          refine NW.out.mono ?_; rintro e w1 (⟨N, g1, hq', hn10, rfl, hY, b1⟩ | ⟨_, rfl, hw⟩)
          · omega
          · replace hw := hw.symm; subst hw
            have RW := Lib.hid (rNew_any order w)
            go_wp2_with fail
            refine RW.out.mono ?_; rintro e w2 (⟨N', g2, hq', _, rfl, hM, b2⟩ | ⟨_, rfl, hw⟩)
            · omega
            · replace hw := hw.symm; subst hw
              go_wp2_with fail
              refine (K.out _).mono ?_; rintro e w3 ⟨rfl, b3⟩
              have HB3 := Lib.hid b3
              clear b3
              go_wp2_with fail
              go_ret
              exact ⟨rfl, HB3.out⟩


set_option maxRecDepth 100000 in
theorem lifted (os : Os) (started : os.Started) (H : Type) (enc : TypeId × Value → H) :
    ReturnsInHanded {} Try.checked os 3 .any (Rows.buddyPlaysSpec.pre6 enc Try.prog Try.f3 Rows.buddyPlaysRow.domain false) (Rows.buddyPlaysSpec.post enc Try.prog Try.f3 false true false false) := by
  refine returnsInHanded_of_change (C := Try.checked) own started (by kernel_rfl) Try.func3
    (ChangeSpec.witness6 (enc := enc) (C := Try.checked) false ⟨#[], #[.int .i64 0, .slice none 0 0, .int .i64 0, .slice none 0 0], []⟩ 8 (by kernel_rfl) (by kernel_rfl) (by kernel_rfl) (by kernel_rfl)) ?_
  intro W base args ds gs before hval0 hW _ _
  have hval : ∀ (j : Nat) t v, Try.f3.params[j]? = some t → args[j]? = some v → Value.okWide Try.prog W .any base t v := hval0
  have hW' := hW
  obtain ⟨p, q, hA0, hV, rfl, hfz, hnd⟩ := hW
  have hA : DataW.TrodAll enc Try.prog W 0 (fun _ => true) true Try.f3.params.toList args.toList ds p := hA0
  rw [Try.params3] at hA hval
  obtain ⟨v0, vs0, d0, ds0, p0, q0, hargs, rfl, rfl, h0, r0⟩ := trodAll_cons hA
  obtain ⟨v1, vs1, d1, ds1, p1, q1, rfl, rfl, rfl, h1, r1⟩ := trodAll_cons r0
  obtain ⟨v2, vs2, d2, ds2, p2, q2, rfl, rfl, rfl, h2, r2⟩ := trodAll_cons r1
  obtain ⟨v3, vs3, d3, ds3, p3, q3, rfl, rfl, rfl, h3, r3⟩ := trodAll_cons r2
  obtain ⟨rfl, rfl, rfl⟩ := trodAll_nil r3
  obtain rfl : args = #[v0, v1, v2, v3] := by cases args; simp_all
  obtain ⟨order, rfl, rfl, rfl, w0⟩ := open_int Try.underlying3 (hval 0 3 v0 rfl rfl) h0
  obtain ⟨l, w1⟩ := open_acts_arg h1 (okWide_slice Try.underlying22 (hval 1 22 v1 rfl rfl))
  obtain ⟨n, rfl, rfl, rfl, w2⟩ := open_int Try.underlying3 (hval 2 3 v2 rfl rfl) h2
  obtain ⟨gives, w3⟩ := open_ints_arg Try.underlying23 Try.underlying3 (by kernel_rfl) h3 (okWide_slice Try.underlying23 (hval 3 23 v3 rfl rfl))
  clear hA0 hval0
  refine (walk order v1 l n v3 gives W w0 w1 w2 w3).mono fun e W' ⟨he, hb⟩ => ?_
  subst he
  exact ⟨_, rfl, law_post (by kernel_rfl) (by kernel_rfl) rfl Try.underlying4 rfl hW' rfl hb⟩

theorem over : Rows.buddyPlaysRow.holds Try.pinned (OpenSpec.ofChange Rows.buddyPlaysSpec) :=
  OpenClaim.holds_of_wide 3 Try.f3 rfl rfl rfl rfl rfl rfl rfl ⟨rfl, rfl, rfl, rfl, rfl⟩ rfl rfl rfl rfl rfl (by kernel_rfl) Try.func3 (by kernel_rfl)
    (of_decide_eq_true (by kernel_rfl)) (by unfold Func.isWrapper; first | (rw [if_pos (by decide +kernel)]; kernel_rfl) | (rw [if_neg (by decide +kernel)]; exact ⟨rfl, rfl⟩))
    (fun os started H enc _ => lifted os started H enc)

theorem proved : Rows.BuddyPlaysSaid :=
  over
#print axioms proved
end Go.Proofs.Ytcdlfhheolbhaaa.buddyPlays
