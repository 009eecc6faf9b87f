/-
  gangerref15.Check.
-/
import Derived.Test.YtioeblljabohbaaBfRf
import Derived.Deep.DeepCutAuto
namespace Go.Proofs.Ytioeblljabohbaa
open Go Go.RowKit Go.Lib
set_option linter.unusedVariables false

set_option maxRecDepth 100000 in
set_option maxHeartbeats 4000000 in
theorem refCheck_any (N : Int) (vf vh : Value) (FL : List Int) (HL : List HeI) (w : World) (hf : GRow w vf FL) (hh : HRow w vh HL) (hfl : FL.length ≤ maxLen) (hhl : HL.length ≤ maxLen) (hHW : ∀ x ∈ HL, x.1 ≤ 9223372036854775807) :
    Calls Try.prog 15 #[.agg #[.int .i64 N, vf, vh]] w fun e w' => ∃ er : Int, e = .returned (.int .i64 er) ∧ BfCode N FL HL er ∧ Below w.heap.size w w' := by
  have hf63 : FL.length ≤ 9223372036854775807 := by unfold maxLen at hfl; omega
  have hh63 : HL.length ≤ 9223372036854775807 := by unfold maxLen at hhl; omega
  have o1 := hf.slice
  have o2 := hh.slice
  obtain ⟨fa, fc, rfl⟩ := o1
  obtain ⟨ha, hc, rfl⟩ := o2
  have HF := Lib.hid hf
  have HH := Lib.hid hh
  obtain ⟨LF, hLF⟩ : ∃ n, n = FL.length := ⟨_, rfl⟩
  obtain ⟨LH, hLH⟩ : ∃ n, n = HL.length := ⟨_, rfl⟩
  rw [← hLF] at HF hf63 ⊢
  rw [← hLH] at HH hh63 ⊢
  have HLF := Lib.hid hLF
  have HLH := Lib.hid hLH
  have HWF := Lib.hid hHW
  clear hf hh hfl hhl hLF hLH hHW
  obtain ⟨gS, hgS⟩ : ∃ g, g = w.heap.size := ⟨_, rfl⟩
  obtain ⟨W, hW⟩ : ∃ W, W = w.alloc (.cells #[.int .i64 N, .slice fa LF fc, .slice ha LH hc] 25) := ⟨_, rfl⟩
  have HBW : Hid (Below w.heap.size w W) := by unfold Hid; rw [hW]; exact (Below.refl _ _).alloc (Nat.le_refl _) _
  have HSc : Hid (Blk W gS #[.int .i64 N, .slice fa LF fc, .slice ha LH hc] 25) := by unfold Hid; rw [hW, hgS]; exact Blk.new w _ _
  have s0 := HSc.out.cell 0
  have s1 := HSc.out.cell 1
  have s2 := HSc.out.cell 2
  simp at s0 s1 s2
  by_cases hN : 0 ≤ N ∧ N ≤ 10 ∧ LH ≤ 300
  · obtain ⟨n, rfl⟩ := Int.eq_ofNat_of_zero_le hN.1
    have hn10 : n ≤ 10 := by omega
    have d0 : decide ((n : Int) < 0) = false := decide_eq_false (by omega)
    have d1 : decide ((n : Int) > 10) = false := decide_eq_false (by omega)
    have d1' : decide ((10 : Int) < (n : Int)) = false := decide_eq_false (by omega)
    have d1'' : decide (10 < n) = false := decide_eq_false (by omega)
    have d2 : decide ((LH : Int) > 300) = false := decide_eq_false (by omega)
    have d2' : decide ((300 : Int) < (LH : Int)) = false := decide_eq_false (by omega)
    have d2'' : decide (300 < LH) = false := decide_eq_false (by omega)
    have hLH3 := hN.2.2
    obtain ⟨Y, hY⟩ : ∃ Y, Y = 2 ^ n := ⟨_, rfl⟩
    have hY2 : Y ≤ 1024 := by rw [hY]; exact pow_1024 hn10
    have SN : Hid (∀ w', Calls Try.prog 37 #[.int .i64 (n : Int)] w' fun e w'' => e = .returned (.int .i64 (Y : Int)) ∧ w'' = w') := fun w' => by rw [hY]; exact rSize_any n hn10 w'
    have HY := Lib.hid hY
    clear hN hY
    go_enter Try.func15, Try.ntmps15
    go_upto_region 1 with fail
    rw [← hgS, ← hW]
    clear hgS hW
    go_wp2_with fail
    go_loopw [3] (fun iv wr => ∃ k : Nat, k ≤ LF ∧ iv = .int .i64 k ∧ Hid (FlI n FL k) ∧ Hid (Below W.heap.size W wr)) (fun iv _ => LF - (RowKit.intOf iv).toNat)
    case atStart => exact ⟨0, Nat.zero_le _, rfl, (fun j _ h => by omega), Below.refl _ _⟩
    case round =>
      obtain ⟨k, hk, rfl, HFl, HB⟩ := hrel
      have HBr : Hid (Below w.heap.size w wr) := below_next HB.out HBW.out
      have s0 := (HSc.out.kept HB.out).cell 0
      have s1 := (HSc.out.kept HB.out).cell 1
      have s2 := (HSc.out.kept HB.out).cell 2
      simp at s0 s1 s2
      by_cases hlt : k < LF
      · have hd : decide (k < LF) = true := decide_eq_true hlt
        have hki : (k : Int) < (LF : Int) := by omega
        have hkl : k < FL.length := by rw [← HLF.out]; exact hlt
        obtain ⟨b0, o0, hfa, c0, hall⟩ : ∃ b o, fa = some ⟨b, o, none⟩ ∧ wr.cell? ⟨b, o + k, none⟩ = some (.int .i64 (FL.getD k 0)) ∧ ∀ j, j < FL.length → wr.cell? ⟨b, o + j, none⟩ = some (.int .i64 (FL.getD j 0)) := by
          rcases HF.out.kept HBr.out with ⟨h1, x, c9, h2⟩ | ⟨b9, o9, c9, h1, h2⟩
          · rw [h1] at hkl; simp at hkl
          · injection h1 with h1; exact ⟨b9, o9, h1, h2 k hkl, h2⟩
        subst hfa
        have HAL := Lib.hid hall
        obtain ⟨x, hx⟩ : ∃ x, x = FL.getD k 0 := ⟨_, rfl⟩
        have HX : Hid (∀ h : k < FL.length, FL[k] = x) := fun h => by rw [hx, List.getD_eq_getElem?_getD, List.getElem?_eq_getElem h]; rfl
        rw [← hx] at c0
        have HKL := Lib.hid hkl
        clear hx hkl hall
        by_cases hx0 : x < 0
        · have d3 : decide (x < 0) = true := decide_eq_true hx0
          have HR : Hid (¬ Good (n : Int) FL HL) := fun h => by
            have hfl := good_fl h k HKL.out HKL.out
            rw [HX.out HKL.out] at hfl
            omega
          go_upto_region 6 with fail
          go_quiet (fail)
          go_wp2_with fail
          go_ret
          exact ⟨2, rfl, .inr ⟨rfl, HR.out⟩, below_drewN HBr.out _⟩
        · have d3 : decide (x < 0) = false := decide_eq_false hx0
          by_cases hxY : (Y : Int) ≤ x
          · have d4 : decide (x ≥ (Y : Int)) = true := decide_eq_true hxY
            have d4' : decide ((Y : Int) ≤ x) = true := decide_eq_true hxY
            have HR : Hid (¬ Good (n : Int) FL HL) := fun h => by
              have hfl := (good_fl h k HKL.out HKL.out).2.1
              rw [HX.out HKL.out, ← HY.out] at hfl
              omega
            go_upto_region 6 with fail
            go_quiet (first | (go_at_call 37; exact Calls.quiet_of_same (SN.out _)))
            go_wp2_with fail
            go_ret
            exact ⟨2, rfl, .inr ⟨rfl, HR.out⟩, below_drewN HBr.out _⟩
          · have d4 : decide (x ≥ (Y : Int)) = false := decide_eq_false hxY
            have d4' : decide ((Y : Int) ≤ x) = false := decide_eq_false hxY
            by_cases hk0 : k = 0
            · have HK0 : Hid (k = 0) := hk0
              have d5 : decide ((k : Int) > 0) = false := decide_eq_false (by omega)
              have d5' : decide ((0 : Int) < (k : Int)) = false := decide_eq_false (by omega)
              have d5'' : decide (0 < k) = false := decide_eq_false (by omega)
              have H1 : Hid (FlI n FL (k + 1)) := fun j hj hjk => by
                have e : j = k := by have := HK0.out; omega
                subst e
                rw [HX.out hj]
                exact ⟨by omega, by rw [← HY.out]; omega, fun i hi => by have := HK0.out; omega⟩
              clear hk0
              go_upto_region 6 with fail
              go_quiet (first | (go_at_call 37; exact Calls.quiet_of_same (SN.out _)))
              go_wp2_with fail
              go_roundw
              case rel => exact ⟨k + 1, hlt, by go_num, H1, below_drewN HB.out _⟩
              case measure => simp [RowKit.intOf]; omega
            · have d5 : decide ((k : Int) > 0) = true := decide_eq_true (by omega)
              have d5' : decide ((0 : Int) < (k : Int)) = true := decide_eq_true (by omega)
              have d5'' : decide (0 < k) = true := decide_eq_true (by omega)
              obtain ⟨km, hkm⟩ : ∃ km, km = k - 1 := ⟨_, rfl⟩
              have hkmi : (k : Int) - 1 = (km : Int) := by omega
              have c1 := HAL.out km (by have := HKL.out; omega)
              obtain ⟨p, hp⟩ : ∃ p, p = FL.getD km 0 := ⟨_, rfl⟩
              have HPX : Hid (∀ h : km < FL.length, FL[km] = p) := fun h => by rw [hp, List.getD_eq_getElem?_getD, List.getElem?_eq_getElem h]; rfl
              rw [← hp] at c1
              have hkm1 : (0 : Int) ≤ (km : Int) := by omega
              have hkm2 : (km : Int) < (LF : Int) := by omega
              have hkm3 : km < LF := by omega
              have HKM : Hid (km + 1 = k) := by unfold Hid; omega
              clear hp hkm hk0
              by_cases hxp : x ≤ p
              · have d6 : decide (x ≤ p) = true := decide_eq_true hxp
                have HR : Hid (¬ Good (n : Int) FL HL) := fun h => by
                  have h1 := HKL.out
                  have h2 := HKM.out
                  have hfl := (good_fl h k h1 h1).2.2 km (by omega)
                  rw [HX.out h1, HPX.out (by omega)] at hfl
                  omega
                go_upto_region 6 with fail
                go_quiet (first | (go_at_call 37; exact Calls.quiet_of_same (SN.out _)))
                go_wp2_with fail
                go_ret
                exact ⟨2, rfl, .inr ⟨rfl, HR.out⟩, below_drewN HBr.out _⟩
              · have d6 : decide (x ≤ p) = false := decide_eq_false hxp
                have H1 : Hid (FlI n FL (k + 1)) := fun j hj hjk => by
                  rcases (by omega : j < k ∨ j = k) with h1 | h1
                  · exact HFl.out j hj h1
                  · subst h1
                    rw [HX.out hj]
                    refine ⟨by omega, by rw [← HY.out]; omega, fun i hi => ?_⟩
                    have h2 := HKM.out
                    have h3 := HPX.out (by omega)
                    rcases (by omega : i < km ∨ i = km) with h4 | h4
                    · have := (HFl.out km (by omega) (by omega)).2.2 i h4
                      rw [h3] at this; omega
                    · subst h4; rw [h3]; omega
                go_upto_region 6 with fail
                go_quiet (first | (go_at_call 37; exact Calls.quiet_of_same (SN.out _)))
                go_wp2_with fail
                go_roundw
                case rel => exact ⟨k + 1, hlt, by go_num, H1, below_drewN HB.out _⟩
                case measure => simp [RowKit.intOf]; omega
      · have hd : decide (k < LF) = false := decide_eq_false hlt
        have hki : ¬ (k : Int) < (LF : Int) := by omega
        have HFA : Hid (FlI n FL FL.length) := by
          have e : k = FL.length := by have := HLF.out; omega
          have h := HFl.out
          rw [e] at h
          exact h
        clear HFl
        go_upto_region 9 with fail
        obtain ⟨w9, hw9⟩ : ∃ w9, w9 = wr := ⟨_, rfl⟩
        subst hw9
        go_loopw [4] (fun iv wr => ∃ k : Nat, k ≤ LH ∧ iv = .int .i64 k ∧ Hid (HlI n HL k) ∧ Hid (Below W.heap.size W wr)) (fun iv _ => LH - (RowKit.intOf iv).toNat)
        case atStart => exact ⟨0, Nat.zero_le _, rfl, (fun j _ h => by omega), HB⟩
        case round =>
          clear HB HBr s0 s1 s2 hlt hd hki hk
          obtain ⟨k, hk, rfl, HHl, HB⟩ := hrel
          have HBr : Hid (Below w.heap.size w wr) := below_next HB.out HBW.out
          have s2 := (HSc.out.kept HB.out).cell 2
          simp at s2
          by_cases hlt : k < LH
          · have hd : decide (k < LH) = true := decide_eq_true hlt
            have hki : (k : Int) < (LH : Int) := by omega
            have hkl : k < HL.length := by rw [← HLH.out]; exact hlt
            cases ha with
            | none => have h := (show HL = [] from by
                        rcases HH.out with ⟨h, _⟩ | ⟨b, off, c', h1, _⟩
                        · exact h
                        · cases h1)
                      rw [h] at hkl; simp at hkl
            | some A =>
            obtain ⟨bb, off, e9, hcs⟩ := HH.out.at hkl
            injection e9 with e9
            subst e9
            have c0 : wr.cell? ⟨bb, off + k * 4, none⟩ = some (.int .i64 HL[k].1) := hcs wr HBr.out 0 _ rfl
            have c1 : wr.cell? ⟨bb, off + k * 4 + 1, none⟩ = some (.int .i64 HL[k].2.1) := hcs wr HBr.out 1 _ rfl
            have c2 : wr.cell? ⟨bb, off + k * 4 + 2, none⟩ = some (.int .i64 HL[k].2.2.1) := hcs wr HBr.out 2 _ rfl
            have c3 : wr.cell? ⟨bb, off + k * 4 + 3, none⟩ = some (.int .i64 HL[k].2.2.2) := hcs wr HBr.out 3 _ rfl
            have hwf := HWF.out _ (List.getElem_mem hkl)
            have HGH : Hid (Good (n : Int) FL HL → heIn n HL[k]) := fun h => good_hl h k hkl hkl
            have HNX : Hid (heIn n HL[k] → HlI n HL (k + 1)) := fun h j hj hjk => by
              rcases (by omega : j < k ∨ j = k) with h1 | h1
              · exact HHl.out j hj h1
              · subst h1; exact h
            obtain ⟨x, hx⟩ : ∃ x, x = HL[k] := ⟨_, rfl⟩
            rw [← hx] at c0 c1 c2 c3 hwf HGH HNX
            clear hx hkl hcs HHl
            obtain ⟨S, O, f, t⟩ := x
            dsimp only at c0 c1 c2 c3 hwf
            obtain ⟨r, hr⟩ : ∃ r : Bool, r = true ↔ blkI n S O := by
              haveI := Classical.propDecidable (blkI n S O)
              exact ⟨decide (blkI n S O), decide_eq_true_iff⟩
            have hIN : Hid (heIn n (S, O, f, t) ↔ r = true ∧ 0 ≤ f ∧ f < t ∧ t ≤ 4398046511104) := by
              unfold Hid heIn
              dsimp only
              rw [hr]
            obtain ⟨gH, hgH⟩ : ∃ g, g = wr.heap.size := ⟨_, rfl⟩
            obtain ⟨W2, hW2⟩ : ∃ x, x = wr.alloc (.cells #[.int .i64 S, .int .i64 O, .int .i64 f, .int .i64 t] 57) := ⟨_, rfl⟩
            have hb2 : Below wr.heap.size wr W2 := by rw [hW2]; exact (Below.refl _ _).alloc (Nat.le_refl _) _
            have HH2 : Hid (Blk W2 gH #[.int .i64 S, .int .i64 O, .int .i64 f, .int .i64 t] 57) := by unfold Hid; rw [hW2, hgH]; exact Blk.new _ _ _
            have FIT := Lib.hid (refFits_any n (.slice fa LF fc) (.slice (some ⟨bb, off, none⟩) LH hc) S O W2 hn10 rfl rfl hwf r hr)
            have HB2 : Hid (Below W.heap.size W W2) := below_next hb2 HB.out
            have HS2 := Lib.hid (HSc.out.kept HB2.out)
            have x0 := HS2.out.cell 0
            have x1 := HS2.out.cell 1
            have x2 := HS2.out.cell 2
            have y0 := HH2.out.cell 0
            have y1 := HH2.out.cell 1
            simp at x0 x1 x2 y0 y1
            clear hr hwf
            go_upto_region 12 with fail
            rw [← hW2, ← hgH]
            clear hW2 hgH hb2 c0 c1 c2 c3 s2 HB HBr
            go_wp2_with fail
            refine FIT.out.mono ?_; rintro e w3 ⟨rfl, b3⟩
            have HH3 := HH2.out.kept b3
            have HB3 := Lib.hid (below_next b3 HB2.out)
            have HB3w := Lib.hid (below_next HB3.out HBW.out)
            have y2 := HH3.cell 2
            have y3 := HH3.cell 3
            simp at y2 y3
            clear b3 FIT HH3 HH2 HB2 HS2 x0 x1 x2 y0 y1
            cases r with
            | false =>
              have HR : Hid (¬ Good (n : Int) FL HL) := fun h => nomatch (hIN.out.1 (HGH.out h)).1
              go_wp2_with fail
              go_ret
              exact ⟨2, rfl, .inr ⟨rfl, HR.out⟩, HB3w.out⟩
            | true =>
              by_cases p1 : f < 0
              · have d3 : decide (f < 0) = true := decide_eq_true p1
                have HR : Hid (¬ Good (n : Int) FL HL) := fun h => by have := (hIN.out.1 (HGH.out h)).2; omega
                go_wp2_with fail
                go_ret
                exact ⟨2, rfl, .inr ⟨rfl, HR.out⟩, HB3w.out⟩
              · have d3 : decide (f < 0) = false := decide_eq_false p1
                by_cases p2 : t ≤ f
                · have d4 : decide (f ≥ t) = true := decide_eq_true p2
                  have d4' : decide (t ≤ f) = true := decide_eq_true p2
                  have HR : Hid (¬ Good (n : Int) FL HL) := fun h => by have := (hIN.out.1 (HGH.out h)).2; omega
                  go_wp2_with fail
                  go_ret
                  exact ⟨2, rfl, .inr ⟨rfl, HR.out⟩, HB3w.out⟩
                · have d4 : decide (f ≥ t) = false := decide_eq_false p2
                  have d4' : decide (t ≤ f) = false := decide_eq_false p2
                  by_cases p3 : 4398046511104 < t
                  · have d5 : decide (t > 4398046511104) = true := decide_eq_true (by omega)
                    have d5' : decide (4398046511104 < t) = true := decide_eq_true p3
                    have HR : Hid (¬ Good (n : Int) FL HL) := fun h => by have := (hIN.out.1 (HGH.out h)).2; omega
                    go_wp2_with fail
                    go_ret
                    exact ⟨2, rfl, .inr ⟨rfl, HR.out⟩, HB3w.out⟩
                  · have d5 : decide (t > 4398046511104) = false := decide_eq_false (by omega)
                    have d5' : decide (4398046511104 < t) = false := decide_eq_false p3
                    have HNY := Lib.hid (HNX.out (hIN.out.2 ⟨rfl, by omega, by omega, by omega⟩))
                    go_wp2_with fail
                    go_roundw
                    case rel => exact ⟨k + 1, hlt, by go_num, HNY, HB3⟩
                    case measure => simp [RowKit.intOf]; omega
          · have hd : decide (k < LH) = false := decide_eq_false hlt
            have hki : ¬ (k : Int) < (LH : Int) := by omega
            have HG : Hid (Good (n : Int) FL HL) := by
              have e : k = HL.length := by have := HLH.out; omega
              have h := HHl.out
              rw [e] at h
              exact good_of hn10 (by have := HLH.out; omega) HFA.out h
            go_wp2_with fail
            go_ret
            exact ⟨0, rfl, .inl ⟨rfl, HG.out⟩, HBr.out⟩
  · have HR : Hid (¬ Good N FL HL) := fun h => hN (by have := good_n h; have h2 := HLH.out; omega)
    by_cases h0 : N < 0
    · have d0 : decide (N < 0) = true := decide_eq_true h0
      go_enter Try.func15, Try.ntmps15
      go_upto_region 1 with fail
      rw [← hgS, ← hW]
      clear hgS hW
      go_wp2_with fail
      go_ret
      exact ⟨2, rfl, .inr ⟨rfl, HR.out⟩, HBW.out⟩
    · have d0 : decide (N < 0) = false := decide_eq_false h0
      by_cases h10 : 10 < N
      · have d1 : decide (N > 10) = true := decide_eq_true (by omega)
        have d1' : decide ((10 : Int) < N) = true := decide_eq_true h10
        go_enter Try.func15, Try.ntmps15
        go_upto_region 1 with fail
        rw [← hgS, ← hW]
        clear hgS hW
        go_wp2_with fail
        go_ret
        exact ⟨2, rfl, .inr ⟨rfl, HR.out⟩, HBW.out⟩
      · have d1 : decide (N > 10) = false := decide_eq_false (by omega)
        have d1' : decide ((10 : Int) < N) = false := decide_eq_false h10
        have d2 : decide ((LH : Int) > 300) = true := decide_eq_true (by omega)
        have d2' : decide ((300 : Int) < (LH : Int)) = true := decide_eq_true (by omega)
        have d2'' : decide (300 < LH) = true := decide_eq_true (by omega)
        clear hN
        go_enter Try.func15, Try.ntmps15
        go_upto_region 1 with fail
        rw [← hgS, ← hW]
        clear hgS hW
        go_wp2_with fail
        go_ret
        exact ⟨2, rfl, .inr ⟨rfl, HR.out⟩, HBW.out⟩
end Go.Proofs.Ytioeblljabohbaa
