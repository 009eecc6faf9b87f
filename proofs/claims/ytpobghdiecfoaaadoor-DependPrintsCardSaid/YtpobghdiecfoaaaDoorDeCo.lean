/-
  gangerlaw08.copied.
-/
import Derived.Test.YtpobghdiecfoaaaDoorApS
import Derived.Test.YtpobghdiecfoaaaDoorDePp
import Derived.Deep.RegionLaw
import Derived.Deep.CutBlock
import Derived.Deep.DeepCutAuto
namespace Go.Proofs.YtpobghdiecfoaaaDoor
open Go Go.RowKit Go.Lib
set_option linter.unusedVariables false

/-- A box of a need is no block of a row of numbers. -/
theorem blk_nu {w : World} {g base n : Nat} {cs : Array Value} {v : Value} {xs : List Value} (h : Blk w g cs 46) (ho : w.ownsRow base 38 1 v n xs) : ∀ q, v.ownBlock = some q → ¬ One g q := fun q hq e => by
  obtain rfl : q = g := e
  obtain ⟨_, ⟨rfl, _⟩ | ⟨g2, _, c2, rfl, _, hc2, _⟩⟩ := ho
  · cases hq
  obtain rfl : g2 = q := by simpa [Value.ownBlock] using hq
  unfold Blk at h
  rw [hc2] at h
  injection h with h
  injection h with _ e _
  exact absurd e (by decide)
set_option maxRecDepth 100000 in
set_option maxHeartbeats 4000000 in
theorem copied_any (any : Bool) (v : Value) (l : List NdM) (w : World) (h : NRw w v l) :
    Calls Tryd.prog 12 #[.agg #[.bool any, v]] w fun e w' => (∃ v' l', e = .returned (.agg #[.bool any, v']) ∧ NdOwn w' w.heap.size v' l' ∧ ndsOf l' = ndsOf l) ∧ Below w.heap.size w w' := by
  obtain ⟨a, c, rfl⟩ := h.row.slice
  obtain ⟨N, hN⟩ : ∃ N, N = l.length := ⟨_, rfl⟩
  have HN := Lib.hid hN
  obtain ⟨g1, hg1⟩ : ∃ g, g = w.heap.size := ⟨_, rfl⟩
  obtain ⟨g2, hg2⟩ : ∃ g, g = g1 + 1 := ⟨_, rfl⟩
  obtain ⟨g3, hg3⟩ : ∃ g, g = g2 + 1 := ⟨_, rfl⟩
  obtain ⟨X, hX⟩ : ∃ X, X = ((w.alloc (.cells #[.bool any, .slice a l.length c] 24)).alloc (.cells #[.bool false, .slice none 0 0] 24)).alloc (.cells #[.bool any, .slice none 0 0] 24) := ⟨_, rfl⟩
  have hbX : Below w.heap.size w X := by rw [hX]; exact (((Below.refl _ _).alloc (Nat.le_refl _) _).alloc (by simp) _).alloc (by simp; omega) _
  have HK1 : Hid (Blk X g1 #[.bool any, .slice a l.length c] 24) := by unfold Hid; rw [hX, hg1]; exact ((Blk.new w _ _).old _).old _
  have HK2 : Hid (Blk X g2 #[.bool false, .slice none 0 0] 24) := by unfold Hid; rw [hX]; exact (Blk.fresh _ _ _ g2 (by rw [hg2, hg1]; simp)).old _
  have HK3 : Hid (Blk X g3 #[.bool any, .slice none 0 0] 24) := by unfold Hid; rw [hX]; exact Blk.fresh _ _ _ g3 (by rw [hg3, hg2, hg1]; simp)
  have HGG : Hid (w.heap.size ≤ g1 ∧ g1 < g2 ∧ g2 < g3 ∧ g3 < X.heap.size) := ⟨Nat.le_of_eq hg1.symm, by omega, by omega, HK3.out.lt⟩
  have HL := Lib.hid (h.kept hbX)
  have HBX := Lib.hid hbX
  have HLb := h.len
  have HRW : Hid (NRw w (.slice a N c) l) := by unfold Hid; rw [hN]; exact h
  rw [← hN] at hX HK1 HLb ⊢
  have HXX := Lib.hid hX
  have HG1 := Lib.hid hg1
  have HG2 := Lib.hid hg2
  have HG3 := Lib.hid hg3
  obtain ⟨BN, hBN⟩ : ∃ b, b = X.heap.size := ⟨_, rfl⟩
  have HBN := Lib.hid hBN
  obtain ⟨i0, hi0, hz0, hz1, hz2⟩ := info_parts Tryd.infoNeed8
  have HI := Lib.hid (And.intro hi0 (And.intro hz0 (And.intro hz1 hz2)))
  obtain ⟨i1, hi1, hy0, hy1, hy2⟩ := info_parts Tryd.infoJob
  have HI1 := Lib.hid (And.intro hi1 (And.intro hy0 (And.intro hy1 hy2)))
  clear h hN hX hg1 hg2 hg3 hbX hBN hi0 hz0 hz1 hz2 hi1 hy0 hy1 hy2
  go_enter Tryd.func12, Tryd.ntmps12
  have q1 := HK1.out.cell 0
  go_upto_region 2 with fail
  rw [← HG1.out, ← HG2.out, ← HG3.out, ← HXX.out]
  go_wp2_with fail
  go_loopw [4] (fun iv wr => ∃ (i : Nat) (l' : List NdM) (v' : Value), iv = .int .i64 (i : Nat) ∧ i ≤ N ∧ Hid (ndsOf l' = (ndsOf l).take i) ∧ Hid (NdOwn wr BN v' l') ∧ Hid (Blk wr g3 #[.bool any, v'] 24) ∧ Hid (Blk wr g2 #[.bool false, .slice none 0 0] 24) ∧ Hid (Blk wr g1 #[.bool any, .slice a N c] 24) ∧ Hid (Below w.heap.size w wr) ∧ Hid (NRw wr (.slice a N c) l) ∧ Hid (BN ≤ wr.heap.size)) (fun iv _ => N - (RowKit.intOf iv).toNat)
  case atStart => exact ⟨0, [], .slice none 0 0, rfl, Nat.zero_le _, rfl, NdOwn.nil _ _, HK3.out, HK2.out, HK1.out, HBX.out, by have h := HL.out; rw [← HN.out] at h; exact h, Nat.le_of_eq HBN.out⟩
  case round =>
    clear HK1 HK2 HK3 HL q1
    obtain ⟨i, l', v', rfl, hi, HND, HO, HK3, HK2, HK1, HB, HR, HBr⟩ := hrel
    obtain ⟨va, vc, rfl⟩ := own_slice HO.out.row
    have hl' : l'.length = i := by rw [← ndsOf_len, HND.out, List.length_take, ndsOf_len, ← HN.out]; omega
    rw [hl'] at HK3 HO
    have HLI := Lib.hid hl'
    clear hl'
    have a0 := HK1.out.cell 0
    have a1 := HK1.out.cell 1
    have c0 := HK3.out.cell 0
    have c1 := HK3.out.cell 1
    simp at a0 a1 c0 c1
    by_cases hlt : i < N
    · have d1 : decide ((i : Int) < (N : Int)) = true := decide_eq_true (by omega)
      have d1' : decide (i < N) = true := decide_eq_true hlt
      have hii : (i : Int) < (N : Int) := by omega
      have hik : i < l.length := by rw [← HN.out]; exact hlt
      have HTK : Hid ((ndsOf l).take (i + 1) = (ndsOf l).take i ++ [toNd l[i]]) := by
        unfold Hid
        rw [List.take_add_one, List.getElem?_eq_getElem (by rw [ndsOf_len]; exact hik)]
        simp [ndsOf]
      obtain ⟨bb, off, e, x0, x1, hu, hul⟩ := NRw.at HR.out (Below.refl _ _) hik
      subst e
      obtain ⟨p, hp⟩ : ∃ p, p = l[i] := ⟨_, rfl⟩
      rw [← hp] at x0 x1 hu hul HTK
      obtain ⟨k, pv, js⟩ := p
      unfold toNd at HTK
      dsimp only at x0 x1 hu hul HTK
      obtain ⟨pa, pc, rfl⟩ := hu.slice
      obtain ⟨M, hM⟩ : ∃ M, M = js.length := ⟨_, rfl⟩
      have HMM := Lib.hid hM
      have HU := Lib.hid hu
      rw [← hM] at x1 HU hul
      obtain ⟨g5, hg5⟩ : ∃ g, g = wr.heap.size := ⟨_, rfl⟩
      obtain ⟨W, hW⟩ : ∃ x, x = wr.alloc (.cells #[.int .i64 k, .slice none 0 0] 46) := ⟨_, rfl⟩
      have hbW : Below wr.heap.size wr W := by rw [hW]; exact (Below.refl _ _).alloc (Nat.le_refl _) _
      have HK5 : Hid (Blk W g5 #[.int .i64 k, .slice none 0 0] 46) := by unfold Hid; rw [hW, hg5]; exact Blk.new _ _ _
      have HBW := Lib.hid hbW
      have HWW := Lib.hid hW
      have HG5 := Lib.hid hg5
      have HG5W : Hid (wr.heap.size ≤ g5) := Nat.le_of_eq hg5.symm
      have HG5B : Hid (BN ≤ g5 ∧ g5 < W.heap.size) := ⟨by rw [hg5]; exact HBr.out, HK5.out.lt⟩
      clear hp hM hg5 hW hbW hu
      go_upto_region 6 with fail
      rw [← HWW.out, ← HG5.out]
      clear HWW HG5
      have y0 := cell_next HBW.out x0
      have y1 := cell_next HBW.out x1
      have b0 := cell_next HBW.out a0
      have b1 := cell_next HBW.out a1
      have n0 := HK5.out.cell 0
      have n1 := HK5.out.cell 1
      simp at n0 n1
      have f1 := HK5.out.free 1
      have HSRC : Hid (Src W.drew 1 (.slice pa M pc) M (uL js)) := by
        have h := src_of_rowG uV_len (by decide) (HU.out.kept HBW.out)
        rw [← HMM.out] at h
        exact h
      have hMb : M ≤ 1048576 := hul
      have hBNW : BN ≤ W.drew.heap.size := by have := HG5B.out; show BN ≤ W.heap.size; omega
      have HNX : Hid (∀ w9, W.drew.grownBy w9 (Value.slice none 0 0).ownBlock → Blk w9 g5 #[.int .i64 k, .slice none 0 0] 46 ∧ Below wr.heap.size wr w9) := fun w9 hg =>
        ⟨blk_grown8 (w := W.drew) HK5.out hg (by intro e; cases e), HBW.out.drew.grown hg HBW.out.size (fun q hq => by cases hq)⟩
      go_cut [] from 23 to 32 (fun wx => ∃ a9 c9, Hid (Blk wx g5 #[.int .i64 k, .slice a9 M c9] 46) ∧ Hid (wx.ownsRow BN 38 1 (.slice a9 M c9) M (uL js)) ∧ Hid (Below wr.heap.size wr wx))
      case first =>
        obtain ⟨hi1, hy0, hy1, hy2⟩ := HI1.out
        go_region_law (first | (refine step_app (by rfl) _ _ 34 (by rfl) BN 38 i1 _ 1 4 Tryd.underlying34 hi1 hy0 hy1 hy2 rfl (by decide) _ 0 [] (by rfl) ⟨rfl, .inl ⟨rfl, rfl⟩⟩ _ M (uL js) (by rfl) HSRC.out (uL_one _) (by unfold maxLen; omega) (by omega) hBNW ?_; intro v9 w9 hown9 hgrow9 hat9; obtain ⟨hk9, hb9⟩ := HNX.out w9 hgrow9; have HK9 := Lib.hid hk9; have HB9 := Lib.hid hb9; have m1 := hk9.cell 1; have fm1 := hk9.free 1; simp at m1; rw [Nat.zero_add, List.nil_append] at hown9; have HO9 := Lib.hid hown9; obtain ⟨a9, c9, rfl⟩ := own_slice hown9; clear hown9 hgrow9 hat9 hk9 hb9))
        all_goals
          have HK5N : Hid (Blk (w9.setCell ⟨g5, 1, none⟩ (.slice a9 M c9)) g5 #[.int .i64 k, .slice a9 M c9] 46) := HK9.out.set 1 _
          have hcs : Chg (One g5) w9 (w9.setCell ⟨g5, 1, none⟩ (.slice a9 M c9)) := Chg.setCell (own := One g5) 1 _ rfl
          have HBN9 : Hid (Below wr.heap.size wr (w9.setCell ⟨g5, 1, none⟩ (.slice a9 M c9))) := HB9.out.trans (hcs.to_below HB9.out.size fun q hq e => by have : q = g5 := e; have := HG5W.out; omega)
          have HON : Hid ((w9.setCell ⟨g5, 1, none⟩ (.slice a9 M c9)).ownsRow BN 38 1 (.slice a9 M c9) M (uL js)) := own_chg HO9.out hcs fun q hq e => blk_nu HK9.out HO9.out q hq e
          go_wp2_with fail
          go_meet
          exact ⟨a9, c9, HK5N.out, HON.out, HBN9.out⟩
      case rest =>
      obtain ⟨a9, c9, HK5N, HON, HBN9⟩ := hcut
      have HBNr := Lib.hid (below_next HBN9.out HB.out)
      have HK39 := Lib.hid (HK3.out.kept HBN9.out)
      have HK29 := Lib.hid (HK2.out.kept HBN9.out)
      have HK19 := Lib.hid (HK1.out.kept HBN9.out)
      have HR9 := Lib.hid (HR.out.kept HBN9.out)
      have HO9 := Lib.hid (HO.out.older HBN9.out)
      have hBN9 : BN ≤ wc.heap.size := Nat.le_trans HBr.out HBN9.out.size
      clear HK1 HK2 HK3 HR HO HB HBr HBN9 HK5 HBW HSRC HNX n0 n1 f1 y0 y1 b0 b1 x0 x1 a0 a1 c0 c1 HU HG5W
      have z0 := HK5N.out.cell 0
      have z1 := HK5N.out.cell 1
      have c0 := HK39.out.cell 0
      have c1 := HK39.out.cell 1
      simp at z0 z1 c0 c1
      have HRO : Hid (wc.ownsRow BN 46 2 (.slice va i vc) i (l'.flatMap ndV)) := by
        have h := HO9.out.row
        rw [HLI.out] at h
        exact h
      have HNO : Hid (∀ g, g = g1 ∨ g = g2 ∨ g = g3 → some g ≠ (Value.slice va i vc).ownBlock) := fun g hg e => by
        have := (HRO.out.lt g e.symm).1
        have := HGG.out
        have := HBN.out
        omega
      have HNX8 : Hid (∀ w8 o, (wc.alloc o).grownBy w8 (Value.slice va i vc).ownBlock → Blk w8 g3 #[.bool any, .slice va i vc] 24 ∧ Blk w8 g2 #[.bool false, .slice none 0 0] 24 ∧ Blk w8 g1 #[.bool any, .slice (some ⟨bb, off, none⟩) N c] 24 ∧ Below w.heap.size w w8 ∧ BN ≤ w8.heap.size) := fun w8 o hg =>
        ⟨blk_grown8 (HK39.out.old o) hg (HNO.out _ (.inr (.inr rfl))), blk_grown8 (HK29.out.old o) hg (HNO.out _ (.inr (.inl rfl))), blk_grown8 (HK19.out.old o) hg (HNO.out _ (.inl rfl)), (HBNr.out.alloc HBNr.out.size o).grown hg (by have := HBNr.out.size; simp; omega) (fun q hq => by have := (HRO.out.lt q hq).1; have := HBN.out; have := HGG.out; omega), Nat.le_trans (Nat.le_trans hBN9 (by simp)) hg.size⟩
      have HNA : Hid (∀ w8 v8 o, (wc.alloc o).grownBy w8 (Value.slice va i vc).ownBlock → w8.ownsRow BN 46 2 v8 (i + 1) (l'.flatMap ndV ++ [.int .i64 k, .slice a9 M c9]) → NdOwn w8 BN v8 (l' ++ [(k, .slice a9 M c9, js)])) := fun w8 v8 o hg hr => by
        have hA : Below wc.heap.size wc (wc.alloc o) := (Below.refl _ _).alloc (Nat.le_refl _) _
        have hu : UOwn wc BN (.slice a9 M c9) js := by unfold UOwn; rw [← HMM.out]; exact HON.out
        refine (HO9.out.older hA).app (p := (k, .slice a9 M c9, js)) (own_older hu hA) hg ?_
        rw [HLI.out]
        exact hr
      have HNR : Hid (∀ w8, Below w.heap.size w w8 → NRw w8 (.slice (some ⟨bb, off, none⟩) N c) l) := fun w8 hb => by
        have h := HRW.out.kept hb
        exact h
      obtain ⟨hi0, hz0, hz1, hz2⟩ := HI.out
      go_wp2_with (first | (at_builtin; refine wpList_app rfl _ _ 22 rfl BN 46 i0 _ 2 32 Tryd.underlying22 hi0 hz0 hz1 hz2 rfl (by decide) _ i _ rfl (HRO.out.alloc _) _ 1 [.int .i64 k, .slice a9 M c9] rfl ⟨rfl, .inr ⟨_, _, rfl, news_alloc wc [.int .i64 k, .slice a9 M c9] _⟩⟩ (fun u hu => by simp at hu; rcases hu with rfl | rfl <;> rfl) (by unfold maxLen; omega) (by omega) (by simp; omega) ?_; intro v8 w8 hown8 hgrow8 hat8; obtain ⟨hk3, hk2, hk1, hb8, hj8⟩ := HNX8.out w8 _ hgrow8; have y1 := hk3.cell 1; have f1 := hk3.free 1; simp at y1; have HK38 := Lib.hid hk3; have HK28 := Lib.hid hk2; have HK18 := Lib.hid hk1; have HB8 := Lib.hid hb8; have HJ8 := Lib.hid hj8; have HO8 := Lib.hid (HNA.out w8 v8 _ hgrow8 hown8); obtain ⟨a8, c8, rfl⟩ := own_slice hown8; clear hk3 hk2 hk1 hb8 hj8 hown8 hgrow8 hat8))
      obtain ⟨wz, hwz⟩ : ∃ x, x = w8.setCell ⟨g3, 1, none⟩ (.slice a8 (i + 1) c8) := ⟨_, rfl⟩
      have hcs : Chg (One g3) w8 wz := by rw [hwz]; exact Chg.setCell (own := One g3) 1 _ rfl
      have HK3Z : Hid (Blk wz g3 #[.bool any, .slice a8 (i + 1) c8] 24) := by unfold Hid; rw [hwz]; exact HK38.out.set 1 _
      have HK2Z : Hid (Blk wz g2 #[.bool false, .slice none 0 0] 24) := by unfold Hid; rw [hwz]; exact HK28.out.other (by show g2 ≠ g3; have := HGG.out; omega) _
      have HK1Z : Hid (Blk wz g1 #[.bool any, .slice (some ⟨bb, off, none⟩) N c] 24) := by unfold Hid; rw [hwz]; exact HK18.out.other (by show g1 ≠ g3; have := HGG.out; omega) _
      have HBZ : Hid (Below w.heap.size w wz) := HB8.out.trans (hcs.to_below HB8.out.size fun q hq e => by have : q = g3 := e; have := HGG.out; omega)
      have HOZ : Hid (NdOwn wz BN (.slice a8 (i + 1) c8) (l' ++ [(k, .slice a9 M c9, js)])) := HO8.out.chg hcs fun q h1 _ e => by have : q = g3 := e; have := HGG.out; have := HBN.out; omega
      have HJZ : Hid (BN ≤ wz.heap.size) := Nat.le_trans HJ8.out hcs.size
      have HND2 : Hid (ndsOf (l' ++ [((k, Value.slice a9 M c9, js) : NdM)]) = (ndsOf l).take (i + 1)) := by
        unfold Hid
        rw [HTK.out, ← HND.out]
        simp [ndsOf, toNd]
      have HRZ := Lib.hid (HNR.out wz HBZ.out)
      clear hcs HNX8 HNA HNO HRO HO9 HK38 HK28 HK18 HB8 HJ8 HO8
      go_wp2_with fail
      rw [← hwz]
      clear hwz
      go_roundw
      case rel => exact ⟨i + 1, _, _, by go_num, hlt, HND2.out, HOZ.out, HK3Z.out, HK2Z.out, HK1Z.out, HBZ.out, HRZ.out, HJZ.out⟩
      case measure => simp [RowKit.intOf]; omega
    · have d1 : decide ((i : Int) < (N : Int)) = false := decide_eq_false (by omega)
      have d1' : decide (i < N) = false := decide_eq_false hlt
      obtain rfl : i = N := by omega
      have HNE : Hid (ndsOf l' = ndsOf l) := by unfold Hid; rw [HND.out]; exact List.take_of_length_le (by rw [ndsOf_len]; exact Nat.le_of_eq HN.out.symm)
      have hk2 := HK2.out
      have e0 := hk2.cell 0
      have e1 := hk2.cell 1
      simp at e0 e1
      have f0 := hk2.free 0
      have f1 := hk2.free 1
      obtain ⟨W6, e6, z0, z1, _, hend⟩ := end2 hk2 HB.out HB.out.size (show w.heap.size ≤ g2 by have := HGG.out; omega) (.bool any) (.slice va i vc)
      have HO6 : Hid (NdOwn W6 w.heap.size (.slice va i vc) l') := (HO.out.chg hend.2 fun q h1 _ e => by have : q = g2 := e; have := HGG.out; have := HBN.out; omega).lower (by have := HGG.out; have := HBN.out; omega)
      have E6 := Lib.hid e6
      have HEND := Lib.hid hend.1
      clear e6 hend hk2 HND HO HK1 HK2 HK3 HR
      go_wp2_with fail
      rw [E6.out]
      exact bodyPost_ret (v := .agg #[.bool any, .slice va i vc]) (by simp [results, Tryd.results12, go_sem, z0, z1]) rfl ⟨⟨_, l', rfl, HO6.out, HNE.out⟩, HEND.out⟩
end Go.Proofs.YtpobghdiecfoaaaDoor
