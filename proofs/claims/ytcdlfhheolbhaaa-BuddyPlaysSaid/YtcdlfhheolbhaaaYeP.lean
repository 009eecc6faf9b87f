/-
  The chapter's example: known.
-/
import Derived.Test.YtcdlfhheolbhaaaYeM
import Derived.Test.YtcdlfhheolbhaaaYeN
import Derived.Test.YtcdlfhheolbhaaaYeO
namespace Go.Proofs.Ytcdlfhheolbhaaa
open Go Go.RowKit Go.Lib
set_option linter.unusedVariables false

theorem TakeR.det {n : Nat} {tk tk1 tk2 : List Bk} {fl : List Nat} {q r1 e1 r2 e2 : Int} (h1 : TakeR n tk fl q r1 e1 tk1) (h2 : TakeR n tk fl q r2 e2 tk2) : r1 = r2 ∧ e1 = e2 ∧ tk1 = tk2 := by
  cases h1 with
  | arg h =>
    cases h2 with
    | arg _ => exact ⟨rfl, rfl, rfl⟩
    | full o hq ho _ => exact absurd ⟨by omega, by omega⟩ h
    | ok o k s r hq ho hk _ _ => exact absurd ⟨by omega, by omega⟩ h
  | full o hq ho h =>
    cases h2 with
    | arg h' => exact absurd ⟨by omega, by omega⟩ h'
    | full _ _ _ _ => exact ⟨rfl, rfl, rfl⟩
    | ok o' k s r hq' ho' hk _ hs => have := h k (by omega) hk; rw [hs] at this; cases this
  | ok o k s r hq ho hk h hs =>
    cases h2 with
    | arg h' => exact absurd ⟨by omega, by omega⟩ h'
    | full o' hq' ho' h' => have := h' k (by omega) hk; rw [hs] at this; cases this
    | ok o' k' s' r' hq' ho' hk' h' hs' =>
      have e1 : o = o' := by omega
      subst e1
      have e2 : k = k' := by
        rcases Nat.lt_trichotomy k k' with hlt | e | hlt
        · have := h' k ho hlt; rw [hs] at this; cases this
        · exact e
        · have := h k' ho' hlt; rw [hs'] at this; cases this
      subst e2
      rw [hs] at hs'
      cases hs'
      exact ⟨rfl, rfl, rfl⟩
theorem tk0 : TakeR 3 [] [] 1 0 0 [(0, 1)] := by
  have := TakeR.ok (n := 3) (tk := []) (fl := []) (q := 1) 1 3 0 [] rfl (by omega) (by omega) (fun j h1 h2 => by
    rcases (by omega : j = 1 ∨ j = 2) with rfl | rfl
    · exact ex0.1
    · exact ex0.2.1) ex0.2.2
  exact this
theorem tk1 : TakeR 3 [(0, 1)] [] 0 2 0 [(0, 1), (2, 0)] := by
  have := TakeR.ok (n := 3) (tk := [(0, 1)]) (fl := []) (q := 0) 0 1 2 [] rfl (by omega) (by omega) (fun j h1 h2 => by
    obtain rfl : j = 0 := by omega
    exact ex1.1) ex1.2
  exact this
theorem tk2 : TakeR 3 [(0, 1), (2, 0)] [] 1 4 0 [(0, 1), (2, 0), (4, 1)] := by
  have := TakeR.ok (n := 3) (tk := [(0, 1), (2, 0)]) (fl := []) (q := 1) 1 2 4 [] rfl (by omega) (by omega) (fun j h1 h2 => by
    obtain rfl : j = 1 := by omega
    exact ex2.1) ex2.2
  exact this
theorem fail7 {er : Int} {fl' : List Nat} (h : FailR 3 [] 7 er fl') : fl' = [7] := by
  cases h with
  | arg h => exact absurd ⟨by omega, by decide⟩ h
  | twice x hq hx h => simp at h
  | ok x hq hx h =>
    obtain rfl : x = 7 := by omega
    rfl
theorem give0 {er : Int} {tk' : List Bk} (h : GiveR [(0, 1), (2, 0), (4, 1)] 0 er tk') : tk' = [(2, 0), (4, 1)] := by rw [h.giveT]; decide
theorem fits2 : fitsB 3 (opn 3 ([2].foldl giveT [(2, 0), (4, 1)]) [7]) 2 := by
  have e : [2].foldl giveT [(2, 0), (4, 1)] = [(4, 1)] := by decide
  rw [e]
  exact ⟨2, 2, rfl, Nat.le_refl _, by omega, by rw [ex6]; simp⟩
theorem nofits2 : ¬ fitsB 3 (opn 3 [(2, 0), (4, 1)] [7]) 2 := by
  rintro ⟨o, k, h1, h2, h3, h4⟩
  rcases (by omega : k = 2 ∨ k = 3) with rfl | rfl
  · exact h4 ex7.1
  · exact h4 ex7.2
theorem row_new (w : World) (l : List Bk) (cs : List Value) (hl : cs = blkL l) (hn : 0 < l.length) (hm : l.length ≤ 1024) (w' : World) (hw : w' = w.alloc (.cells cs.toArray 45)) : BRow w' (.slice (some ⟨w.heap.size, 0, none⟩) l.length l.length) l := by
  subst hl
  refine .inr ⟨w.heap.size, 0, l.length, rfl, hn, Nat.le_refl _, by unfold maxLen; omega, fun i hi => ?_⟩
  have hB : Blk w' w.heap.size (blkL l).toArray 45 := by rw [hw]; exact Blk.new _ _ _
  constructor
  · rw [hB.cell, Nat.zero_add]
    have := blkL_get hi (show 0 < 2 by omega)
    simpa [blkC] using this
  · rw [hB.cell, Nat.zero_add]
    have := blkL_get hi (show 1 < 2 by omega)
    simpa [blkC] using this
set_option maxHeartbeats 4000000 in
theorem known4_any (w : World) : Calls Try.prog 11 #[] w fun e w' => e = .returned (.bool true) ∧ Below w.heap.size w w' := by
  have N := Lib.hid (New_any 3 w)
  go_enter Try.func11, Try.ntmps11
  go_wp2_with fail
  refine N.out.mono ?_; rintro e w1 (⟨n, g, hq, hn, rfl, hY, hb⟩ | ⟨hq, rfl, hw⟩)
  · obtain rfl : n = 3 := by omega
    have HB := Lib.hid hb
    have T0 := Lib.hid (Take_any g _ 3 [] [] 1 w1 hY)
    clear N hq hn hb hY
    go_wp2_with fail
    refine T0.out.mono ?_; rintro e w2 ⟨r, er, tk, rfl, hT, hY, hC⟩
    obtain ⟨rfl, rfl, rfl⟩ := hT.det tk0
    have HC2 := Lib.hid hC
    have T1 := Lib.hid (Take_any g _ 3 _ [] 0 w2 hY)
    clear hT hY hC T0
    go_wp2_with fail
    refine T1.out.mono ?_; rintro e w3 ⟨r, er, tk, rfl, hT, hY, hC⟩
    obtain ⟨rfl, rfl, rfl⟩ := hT.det tk1
    have HC3 := Lib.hid (HC2.out.trans hC)
    have T2 := Lib.hid (Take_any g _ 3 _ [] 1 w3 hY)
    clear hT hY hC T1
    go_wp2_with fail
    refine T2.out.mono ?_; rintro e w4 ⟨r, er, tk, rfl, hT, hY, hC⟩
    obtain ⟨rfl, rfl, rfl⟩ := hT.det tk2
    have HC4 := Lib.hid (HC3.out.trans hC)
    have HY4 := Lib.hid hY
    have F4 := Lib.hid (Free_any g _ 3 _ _ _ w4 hY.2)
    clear hT hY hC T2
    go_wp2_with fail
    refine F4.out.mono ?_; rintro e w5 ⟨v5, rfl, ho5, b5⟩
    have HO5 := Lib.hid ho5
    have HB5 := Lib.hid b5
    obtain ⟨w6, hw6⟩ : ∃ w6, w6 = w5.alloc (.cells #[.int .i64 3, .int .i64 0, .int .i64 6, .int .i64 1] 45) := ⟨_, rfl⟩
    have hb6 : Below w5.heap.size w5 w6 := by rw [hw6]; exact (Below.refl _ _).alloc (Nat.le_refl _) _
    have S6 := Lib.hid (sameB_any v5 (.slice (some ⟨w5.heap.size, 0, none⟩) 2 2) _ [(3, 0), (6, 1)] w6 (by rw [ex3]; simp) (by simp) ((brow_of_own HO5.out).kept hb6) (row_new w5 [(3, 0), (6, 1)] _ rfl (by simp) (by simp) w6 hw6))
    rw [decide_eq_true ex3] at S6
    have HB6 : Hid (Below w4.heap.size w4 w6) := below_next hb6 b5
    clear ho5 b5 hb6 F4
    go_wp2_with fail
    rw [← hw6]
    clear hw6
    refine S6.out.mono ?_; rintro e w7 ⟨rfl, b7⟩
    have hb7 := below_next b7 HB6.out
    have HY7 := Lib.hid (HY4.out.kept hb7)
    have HC7 := Lib.hid (HC4.out.trans (Chg.of_below hb7))
    have FL := Lib.hid (Fail_any g _ 3 _ _ 7 w7 HY7.out)
    clear b7 hb7 S6
    go_wp2_with fail
    refine FL.out.mono ?_; rintro e w8 ⟨er, fl', rfl, hF, hY, hC⟩
    obtain rfl := fail7 hF
    have HC8 := Lib.hid (HC7.out.trans hC)
    have HY8 := Lib.hid hY
    have F8 := Lib.hid (Free_any g _ 3 _ _ _ w8 hY.2)
    clear hF hY hC FL
    go_wp2_with fail
    refine F8.out.mono ?_; rintro e w9 ⟨v9, rfl, ho9, b9⟩
    obtain ⟨wa, hwa⟩ : ∃ wa, wa = w9.alloc (.cells #[.int .i64 3, .int .i64 0, .int .i64 6, .int .i64 0] 45) := ⟨_, rfl⟩
    have hba : Below w9.heap.size w9 wa := by rw [hwa]; exact (Below.refl _ _).alloc (Nat.le_refl _) _
    have Sa := Lib.hid (sameB_any v9 (.slice (some ⟨w9.heap.size, 0, none⟩) 2 2) _ [(3, 0), (6, 0)] wa (by rw [ex4]; simp) (by simp) ((brow_of_own ho9).kept hba) (row_new w9 [(3, 0), (6, 0)] _ rfl (by simp) (by simp) wa hwa))
    rw [decide_eq_true ex4] at Sa
    have HBa : Hid (Below w8.heap.size w8 wa) := below_next hba b9
    clear ho9 b9 hba F8
    go_wp2_with fail
    rw [← hwa]
    clear hwa
    refine Sa.out.mono ?_; rintro e wb ⟨rfl, bb⟩
    have hbb := below_next bb HBa.out
    have HYb := Lib.hid (HY8.out.kept hbb)
    have HCb := Lib.hid (HC8.out.trans (Chg.of_below hbb))
    have GV := Lib.hid (Give_any g _ 3 _ [7] 0 wb HYb.out)
    clear bb hbb Sa
    go_wp2_with fail
    refine GV.out.mono ?_; rintro e wc ⟨er, tk', rfl, hG, hY, hC⟩
    obtain rfl := give0 hG
    have HCc := Lib.hid (HCb.out.trans hC)
    have HYc := Lib.hid hY
    have Fc := Lib.hid (Free_any g _ 3 _ _ _ wc hY.2)
    clear hG hY hC GV
    go_wp2_with fail
    refine Fc.out.mono ?_; rintro e wd ⟨vd, rfl, hod, bd⟩
    obtain ⟨we, hwe⟩ : ∃ we, we = wd.alloc (.cells #[.int .i64 0, .int .i64 1, .int .i64 3, .int .i64 0, .int .i64 6, .int .i64 0] 45) := ⟨_, rfl⟩
    have hbe : Below wd.heap.size wd we := by rw [hwe]; exact (Below.refl _ _).alloc (Nat.le_refl _) _
    have Se := Lib.hid (sameB_any vd (.slice (some ⟨wd.heap.size, 0, none⟩) 3 3) _ [(0, 1), (3, 0), (6, 0)] we (by rw [ex5]; simp) (by simp) ((brow_of_own hod).kept hbe) (row_new wd [(0, 1), (3, 0), (6, 0)] _ rfl (by simp) (by simp) we hwe))
    rw [decide_eq_true ex5] at Se
    have HBe : Hid (Below wc.heap.size wc we) := below_next hbe bd
    clear hod bd hbe Fc
    go_wp2_with fail
    rw [← hwe]
    clear hwe
    refine Se.out.mono ?_; rintro e wf ⟨rfl, bf⟩
    have hbf := below_next bf HBe.out
    obtain ⟨wg, hwg⟩ : ∃ wg, wg = wf.alloc (.cells #[.int .i64 2] 3) := ⟨_, rfl⟩
    have hbg : Below wf.heap.size wf wg := by rw [hwg]; exact (Below.refl _ _).alloc (Nat.le_refl _) _
    have hBg : Blk wg wf.heap.size #[.int .i64 2] 3 := by rw [hwg]; exact Blk.new _ _ _
    have HYg := Lib.hid (HYc.out.kept (below_next hbg hbf))
    have HCg := Lib.hid (HCc.out.trans (Chg.of_below (below_next hbg hbf)))
    have WD := Lib.hid (Would_any g _ 3 _ [7] 2 (.slice (some ⟨wf.heap.size, 0, none⟩) 1 1) [2] wg (by simp) (.inr ⟨wf.heap.size, 0, 1, rfl, fun j hj => by
      obtain rfl : j = 0 := by simp at hj; omega
      rw [hBg.cell]; rfl⟩) HYg.out)
    clear bf hbf hbg hBg Se
    go_wp2_with fail
    rw [← hwg]
    clear hwg
    refine WD.out.mono ?_; rintro e wh ⟨r, rfl, hr, bh⟩
    obtain rfl : r = true := hr.2 fits2
    have HYh := Lib.hid (HYg.out.kept bh)
    have HCh := Lib.hid (HCg.out.trans (Chg.of_below bh))
    have FT := Lib.hid (Fits_any g _ 3 _ _ [7] 2 wh HYh.out.2)
    clear hr bh WD
    go_wp2_with fail
    refine FT.out.mono ?_; rintro e wi ⟨r, rfl, hr, bi⟩
    obtain rfl : r = false := by
      cases r
      · rfl
      · exact absurd (hr.1 rfl) nofits2
    have HCi := Lib.hid (HCh.out.trans (Chg.of_below bi))
    clear hr bi FT
    go_wp2_with fail
    go_ret
    exact ⟨rfl, HB.out.trans (HCi.out.to_below HB.out.size fun k hk h => by omega)⟩
  · exact absurd ⟨by omega, by omega⟩ hq
end Go.Proofs.Ytcdlfhheolbhaaa
