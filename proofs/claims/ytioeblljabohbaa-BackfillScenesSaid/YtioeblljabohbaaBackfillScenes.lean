/-
  BackfillScenes: of any scene whether it may be, whether any block is free for any ticks, and which is the first one, is what the chapter says: so the law returns true for every input.
-/
import Derived.Test.YtioeblljabohbaaBfRx
import Derived.Test.YtioeblljabohbaaBfKnow
import Derived.Test.YtioeblljabohbaaBfMy
import Derived.Test.YtioeblljabohbaaBfAr
import Derived.Test.YtioeblljabohbaaLaw
import Derived.Test.YtioeblljabohbaaRows
import Derived.Test.YtioeblljabohbaaArgs2
namespace Go.Proofs.Ytioeblljabohbaa.backfillScenes
open Go.ChangeShapes Go.WideShapes Go.ChangeAt Go.RowKit
set_option linter.unusedVariables false

theorem own : ownKnob Try.prog.godebug = none := by kernel_rfl

open Go Go.ChangeShapes Go.WideShapes Go.ChangeAt Go.RowKit Go.Lib
theorem heW_le {w : World} {v : Value} {l : List HeI} (h : HeArg w v l) {x : HeI} (hx : x ∈ l) : x.1 ≤ 9223372036854775807 := by
  have h1 := (h.2.2 x hx).1
  unfold I64 at h1
  have h2 : -9223372036854775808 ≤ x.1 ∧ x.1 ≤ 9223372036854775807 := by simpa [Lit.wf, IntKind.min, IntKind.max, IntKind.bits, IntKind.signed] using h1
  exact h2.2
theorem many_small {N : Int} {LF LH : Nat} (h : manyB N LF LH 0 = false) : LF ≤ 1048576 ∧ LH ≤ 1048576 := by
  unfold manyB at h
  rw [decide_eq_false_iff_not] at h
  omega
set_option maxRecDepth 100000 in
set_option maxHeartbeats 8000000 in
theorem same_ (N S O A T : Int) (vf : Value) (FL : List Int) (vh : Value) (HL : List HeI) (er r1 : Int) (f r2 : Bool) (w : World) (hf : GRow w vf FL) (hh : HRow w vh HL) (hfl : FL.length ≤ maxLen) (hhl : HL.length ≤ maxLen)
    (pC : ∀ w' a b, Below w.heap.size w w' → GRow w' a FL → HRow w' b HL → Calls Try.prog 11 #[.agg #[.int .i64 N, a, b]] w' fun e w'' => e = .returned (.int .i64 er) ∧ Below w'.heap.size w' w'')
    (pF : ∀ w' a b, Below w.heap.size w w' → GRow w' a FL → HRow w' b HL → Calls Try.prog 12 #[.agg #[.int .i64 N, a, b], .agg #[.int .i64 S, .int .i64 O], .int .i64 A, .int .i64 T] w' fun e w'' => e = .returned (.bool f) ∧ Below w'.heap.size w' w'')
    (pA : ∀ w' a b, Below w.heap.size w w' → GRow w' a FL → HRow w' b HL → Calls Try.prog 13 #[.agg #[.int .i64 N, a, b], .int .i64 O, .int .i64 A, .int .i64 T] w' fun e w'' => e = .returned (.tuple #[.int .i64 r1, .bool r2]) ∧ Below w'.heap.size w' w'')
    (qC : ∀ w', Below w.heap.size w w' → Calls Try.prog 15 #[.agg #[.int .i64 N, vf, vh]] w' fun e w'' => e = .returned (.int .i64 er) ∧ Below w'.heap.size w' w'')
    (qF : ∀ w', Below w.heap.size w w' → Calls Try.prog 16 #[.agg #[.int .i64 N, vf, vh], .agg #[.int .i64 S, .int .i64 O], .int .i64 A, .int .i64 T] w' fun e w'' => e = .returned (.bool f) ∧ Below w'.heap.size w' w'')
    (qA : ∀ w', Below w.heap.size w w' → Calls Try.prog 14 #[.agg #[.int .i64 N, vf, vh], .int .i64 O, .int .i64 A, .int .i64 T] w' fun e w'' => e = .returned (.tuple #[.int .i64 r1, .bool r2]) ∧ Below w'.heap.size w' w'') :
    Calls Try.prog 3 #[.agg #[.int .i64 N, vf, vh], .agg #[.int .i64 S, .int .i64 O], .int .i64 A, .int .i64 T] w fun e w' => e = .returned (.bool true) ∧ Below w.heap.size w w' := by
  have K : Hid (∀ w1, Calls Try.prog 9 #[] w1 fun e w' => e = .returned (.bool true) ∧ Below w1.heap.size w1 w') := known15_any
  have HF := Lib.hid hf
  have HH := Lib.hid hh
  obtain ⟨fa, fc, rfl⟩ := hf.slice
  obtain ⟨ha, hc, rfl⟩ := hh.slice
  obtain ⟨LF, hLF⟩ : ∃ n, n = FL.length := ⟨_, rfl⟩
  obtain ⟨LH, hLH⟩ : ∃ n, n = HL.length := ⟨_, rfl⟩
  have HLE : Hid (LF = FL.length ∧ LH = HL.length) := ⟨hLF, hLH⟩
  rw [← hLF] at HF qC qF qA hfl ⊢
  rw [← hLH] at HH qC qF qA hhl ⊢
  have MN : Hid (∀ w1, Calls Try.prog 8 #[.agg #[.int .i64 N, .slice fa LF fc, .slice ha LH hc], .slice none 0 0] w1 fun e w' => e = .returned (.bool (manyB N LF LH 0)) ∧ Below w1.heap.size w1 w') := fun w1 => many_any N fa ha none LF LH 0 fc hc 0 w1 (by unfold maxLen at hfl; omega) (by unfold maxLen at hhl; omega) (by omega)
  obtain ⟨M, hM⟩ : ∃ M, M = manyB N LF LH 0 := ⟨_, rfl⟩
  rw [← hM] at MN
  have HM := Lib.hid hM
  have PC := Lib.hid pC
  have PF := Lib.hid pF
  have PA := Lib.hid pA
  have QC := Lib.hid qC
  have QF := Lib.hid qF
  have QA := Lib.hid qA
  obtain ⟨W, hW⟩ : ∃ W, W = (w.alloc (.cells #[.int .i64 N, .slice fa LF fc, .slice ha LH hc] 25)).alloc (.cells #[.int .i64 S, .int .i64 O] 27) := ⟨_, rfl⟩
  obtain ⟨gS, hgS⟩ : ∃ g, g = w.heap.size := ⟨_, rfl⟩
  obtain ⟨gB, hgB⟩ : ∃ g, g = w.heap.size + 1 := ⟨_, rfl⟩
  have HBW : Hid (Below w.heap.size w W) := by unfold Hid; rw [hW]; exact ((Below.refl _ _).alloc (Nat.le_refl _) _).alloc (by simp) _
  have HSB : Hid (Blk W gS #[.int .i64 N, .slice fa LF fc, .slice ha LH hc] 25) := by unfold Hid; rw [hW, hgS]; exact (Blk.new w _ _).old _
  have HBB : Hid (Blk W gB #[.int .i64 S, .int .i64 O] 27) := by unfold Hid; rw [hW]; exact Blk.fresh _ _ _ gB (by rw [hgB]; simp)
  have FACTS : Hid (∀ w1, Below W.heap.size W w1 → (w1.cell? ⟨gS, 0, none⟩ = some (.int .i64 N) ∧ w1.cell? ⟨gS, 1, none⟩ = some (.slice fa LF fc) ∧ w1.cell? ⟨gS, 2, none⟩ = some (.slice ha LH hc)) ∧ (w1.cell? ⟨gB, 0, none⟩ = some (.int .i64 S) ∧ w1.cell? ⟨gB, 1, none⟩ = some (.int .i64 O))) := fun w1 h1 =>
    ⟨⟨cell_next h1 (HSB.out.cell 0), cell_next h1 (HSB.out.cell 1), cell_next h1 (HSB.out.cell 2)⟩, ⟨cell_next h1 (HBB.out.cell 0), cell_next h1 (HBB.out.cell 1)⟩⟩
  clear hM pC pF pA qC qF qA hf hh hfl hhl hLF hLH
  go_enter Try.func3, Try.ntmps3
  go_upto_region 1 with fail
  rw [← hgB, ← hgS, ← hW]
  clear hgB hgS hW
  obtain ⟨⟨s0, s1, s2⟩, t0, t1⟩ := FACTS.out W (Below.refl _ _)
  go_wp2_with fail
  refine (MN.out _).mono ?_; rintro e w1 ⟨rfl, b1⟩
  have B1 := Lib.hid b1
  clear b1 MN s0 s1 s2 t0 t1
  cases M with
  | true =>
    have HB1 := Lib.hid (below_next B1.out HBW.out)
    go_wp2_with fail
    refine (K.out _).mono ?_; rintro e w2 ⟨rfl, b2⟩
    have HB2 := below_next b2 HB1.out
    clear b2
    go_wp2_with fail
    go_ret
    exact ⟨rfl, HB2⟩
  | false =>
    obtain ⟨hm1, hm2⟩ := many_small HM.out.symm
    have CP : Hid (Calls Try.prog 10 #[.agg #[.int .i64 N, .slice fa LF fc, .slice ha LH hc]] w1 fun e w' => ∃ aF cF aH cH, e = .returned (.agg #[.int .i64 N, .slice aF LF cF, .slice aH LH cH]) ∧ GRow w' (.slice aF LF cF) FL ∧ HRow w' (.slice aH LH cH) HL ∧ Below w1.heap.size w1 w') := by
      have hb := below_next B1.out HBW.out
      refine (copied_any N _ _ FL HL w1 (HF.out.kept hb) (HH.out.kept hb) (by have := HLE.out.1; omega) (by have := HLE.out.2; omega)).mono ?_
      rintro e w' ⟨vF, vH, rfl, oF, oH, _, hb⟩
      have gF := grow_of_own oF
      have gH : HRow w' vH HL := rowG_of_own heI_len oH
      obtain ⟨aF, cF, rfl⟩ := own_slice oF
      obtain ⟨aH, cH, rfl⟩ := own_slice oH
      rw [← HLE.out.1] at gF
      rw [← HLE.out.2] at gH
      exact ⟨aF, cF, aH, cH, by rw [← HLE.out.1, ← HLE.out.2], gF, gH, hb⟩
    have HMM : Hid (LF ≤ 1048576 ∧ LH ≤ 1048576) := ⟨hm1, hm2⟩
    clear hm1 hm2
    obtain ⟨⟨s0, s1, s2⟩, t0, t1⟩ := FACTS.out w1 B1.out
    go_wp2_with fail
    refine CP.out.mono ?_; rintro e w2 ⟨aF, cF, aH, cH, rfl, gF, gH, b2⟩
    obtain ⟨gX, hgX⟩ : ∃ g, g = w2.heap.size := ⟨_, rfl⟩
    obtain ⟨X, hX⟩ : ∃ x, x = w2.alloc (.cells #[.int .i64 N, .slice aF LF cF, .slice aH LH cH] 25) := ⟨_, rfl⟩
    have hbX : Below w2.heap.size w2 X := by rw [hX]; exact (Below.refl _ _).alloc (Nat.le_refl _) _
    have HX : Hid (Blk X gX #[.int .i64 N, .slice aF LF cF, .slice aH LH cH] 25) := by unfold Hid; rw [hX, hgX]; exact Blk.new w2 _ _
    have BX : Hid (Below W.heap.size W X) := below_next hbX (below_next b2 B1.out)
    have GF : Hid (GRow X (.slice aF LF cF) FL) := gF.kept hbX
    have GH : Hid (HRow X (.slice aH LH cH) HL) := gH.kept hbX
    have XF : Hid (∀ w3, Below X.heap.size X w3 → (w3.cell? ⟨gX, 0, none⟩ = some (.int .i64 N) ∧ w3.cell? ⟨gX, 1, none⟩ = some (.slice aF LF cF) ∧ w3.cell? ⟨gX, 2, none⟩ = some (.slice aH LH cH)) ∧ (w3.cell? ⟨gS, 0, none⟩ = some (.int .i64 N) ∧ w3.cell? ⟨gS, 1, none⟩ = some (.slice fa LF fc) ∧ w3.cell? ⟨gS, 2, none⟩ = some (.slice ha LH hc)) ∧ (w3.cell? ⟨gB, 0, none⟩ = some (.int .i64 S) ∧ w3.cell? ⟨gB, 1, none⟩ = some (.int .i64 O))) := fun w3 h3 =>
      ⟨⟨cell_next h3 (HX.out.cell 0), cell_next h3 (HX.out.cell 1), cell_next h3 (HX.out.cell 2)⟩, FACTS.out w3 (below_next h3 BX.out)⟩
    clear gF gH b2 hbX CP s0 s1 s2 t0 t1 FACTS
    go_upto_region 4 with fail
    rw [← hgX, ← hX]
    clear hgX hX
    obtain ⟨⟨x0, x1, x2⟩, ⟨s0, s1, s2⟩, t0, t1⟩ := XF.out X (Below.refl _ _)
    go_wp2_with fail
    refine (PC.out X _ _ (below_next BX.out HBW.out) GF.out GH.out).mono ?_; rintro e w3 ⟨rfl, b3⟩
    have B3 := Lib.hid b3
    clear b3 x0 x1 x2 s0 s1 s2 t0 t1
    obtain ⟨⟨x0, x1, x2⟩, ⟨s0, s1, s2⟩, t0, t1⟩ := XF.out w3 B3.out
    go_wp2_with fail
    refine (PF.out w3 _ _ (below_next B3.out (below_next BX.out HBW.out)) (GF.out.kept B3.out) (GH.out.kept B3.out)).mono ?_; rintro e w4 ⟨rfl, b4⟩
    have B4 := Lib.hid (below_next b4 B3.out)
    clear b4 x0 x1 x2 s0 s1 s2 t0 t1 B3
    obtain ⟨⟨x0, x1, x2⟩, ⟨s0, s1, s2⟩, t0, t1⟩ := XF.out w4 B4.out
    go_wp2_with fail
    refine (PA.out w4 _ _ (below_next B4.out (below_next BX.out HBW.out)) (GF.out.kept B4.out) (GH.out.kept B4.out)).mono ?_; rintro e w5 ⟨rfl, b5⟩
    have B5 := Lib.hid (below_next b5 B4.out)
    clear b5 x0 x1 x2 s0 s1 s2 t0 t1 B4
    obtain ⟨⟨x0, x1, x2⟩, ⟨s0, s1, s2⟩, t0, t1⟩ := XF.out w5 B5.out
    dsimp only
    go_wp2_with fail
    refine (QA.out w5 (below_next B5.out (below_next BX.out HBW.out))).mono ?_; rintro e w6 ⟨rfl, b6⟩
    have B6 := Lib.hid (below_next b6 B5.out)
    clear b6 x0 x1 x2 s0 s1 s2 t0 t1 B5
    obtain ⟨⟨x0, x1, x2⟩, ⟨s0, s1, s2⟩, t0, t1⟩ := XF.out w6 B6.out
    dsimp only
    go_wp2_with fail
    refine (QC.out w6 (below_next B6.out (below_next BX.out HBW.out))).mono ?_; rintro e w7 ⟨rfl, b7⟩
    have B7 := Lib.hid (below_next b7 B6.out)
    clear b7 x0 x1 x2 s0 s1 s2 t0 t1 B6
    obtain ⟨⟨x0, x1, x2⟩, ⟨s0, s1, s2⟩, t0, t1⟩ := XF.out w7 B7.out
    go_wp2_with fail
    refine (QF.out w7 (below_next B7.out (below_next BX.out HBW.out))).mono ?_; rintro e w8 ⟨rfl, b8⟩
    have B8 := Lib.hid (below_next b8 B7.out)
    clear b8 x0 x1 x2 s0 s1 s2 t0 t1 B7
    obtain ⟨⟨x0, x1, x2⟩, ⟨s0, s1, s2⟩, t0, t1⟩ := XF.out w8 B8.out
    go_wp2_with fail
    have ST := Lib.hid (stays_any N (.slice aF LF cF) (.slice aH LH cH) (.slice fa LF fc) (.slice ha LH hc) FL HL w8 (GF.out.kept B8.out) (GH.out.kept B8.out) (HF.out.kept (below_next B8.out (below_next BX.out HBW.out))) (HH.out.kept (below_next B8.out (below_next BX.out HBW.out))) (by rw [← HLE.out.1]; exact HMM.out.1) (by rw [← HLE.out.2]; exact HMM.out.2))
    refine ST.out.mono ?_; rintro e w9 ⟨rfl, b9⟩
    have B9 := Lib.hid (below_next b9 B8.out)
    clear b9 x0 x1 x2 s0 s1 s2 t0 t1 B8 ST
    go_wp2_with fail
    refine (K.out _).mono ?_; rintro e w10 ⟨rfl, b10⟩
    have B10 := below_next (below_next (below_next b10 B9.out) BX.out) HBW.out
    clear b10
    go_wp2_with fail
    go_ret
    exact ⟨rfl, B10⟩
theorem walk (N : Int) (vf : Value) (FL : List Int) (vh : Value) (HL : List HeI) (S O A T : Int) (w : World) (_ : (Lit.int .i64 N).wf = true) (hF : GRow w vf FL ∧ FL.length ≤ maxLen ∧ ∀ x ∈ FL, (Lit.int .i64 x).wf = true) (hH : HeArg w vh HL)
    (hS : (Lit.int .i64 S).wf = true) (_ : (Lit.int .i64 O).wf = true) (_ : (Lit.int .i64 A).wf = true) (hT : (Lit.int .i64 T).wf = true) :
    Calls Try.prog 3 #[.agg #[.int .i64 N, vf, vh], .agg #[.int .i64 S, .int .i64 O], .int .i64 A, .int .i64 T] w fun e w' => e = .returned (.bool true) ∧ Below w.heap.size w w' := by
  have hW : ∀ x ∈ HL, x.1 ≤ 9223372036854775807 := fun x hx => heW_le hH hx
  have hS2 : S ≤ 9223372036854775807 := by
    have h2 : -9223372036854775808 ≤ S ∧ S ≤ 9223372036854775807 := by simpa [Lit.wf, IntKind.min, IntKind.max, IntKind.bits, IntKind.signed] using hS
    exact h2.2
  have hT2 : T ≤ 9223372036854775807 := by
    have h2 : -9223372036854775808 ≤ T ∧ T ≤ 9223372036854775807 := by simpa [Lit.wf, IntKind.min, IntKind.max, IntKind.bits, IntKind.signed] using hT
    exact h2.2
  obtain ⟨er, hcd⟩ := code_some N FL HL
  obtain ⟨f, hfp, hfq⟩ : ∃ f : Bool, (∀ w' a b, Below w.heap.size w w' → GRow w' a FL → HRow w' b HL → Calls Try.prog 12 #[.agg #[.int .i64 N, a, b], .agg #[.int .i64 S, .int .i64 O], .int .i64 A, .int .i64 T] w' fun e w'' => e = .returned (.bool f) ∧ Below w'.heap.size w' w'') ∧
      (∀ w', Below w.heap.size w w' → Calls Try.prog 16 #[.agg #[.int .i64 N, vf, vh], .agg #[.int .i64 S, .int .i64 O], .int .i64 A, .int .i64 T] w' fun e w'' => e = .returned (.bool f) ∧ Below w'.heap.size w' w'') := by
    by_cases h : Good N FL HL ∧ blkI N.toNat S O ∧ 0 ≤ A ∧ A < T
    · obtain ⟨⟨c, hc, rfl, rfl, rfl⟩, ⟨s, o, rfl, rfl, hb⟩, h1, h2⟩ := h
      obtain ⟨a, rfl⟩ := Int.eq_ofNat_of_zero_le h1
      obtain ⟨t, rfl⟩ := Int.eq_ofNat_of_zero_le (show 0 ≤ T by omega)
      have e1 : ((c.n : Int).toNat) = c.n := by omega
      rw [e1] at hb
      exact ⟨_, fun w' x y hb' h3 h4 => free_ok x y c s o a t w' hc ⟨h3, h4⟩ hb (by omega), fun w' hb' => refFree_ok vf vh c s o a t w' hc ⟨hF.1.kept hb', hH.1.kept hb'⟩ hb (by omega)⟩
    · exact ⟨false, fun w' x y hb' h3 h4 => free_no N S O A T x y FL HL w' h3 h4 hF.2.1 hH.2.1 h, fun w' hb' => refFree_no N S O A T vf vh FL HL w' (hF.1.kept hb') (hH.1.kept hb') hF.2.1 hH.2.1 hW hS2 h⟩
  obtain ⟨r1, r2, hap, haq⟩ : ∃ (r1 : Int) (r2 : Bool), (∀ w' a b, Below w.heap.size w w' → GRow w' a FL → HRow w' b HL → Calls Try.prog 13 #[.agg #[.int .i64 N, a, b], .int .i64 O, .int .i64 A, .int .i64 T] w' fun e w'' => e = .returned (.tuple #[.int .i64 r1, .bool r2]) ∧ Below w'.heap.size w' w'') ∧
      (∀ w', Below w.heap.size w w' → Calls Try.prog 14 #[.agg #[.int .i64 N, vf, vh], .int .i64 O, .int .i64 A, .int .i64 T] w' fun e w'' => e = .returned (.tuple #[.int .i64 r1, .bool r2]) ∧ Below w'.heap.size w' w'') := by
    by_cases h : Good N FL HL ∧ (0 ≤ O ∧ O ≤ N) ∧ 0 ≤ A ∧ A < T
    · obtain ⟨⟨c, hc, rfl, rfl, rfl⟩, ⟨h5, h6⟩, h1, h2⟩ := h
      obtain ⟨q, rfl⟩ := Int.eq_ofNat_of_zero_le h5
      obtain ⟨a, rfl⟩ := Int.eq_ofNat_of_zero_le h1
      obtain ⟨t, rfl⟩ := Int.eq_ofNat_of_zero_le (show 0 ≤ T by omega)
      exact ⟨_, _, fun w' x y hb' h3 h4 => At_ok x y c q a t w' hc ⟨h3, h4⟩ (by omega) (by omega) (by omega), fun w' hb' => refAt_ok vf vh c q a t w' hc ⟨hF.1.kept hb', hH.1.kept hb'⟩ (by omega) (by omega)⟩
    · exact ⟨0, false, fun w' x y hb' h3 h4 => At_no N O A T x y FL HL w' h3 h4 hF.2.1 hH.2.1 h, fun w' hb' => refAt_no N O A T vf vh FL HL w' (hF.1.kept hb') (hH.1.kept hb') hF.2.1 hH.2.1 hW h⟩
  refine same_ N S O A T vf FL vh HL er r1 f r2 w hF.1 hH.1 hF.2.1 hH.2.1 (fun w' a b _ h3 h4 => ?_) hfp hap (fun w' hb' => ?_) hfq haq
  · exact (check_any N a b FL HL w' h3 h4 hF.2.1 hH.2.1).mono fun e w'' ⟨er2, he, hcd2, hbl⟩ => by
      rw [hcd2.det hcd] at he; exact ⟨he, hbl⟩
  · exact (refCheck_any N vf vh FL HL w' (hF.1.kept hb') (hH.1.kept hb') hF.2.1 hH.2.1 hW).mono fun e w'' ⟨er2, he, hcd2, hbl⟩ => by
      rw [hcd2.det hcd] at he; exact ⟨he, hbl⟩


set_option maxRecDepth 100000 in
theorem lifted (os : Os) (started : os.Started) (H : Type) (enc : TypeId × Value → H) :
    ReturnsInHanded {} Try.checked os 3 .any (Rows.backfillScenesSpec.pre6 enc Try.prog Try.f3 Rows.backfillScenesRow.domain false) (Rows.backfillScenesSpec.post enc Try.prog Try.f3 false true false false) := by
  refine returnsInHanded_of_change (C := Try.checked) own started (by kernel_rfl) Try.func3
    (ChangeSpec.witness6 (enc := enc) (C := Try.checked) false ⟨#[], #[.agg #[.int .i64 0, .slice none 0 0, .slice none 0 0], .agg #[.int .i64 0, .int .i64 0], .int .i64 0, .int .i64 0], []⟩ 8 (by kernel_rfl) (by kernel_rfl) (by kernel_rfl) (by kernel_rfl)) ?_
  intro W base args ds gs before hval0 hW _ _
  have hval : ∀ (j : Nat) t v, Try.f3.params[j]? = some t → args[j]? = some v → Value.okWide Try.prog W .any base t v := hval0
  have hW' := hW
  obtain ⟨p, q, hA0, hV, rfl, hfz, hnd⟩ := hW
  have hA : DataW.TrodAll enc Try.prog W 0 (fun _ => true) true Try.f3.params.toList args.toList ds p := hA0
  rw [Try.params3] at hA hval
  obtain ⟨v0, vs0, d0, ds0, p0, q0, hargs, rfl, rfl, h0, r0⟩ := trodAll_cons hA
  obtain ⟨v1, vs1, d1, ds1, p1, q1, rfl, rfl, rfl, h1, r1⟩ := trodAll_cons r0
  obtain ⟨v2, vs2, d2, ds2, p2, q2, rfl, rfl, rfl, h2, r2⟩ := trodAll_cons r1
  obtain ⟨v3, vs3, d3, ds3, p3, q3, rfl, rfl, rfl, h3, r3⟩ := trodAll_cons r2
  obtain ⟨rfl, rfl, rfl⟩ := trodAll_nil r3
  obtain rfl : args = #[v0, v1, v2, v3] := by cases args; simp_all
  obtain ⟨cs0, rfl, hs0, hf0⟩ := open_plain_struct Try.underlying25 (by kernel_rfl) (by kernel_rfl) (hval 0 25 v0 rfl rfl) h0
  obtain ⟨c0_0, y0_0, n0_0, e0_0, t0_0⟩ := hf0 0 _ rfl
  obtain ⟨N, rfl, w0_0⟩ := field_int Try.underlying3 t0_0
  obtain ⟨c0_1, y0_1, n0_1, e0_1, t0_1⟩ := hf0 1 _ rfl
  obtain ⟨FL, w0_1⟩ := field_growG Try.underlying22 Try.underlying3 (by kernel_rfl) t0_1
  obtain ⟨c0_2, y0_2, n0_2, e0_2, t0_2⟩ := hf0 2 _ rfl
  obtain ⟨HL, w0_2⟩ := field_helds t0_2
  obtain rfl : cs0 = #[.int .i64 N, c0_1, c0_2] := arr_of cs0 [.int .i64 N, c0_1, c0_2] hs0 (fun j hj => by match j, hj with | 0, _ => exact e0_0 | 1, _ => exact e0_1 | 2, _ => exact e0_2 | j + 3, hj => exact absurd hj (by simp))
  obtain ⟨cs1, rfl, hs1, hf1⟩ := open_plain_struct Try.underlying27 (by kernel_rfl) (by kernel_rfl) (hval 1 27 v1 rfl rfl) h1
  obtain ⟨c1_0, y1_0, n1_0, e1_0, t1_0⟩ := hf1 0 _ rfl
  obtain ⟨bs, rfl, w1_0⟩ := field_int Try.underlying3 t1_0
  obtain ⟨c1_1, y1_1, n1_1, e1_1, t1_1⟩ := hf1 1 _ rfl
  obtain ⟨bo, rfl, w1_1⟩ := field_int Try.underlying3 t1_1
  obtain rfl : cs1 = #[.int .i64 bs, .int .i64 bo] := arr_of cs1 [.int .i64 bs, .int .i64 bo] hs1 (fun j hj => by match j, hj with | 0, _ => exact e1_0 | 1, _ => exact e1_1 | j + 2, hj => exact absurd hj (by simp))
  obtain ⟨fr, rfl, rfl, rfl, w2⟩ := open_int Try.underlying3 (hval 2 3 v2 rfl rfl) h2
  obtain ⟨tt, rfl, rfl, rfl, w3⟩ := open_int Try.underlying3 (hval 3 3 v3 rfl rfl) h3
  clear hA0 hval0
  refine (walk N c0_1 FL c0_2 HL bs bo fr tt W w0_0 w0_1 w0_2 w1_0 w1_1 w2 w3).mono fun e W' ⟨he, hb⟩ => ?_
  subst he
  exact ⟨_, rfl, law_post (by kernel_rfl) (by kernel_rfl) rfl Try.underlying4 rfl hW' rfl hb⟩

theorem over : Rows.backfillScenesRow.holds Try.pinned (OpenSpec.ofChange Rows.backfillScenesSpec) :=
  OpenClaim.holds_of_wide 3 Try.f3 rfl rfl rfl rfl rfl rfl rfl ⟨rfl, rfl, rfl, rfl, rfl⟩ rfl rfl rfl rfl rfl (by kernel_rfl) Try.func3 (by kernel_rfl)
    (of_decide_eq_true (by kernel_rfl)) (by unfold Func.isWrapper; first | (rw [if_pos (by decide +kernel)]; kernel_rfl) | (rw [if_neg (by decide +kernel)]; exact ⟨rfl, rfl⟩))
    (fun os started H enc _ => lifted os started H enc)

theorem proved : Rows.BackfillScenesSaid :=
  over
#print axioms proved
end Go.Proofs.Ytioeblljabohbaa.backfillScenes
