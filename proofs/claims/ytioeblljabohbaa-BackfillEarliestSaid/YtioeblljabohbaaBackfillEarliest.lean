/-
  BackfillEarliest: of any scene when, and where, a block is free first is what the chapter says, or why none ever is: so the law returns true for every input.
-/
import Derived.Test.YtioeblljabohbaaBfRx
import Derived.Test.YtioeblljabohbaaBfKnow
import Derived.Test.YtioeblljabohbaaBfMy
import Derived.Test.YtioeblljabohbaaBfAr
import Derived.Test.YtioeblljabohbaaLaw
import Derived.Test.YtioeblljabohbaaRows
import Derived.Test.YtioeblljabohbaaArgs2
namespace Go.Proofs.Ytioeblljabohbaa.backfillEarliest
open Go.ChangeShapes Go.WideShapes Go.ChangeAt Go.RowKit
set_option linter.unusedVariables false

theorem own : ownKnob Try.prog.godebug = none := by kernel_rfl

open Go Go.ChangeShapes Go.WideShapes Go.ChangeAt Go.RowKit Go.Lib
set_option maxRecDepth 100000 in
set_option maxHeartbeats 4000000 in
theorem same_ (N : Int) (vf : Value) (FL : List Int) (vh : Value) (HL : List HeI) (order fr len r1 r2 r3 : Int) (w : World) (hf : GRow w vf FL) (hh : HRow w vh HL) (hfl : FL.length ≤ maxLen) (hhl : HL.length ≤ maxLen)
    (hE : ∀ w', Below w.heap.size w w' → Calls Try.prog 18 #[.agg #[.int .i64 N, vf, vh], .int .i64 order, .int .i64 fr, .int .i64 len] w' fun e w'' => e = .returned (.tuple #[.int .i64 r1, .int .i64 r2, .int .i64 r3]) ∧ Below w'.heap.size w' w'')
    (hR : ∀ w', Below w.heap.size w w' → Calls Try.prog 19 #[.agg #[.int .i64 N, vf, vh], .int .i64 order, .int .i64 fr, .int .i64 len] w' fun e w'' => e = .returned (.tuple #[.int .i64 r1, .int .i64 r2, .int .i64 r3]) ∧ Below w'.heap.size w' w'') :
    Calls Try.prog 4 #[.agg #[.int .i64 N, vf, vh], .int .i64 order, .int .i64 fr, .int .i64 len] w fun e w' => e = .returned (.bool true) ∧ Below w.heap.size w w' := by
  have K : Hid (∀ w1, Calls Try.prog 9 #[] w1 fun e w' => e = .returned (.bool true) ∧ Below w1.heap.size w1 w') := known15_any
  obtain ⟨fa, fc, rfl⟩ := hf.slice
  obtain ⟨ha, hc, rfl⟩ := hh.slice
  generalize FL.length = LF at *
  generalize HL.length = LH at *
  have MN : Hid (∀ w1, Calls Try.prog 8 #[.agg #[.int .i64 N, .slice fa LF fc, .slice ha LH hc], .slice none 0 0] w1 fun e w' => e = .returned (.bool (manyB N LF LH 0)) ∧ Below w1.heap.size w1 w') := fun w1 => many_any N fa ha none LF LH 0 fc hc 0 w1 (by unfold maxLen at hfl; omega) (by unfold maxLen at hhl; omega) (by omega)
  obtain ⟨M, hM⟩ : ∃ M, M = manyB N LF LH 0 := ⟨_, rfl⟩
  rw [← hM] at MN
  have HE := Lib.hid hE
  have HR := Lib.hid hR
  obtain ⟨W, hW⟩ : ∃ W, W = w.alloc (.cells #[.int .i64 N, .slice fa LF fc, .slice ha LH hc] 25) := ⟨_, rfl⟩
  obtain ⟨gS, hgS⟩ : ∃ g, g = w.heap.size := ⟨_, rfl⟩
  have HBW : Hid (Below w.heap.size w W) := by unfold Hid; rw [hW]; exact (Below.refl _ _).alloc (Nat.le_refl _) _
  have HS : Hid (Blk W gS #[.int .i64 N, .slice fa LF fc, .slice ha LH hc] 25) := by unfold Hid; rw [hW, hgS]; exact Blk.new w _ _
  have s0 := HS.out.cell 0
  have s1 := HS.out.cell 1
  have s2 := HS.out.cell 2
  simp at s0 s1 s2
  clear hM hE hR hf hh hfl hhl
  go_enter Try.func4, Try.ntmps4
  go_upto_region 1 with fail
  rw [← hgS, ← hW]
  clear hgS hW
  go_wp2_with fail
  refine (MN.out _).mono ?_; rintro e w1 ⟨rfl, b1⟩
  have HB1 := Lib.hid (below_next b1 HBW.out)
  replace s0 := cell_next b1 s0
  replace s1 := cell_next b1 s1
  replace s2 := cell_next b1 s2
  clear HS b1 MN
  cases M with
  | true =>
    go_wp2_with fail
    refine (K.out _).mono ?_; rintro e w2 ⟨rfl, b2⟩
    have HB2 := below_next b2 HB1.out
    clear b2
    go_wp2_with fail
    go_ret
    exact ⟨rfl, HB2⟩
  | false =>
    go_wp2_with fail
    refine (HE.out _ HB1.out).mono ?_; rintro e w2 ⟨rfl, b2⟩
    have HB2 := Lib.hid (below_next b2 HB1.out)
    replace s0 := cell_next b2 s0
    replace s1 := cell_next b2 s1
    replace s2 := cell_next b2 s2
    clear b2
    go_wp2_with fail
    refine (HR.out _ HB2.out).mono ?_; rintro e w3 ⟨rfl, b3⟩
    have HB3 := Lib.hid (below_next b3 HB2.out)
    clear b3 s0 s1 s2
    go_wp2_with fail
    refine (K.out _).mono ?_; rintro e w4 ⟨rfl, b4⟩
    have HB4 := below_next b4 HB3.out
    clear b4
    go_wp2_with fail
    go_ret
    exact ⟨rfl, HB4⟩
theorem heW_le {w : World} {v : Value} {l : List HeI} (h : HeArg w v l) {x : HeI} (hx : x ∈ l) : x.1 ≤ 9223372036854775807 := by
  have h1 := (h.2.2 x hx).1
  unfold I64 at h1
  have h2 : -9223372036854775808 ≤ x.1 ∧ x.1 ≤ 9223372036854775807 := by simpa [Lit.wf, IntKind.min, IntKind.max, IntKind.bits, IntKind.signed] using h1
  exact h2.2
theorem walk (N : Int) (vf : Value) (FL : List Int) (vh : Value) (HL : List HeI) (order fr len : Int) (w : World) (_ : (Lit.int .i64 N).wf = true) (hF : GRow w vf FL ∧ FL.length ≤ maxLen ∧ ∀ x ∈ FL, (Lit.int .i64 x).wf = true) (hH : HeArg w vh HL)
    (_ : (Lit.int .i64 order).wf = true) (_ : (Lit.int .i64 fr).wf = true) (_ : (Lit.int .i64 len).wf = true) :
    Calls Try.prog 4 #[.agg #[.int .i64 N, vf, vh], .int .i64 order, .int .i64 fr, .int .i64 len] w fun e w' => e = .returned (.bool true) ∧ Below w.heap.size w w' := by
  by_cases hA : AskE N order fr len FL HL
  · obtain ⟨c, q, a, l, rfl, rfl, rfl, rfl, rfl, rfl, hc, hq, ha, h1, hl⟩ := askE_nat hA
    have hr : SRow w vf vh c := ⟨hF.1, hH.1⟩
    exact same_ _ vf _ vh _ _ _ _ _ _ _ w hF.1 hH.1 hF.2.1 hH.2.1 (fun w' hb => Earliest_ok vf vh c q a l w' hc (hr.kept hb) hq ha h1 hl) (fun w' hb => refEarliest_ok vf vh c q a l w' hc (hr.kept hb) hq ha h1 hl)
  · exact same_ N vf _ vh _ order fr len 0 0 2 w hF.1 hH.1 hF.2.1 hH.2.1 (fun w' hb => Earliest_no N order fr len vf vh FL HL w' (hF.1.kept hb) (hH.1.kept hb) hF.2.1 hH.2.1 hA) (fun w' hb => refEarliest_no N order fr len vf vh FL HL w' (hF.1.kept hb) (hH.1.kept hb) hF.2.1 hH.2.1 (fun x hx => heW_le hH hx) hA)


set_option maxRecDepth 100000 in
theorem lifted (os : Os) (started : os.Started) (H : Type) (enc : TypeId × Value → H) :
    ReturnsInHanded {} Try.checked os 4 .any (Rows.backfillEarliestSpec.pre6 enc Try.prog Try.f4 Rows.backfillEarliestRow.domain false) (Rows.backfillEarliestSpec.post enc Try.prog Try.f4 false true false false) := by
  refine returnsInHanded_of_change (C := Try.checked) own started (by kernel_rfl) Try.func4
    (ChangeSpec.witness6 (enc := enc) (C := Try.checked) false ⟨#[], #[.agg #[.int .i64 0, .slice none 0 0, .slice none 0 0], .int .i64 0, .int .i64 0, .int .i64 0], []⟩ 8 (by kernel_rfl) (by kernel_rfl) (by kernel_rfl) (by kernel_rfl)) ?_
  intro W base args ds gs before hval0 hW _ _
  have hval : ∀ (j : Nat) t v, Try.f4.params[j]? = some t → args[j]? = some v → Value.okWide Try.prog W .any base t v := hval0
  have hW' := hW
  obtain ⟨p, q, hA0, hV, rfl, hfz, hnd⟩ := hW
  have hA : DataW.TrodAll enc Try.prog W 0 (fun _ => true) true Try.f4.params.toList args.toList ds p := hA0
  rw [Try.params4] at hA hval
  obtain ⟨v0, vs0, d0, ds0, p0, q0, hargs, rfl, rfl, h0, r0⟩ := trodAll_cons hA
  obtain ⟨v1, vs1, d1, ds1, p1, q1, rfl, rfl, rfl, h1, r1⟩ := trodAll_cons r0
  obtain ⟨v2, vs2, d2, ds2, p2, q2, rfl, rfl, rfl, h2, r2⟩ := trodAll_cons r1
  obtain ⟨v3, vs3, d3, ds3, p3, q3, rfl, rfl, rfl, h3, r3⟩ := trodAll_cons r2
  obtain ⟨rfl, rfl, rfl⟩ := trodAll_nil r3
  obtain rfl : args = #[v0, v1, v2, v3] := by cases args; simp_all
  obtain ⟨cs0, rfl, hs0, hf0⟩ := open_plain_struct Try.underlying25 (by kernel_rfl) (by kernel_rfl) (hval 0 25 v0 rfl rfl) h0
  obtain ⟨c0_0, y0_0, n0_0, e0_0, t0_0⟩ := hf0 0 _ rfl
  obtain ⟨N, rfl, w0_0⟩ := field_int Try.underlying3 t0_0
  obtain ⟨c0_1, y0_1, n0_1, e0_1, t0_1⟩ := hf0 1 _ rfl
  obtain ⟨FL, w0_1⟩ := field_growG Try.underlying22 Try.underlying3 (by kernel_rfl) t0_1
  obtain ⟨c0_2, y0_2, n0_2, e0_2, t0_2⟩ := hf0 2 _ rfl
  obtain ⟨HL, w0_2⟩ := field_helds t0_2
  obtain rfl : cs0 = #[.int .i64 N, c0_1, c0_2] := arr_of cs0 [.int .i64 N, c0_1, c0_2] hs0 (fun j hj => by match j, hj with | 0, _ => exact e0_0 | 1, _ => exact e0_1 | 2, _ => exact e0_2 | j + 3, hj => exact absurd hj (by simp))
  obtain ⟨order, rfl, rfl, rfl, w1⟩ := open_int Try.underlying3 (hval 1 3 v1 rfl rfl) h1
  obtain ⟨fr, rfl, rfl, rfl, w2⟩ := open_int Try.underlying3 (hval 2 3 v2 rfl rfl) h2
  obtain ⟨len, rfl, rfl, rfl, w3⟩ := open_int Try.underlying3 (hval 3 3 v3 rfl rfl) h3
  clear hA0 hval0
  refine (walk N c0_1 FL c0_2 HL order fr len W w0_0 w0_1 w0_2 w1 w2 w3).mono fun e W' ⟨he, hb⟩ => ?_
  subst he
  exact ⟨_, rfl, law_post (by kernel_rfl) (by kernel_rfl) rfl Try.underlying4 rfl hW' rfl hb⟩

theorem over : Rows.backfillEarliestRow.holds Try.pinned (OpenSpec.ofChange Rows.backfillEarliestSpec) :=
  OpenClaim.holds_of_wide 4 Try.f4 rfl rfl rfl rfl rfl rfl rfl ⟨rfl, rfl, rfl, rfl, rfl⟩ rfl rfl rfl rfl rfl (by kernel_rfl) Try.func4 (by kernel_rfl)
    (of_decide_eq_true (by kernel_rfl)) (by unfold Func.isWrapper; first | (rw [if_pos (by decide +kernel)]; kernel_rfl) | (rw [if_neg (by decide +kernel)]; exact ⟨rfl, rfl⟩))
    (fun os started H enc _ => lifted os started H enc)

theorem proved : Rows.BackfillEarliestSaid :=
  over
#print axioms proved
end Go.Proofs.Ytioeblljabohbaa.backfillEarliest
