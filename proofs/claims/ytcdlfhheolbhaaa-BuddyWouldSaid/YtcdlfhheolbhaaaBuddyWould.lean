/-
  BuddyWould: what would fit, if blocks were given back, fits when they are; asking changes nothing: so the law returns true for every input.
-/
import Derived.Test.YtcdlfhheolbhaaaYeR
import Derived.Test.YtcdlfhheolbhaaaRows
import Derived.Test.YtcdlfhheolbhaaaArgs2
namespace Go.Proofs.Ytcdlfhheolbhaaa.buddyWould
open Go.ChangeShapes Go.WideShapes Go.ChangeAt Go.RowKit
set_option linter.unusedVariables false

theorem own : ownKnob Try.prog.godebug = none := by kernel_rfl

open Go Go.ChangeShapes Go.WideShapes Go.ChangeAt Go.RowKit Go.Lib
set_option maxRecDepth 100000 in
set_option maxHeartbeats 4000000 in
theorem walk (v0 : Value) (l : List Ac) (order : Int) (v2 : Value) (gs : List Int) (w : World) (h0 : AArg w v0 l) (h1 : (Lit.int .i64 order).wf = true) (h2 : IntsArg w .i64 v2 gs) :
    Calls Try.prog 7 #[v0, .int .i64 order, v2] w fun e w' => e = .returned (.bool true) ∧ Below w.heap.size w w' := by
  have YD := Lib.hid (yard_any v0 l w h0.2 h0.1)
  have K : Hid (∀ w1, Calls Try.prog 11 #[] w1 fun e w' => e = .returned (.bool true) ∧ Below w1.heap.size w1 w') := known4_any
  have HG := Lib.hid (grow_of_ints h2)
  obtain ⟨ga, gc, hv⟩ := HG.out.slice
  subst hv
  clear h0 h1 h2
  go_enter Try.func7, Try.ntmps7
  go_wp2_with fail
  refine YD.out.mono ?_; rintro e w1 ⟨g, tk, fl, rfl, _, hY, hb⟩
  have HY1 := Lib.hid hY
  have HB1 := Lib.hid hb
  clear hY hb YD
  by_cases h60 : (60 : Int) < (gs.length : Int)
  · have hd : decide ((60 : Int) < (gs.length : Int)) = true := decide_eq_true h60
    have hd2 : decide (60 < gs.length) = true := decide_eq_true (by omega)
    clear h60
    go_wp2_with fail
    refine (K.out _).mono ?_; rintro e w2 ⟨rfl, b2⟩
    have HB2 := Lib.hid (HB1.out.trans (b2.mono HB1.out.size))
    clear b2
    go_wp2_with fail
    go_ret
    exact ⟨rfl, HB2.out⟩
  · have hd : decide ((60 : Int) < (gs.length : Int)) = false := decide_eq_false h60
    have hd2 : decide (60 < gs.length) = false := decide_eq_false (by omega)
    have hl60 : gs.length ≤ 60 := by omega
    have F1 := Lib.hid (Free_any g _ 5 _ _ _ w1 HY1.out.2)
    clear h60
    go_wp2_with fail
    refine F1.out.mono ?_; rintro e w2 ⟨vf, rfl, hof, b2⟩
    have HOf := Lib.hid (brow_of_own hof)
    have HY2 := Lib.hid (HY1.out.kept b2)
    have HB2 := Lib.hid (HB1.out.trans (b2.mono HB1.out.size))
    have T2 := Lib.hid (Taken_any g _ 5 _ _ w2 HY2.out)
    clear hof b2 F1
    go_wp2_with fail
    refine T2.out.mono ?_; rintro e w3 ⟨vt, rfl, hot, b3⟩
    have HOf3 := Lib.hid (HOf.out.kept b3)
    have HOt := Lib.hid (brow_of_own hot)
    have HY3 := Lib.hid (HY2.out.kept b3)
    have HB3 := Lib.hid (HB2.out.trans (b3.mono HB2.out.size))
    have W3 := Lib.hid (Would_any g _ 5 tk fl order _ gs w3 (by omega) (HG.out.kept HB3.out) HY3.out)
    clear hot b3 T2 HOf
    go_wp2_with fail
    refine W3.out.mono ?_; rintro e w4 ⟨r, rfl, hr, b4⟩
    have HR := Lib.hid hr
    have HOf4 := Lib.hid (HOf3.out.kept b4)
    have HOt4 := Lib.hid (HOt.out.kept b4)
    have HY4 := Lib.hid (HY3.out.kept b4)
    have HB4 := Lib.hid (HB3.out.trans (b4.mono HB3.out.size))
    have F4 := Lib.hid (Free_any g _ 5 _ _ _ w4 HY4.out.2)
    clear hr b4 W3 HOf3 HOt
    go_wp2_with fail
    refine F4.out.mono ?_; rintro e w5 ⟨vf2, rfl, hof, b5⟩
    have hfl := freeL_len (show 5 ≤ 10 by omega) (opn 5 tk fl)
    have S5 := Lib.hid (sameB_any vf2 vf _ _ w5 (by omega) (by omega) (brow_of_own hof) (HOf4.out.kept b5))
    rw [decide_eq_true rfl] at S5
    have HOt5 := Lib.hid (HOt4.out.kept b5)
    have HY5 := Lib.hid (HY4.out.kept b5)
    have HB5 := Lib.hid (HB4.out.trans (b5.mono HB4.out.size))
    clear hof b5 F4 hfl HOt4 HOf4
    go_wp2_with fail
    refine S5.out.mono ?_; rintro e w6 ⟨rfl, b6⟩
    have HOt6 := Lib.hid (HOt5.out.kept b6)
    have HY6 := Lib.hid (HY5.out.kept b6)
    have HB6 := Lib.hid (HB5.out.trans (b6.mono HB5.out.size))
    have T6 := Lib.hid (Taken_any g _ 5 _ _ w6 HY6.out)
    clear b6 S5 HOt5
    go_wp2_with fail
    refine T6.out.mono ?_; rintro e w7 ⟨vt2, rfl, hot, b7⟩
    have htl := HY6.out.1.tlen
    have S7 := Lib.hid (sameB_any vt2 vt _ _ w7 (by omega) (by omega) (brow_of_own hot) (HOt6.out.kept b7))
    rw [decide_eq_true rfl] at S7
    have HY7 := Lib.hid (HY6.out.kept b7)
    have HB7 := Lib.hid (HB6.out.trans (b7.mono HB6.out.size))
    clear hot b7 T6 htl HOt6
    go_wp2_with fail
    refine S7.out.mono ?_; rintro e w8 ⟨rfl, b8⟩
    have HY8 := Lib.hid (HY7.out.kept b8)
    have HB8 := Lib.hid (HB7.out.trans (b8.mono HB7.out.size))
    have W8 := Lib.hid (Would_any g _ 5 tk fl order (.slice none 0 0) [] w8 (by simp) (GRow.none _) HY8.out)
    clear b8 S7
    go_wp2_with fail
    refine W8.out.mono ?_; rintro e w9 ⟨r1, rfl, hr1, b9⟩
    have HR1 := Lib.hid hr1
    have HY9 := Lib.hid (HY8.out.kept b9)
    have HB9 := Lib.hid (HB8.out.trans (b9.mono HB8.out.size))
    have X9 := Lib.hid (Fits_any g _ 5 _ _ fl order w9 HY9.out.2)
    clear hr1 b9 W8
    go_wp2_with fail
    refine X9.out.mono ?_; rintro e wa ⟨r2, rfl, hr2, ba⟩
    obtain rfl : r1 = r2 := by
      have h1 := HR1.out
      rw [Bool.eq_iff_iff, h1, hr2]; rfl
    have hrr : (r1 != r1) = false := by simp
    have HYa := Lib.hid (HY9.out.kept ba)
    have HBa := Lib.hid (HB9.out.trans (ba.mono HB9.out.size))
    clear hr2 ba X9 HR1
    go_wp2_with fail
    clear hrr
    go_loopw [11] (fun i wr => ∃ k : Nat, k ≤ gs.length ∧ i = .int .i64 k ∧ Hid (YS wr g (fun k => w.heap.size ≤ k) 5 ((gs.take k).foldl giveT tk) fl) ∧ Hid (Below w.heap.size w wr)) (fun i _ => gs.length - (RowKit.intOf i).toNat)
    case atStart => exact ⟨0, Nat.zero_le _, rfl, HYa, HBa⟩
    case round =>
      obtain ⟨k, hk, rfl, HY, HB⟩ := hrel
      by_cases hlt : k < gs.length
      · have hlt' : decide (k < gs.length) = true := decide_eq_true hlt
        rcases HG.out with ⟨h0, _⟩ | ⟨bb, off, c, hv, hc⟩
        · rw [h0] at hlt; simp at hlt
        · cases hv
          have c0 := cell_next HB.out (hc k hlt)
          have hki : (k : Int) < (gs.length : Int) := by omega
          obtain ⟨x, hx⟩ : ∃ x, x = gs.getD k 0 := ⟨_, rfl⟩
          rw [← hx] at c0
          have GV := Lib.hid (Give_any g _ 5 _ fl x wr HY.out)
          have hstep : (gs.take (k + 1)).foldl giveT tk = giveT ((gs.take k).foldl giveT tk) x := by
            rw [foldl_take_succ _ _ _ _ hlt, hx, List.getD_eq_getElem?_getD, List.getElem?_eq_getElem hlt]; rfl
          have HST := Lib.hid hstep
          clear hc hx hstep
          go_wp2_with fail
          refine GV.out.mono ?_; rintro e w2 ⟨er, tk', rfl, hgr, hY2, hC2⟩
          have HY2 : Hid (YS w2 g (fun k => w.heap.size ≤ k) 5 ((gs.take (k + 1)).foldl giveT tk) fl) := by unfold Hid; rw [HST.out, ← hgr.giveT]; exact hY2
          have HB2 : Hid (Below w.heap.size w w2) := HB.out.trans (hC2.to_below HB.out.size fun k hk h => by omega)
          clear hgr hY2 hC2
          go_wp2_with fail
          go_roundw
          case rel => exact ⟨k + 1, hlt, by go_num, HY2, HB2⟩
          case measure => simp [RowKit.intOf]; omega
      · obtain rfl : k = gs.length := by omega
        have hlt' : decide (gs.length < gs.length) = false := decide_eq_false (by omega)
        have FT := Lib.hid (Fits_any g _ 5 _ _ fl order wr HY.out.2)
        go_wp2_with fail
        refine FT.out.mono ?_; rintro e w2 ⟨r3, rfl, hr3, b2⟩
        obtain rfl : r = r3 := by
          have h1 := HR.out
          rw [List.take_of_length_le (Nat.le_refl _)] at hr3
          rw [Bool.eq_iff_iff, h1, hr3]
        have hrr : (r == r) = true := by simp
        have HB2 := Lib.hid (HB.out.trans (b2.mono HB.out.size))
        clear hr3 b2 FT
        go_wp2_with fail
        refine (K.out _).mono ?_; rintro e w3 ⟨rfl, b3⟩
        have HB3 := Lib.hid (HB2.out.trans (b3.mono HB2.out.size))
        clear b3
        go_wp2_with fail
        go_ret
        exact ⟨rfl, HB3.out⟩


set_option maxRecDepth 100000 in
theorem lifted (os : Os) (started : os.Started) (H : Type) (enc : TypeId × Value → H) :
    ReturnsInHanded {} Try.checked os 7 .any (Rows.buddyWouldSpec.pre6 enc Try.prog Try.f7 Rows.buddyWouldRow.domain false) (Rows.buddyWouldSpec.post enc Try.prog Try.f7 false true false false) := by
  refine returnsInHanded_of_change (C := Try.checked) own started (by kernel_rfl) Try.func7
    (ChangeSpec.witness6 (enc := enc) (C := Try.checked) false ⟨#[], #[.slice none 0 0, .int .i64 0, .slice none 0 0], []⟩ 8 (by kernel_rfl) (by kernel_rfl) (by kernel_rfl) (by kernel_rfl)) ?_
  intro W base args ds gs before hval0 hW _ _
  have hval : ∀ (j : Nat) t v, Try.f7.params[j]? = some t → args[j]? = some v → Value.okWide Try.prog W .any base t v := hval0
  have hW' := hW
  obtain ⟨p, q, hA0, hV, rfl, hfz, hnd⟩ := hW
  have hA : DataW.TrodAll enc Try.prog W 0 (fun _ => true) true Try.f7.params.toList args.toList ds p := hA0
  rw [Try.params7] at hA hval
  obtain ⟨v0, vs0, d0, ds0, p0, q0, hargs, rfl, rfl, h0, r0⟩ := trodAll_cons hA
  obtain ⟨v1, vs1, d1, ds1, p1, q1, rfl, rfl, rfl, h1, r1⟩ := trodAll_cons r0
  obtain ⟨v2, vs2, d2, ds2, p2, q2, rfl, rfl, rfl, h2, r2⟩ := trodAll_cons r1
  obtain ⟨rfl, rfl, rfl⟩ := trodAll_nil r2
  obtain rfl : args = #[v0, v1, v2] := by cases args; simp_all
  obtain ⟨l, w0⟩ := open_acts_arg h0 (okWide_slice Try.underlying22 (hval 0 22 v0 rfl rfl))
  obtain ⟨order, rfl, rfl, rfl, w1⟩ := open_int Try.underlying3 (hval 1 3 v1 rfl rfl) h1
  obtain ⟨gives, w2⟩ := open_ints_arg Try.underlying23 Try.underlying3 (by kernel_rfl) h2 (okWide_slice Try.underlying23 (hval 2 23 v2 rfl rfl))
  clear hA0 hval0
  refine (walk v0 l order v2 gives W w0 w1 w2).mono fun e W' ⟨he, hb⟩ => ?_
  subst he
  exact ⟨_, rfl, law_post (by kernel_rfl) (by kernel_rfl) rfl Try.underlying4 rfl hW' rfl hb⟩

theorem over : Rows.buddyWouldRow.holds Try.pinned (OpenSpec.ofChange Rows.buddyWouldSpec) :=
  OpenClaim.holds_of_wide 7 Try.f7 rfl rfl rfl rfl rfl rfl rfl ⟨rfl, rfl, rfl, rfl, rfl⟩ rfl rfl rfl rfl rfl (by kernel_rfl) Try.func7 (by kernel_rfl)
    (of_decide_eq_true (by kernel_rfl)) (by unfold Func.isWrapper; first | (rw [if_pos (by decide +kernel)]; kernel_rfl) | (rw [if_neg (by decide +kernel)]; exact ⟨rfl, rfl⟩))
    (fun os started H enc _ => lifted os started H enc)

theorem proved : Rows.BuddyWouldSaid :=
  over
#print axioms proved
end Go.Proofs.Ytcdlfhheolbhaaa.buddyWould
