/-
  IndexesPrints: any indexes may be, or not, and have the text that the chapter says; they stay: so the law returns true for every input, the listed tables of Go's library reading as the program's text lays them.
-/
import Derived.Test.YtdhkinknhjpjmaaDoorIxArr
import Derived.Test.YtdhkinknhjpjmaaDoorIxRf
import Derived.Test.YtdhkinknhjpjmaaDoorApp
import Derived.Test.YtdhkinknhjpjmaaDoorRows
import Derived.Test.YtdhkinknhjpjmaaDoorArgs2
import Derived.Test.YtdhkinknhjpjmaaDoorLaid
import Derived.Test.YtdhkinknhjpjmaaDoorCards
import Derived.Test.YtdhkinknhjpjmaaDoorTie
import Derived.MakeChecks
import Derived.SevenTiedAt
namespace Go.Proofs.YtdhkinknhjpjmaaDoor.indexesPrints
open Go.ChangeShapes Go.WideShapes Go.ChangeAt Go.RowKit
set_option linter.unusedVariables false

theorem own : ownKnob Tryd.prog.godebug = none := by kernel_rfl

open Go Go.RowKit Go.Lib in
theorem nrow_src {w : World} {v : Value} {l : List Int} (h : NRow w v l) : Src w 1 v l.length (numsL l) := by
  rcases h with ⟨rfl, a, c, rfl, _⟩ | ⟨b, off, c, rfl, h0, h1, h2, h3, h4⟩
  · refine ⟨rfl, ?_⟩
    cases a with
    | none => exact .inl ⟨c, rfl, rfl⟩
    | some ad => exact .inr ⟨ad, c, rfl, fun j u hj => by simp [numsL] at hj⟩
  · refine ⟨by rw [numsL_len, Nat.mul_one], .inr ⟨⟨b, off, none⟩, c, rfl, fun j u hj => ?_⟩⟩
    have hjl : j < l.length := by have := (List.getElem?_eq_some_iff.1 hj).1; rwa [numsL_len] at this
    rw [numsL_get hjl] at hj
    rw [Addr.add_lit, h4 j hjl]; exact hj
open Go Go.RowKit Go.Lib in
set_option maxRecDepth 100000 in
set_option maxHeartbeats 8000000 in
theorem walk (v : Value) (l : List Int) (m : Int) (w : World) (hE : TabW w) (hr : NRow w v l ∧ ∀ z ∈ l, (Lit.int .i64 z).wf = true) (hm : (Lit.int .i64 m).wf = true) :
    Calls Tryd.prog 4 #[.agg #[v, .int .i64 m]] w fun e w' => e = .returned (.bool true) ∧ Below w.heap.size w w' := by
  have K : Hid (∀ w1, Below w.heap.size w w1 → Calls Tryd.prog 10 #[] w1 fun e w' => e = .returned (.bool true) ∧ Below w1.heap.size w1 w') := fun w1 hb => known_any w1 (hE.next hb)
  have hrow := hr.1
  have hmax : l.length ≤ 9223372036854775807 := by
    rcases hrow with ⟨rfl, _⟩ | ⟨_, _, c, _, _, h1, h2, _⟩
    · simp
    · unfold maxLen at h2; omega
  obtain ⟨a, c, rfl⟩ := hrow.slice
  have hb := Lib.hid (Blk.new w #[.slice a l.length c, .int .i64 m] 25)
  have HW := Lib.hid ((Below.refl w.heap.size w).alloc (Nat.le_refl _) (.cells #[.slice a l.length c, .int .i64 m] 25))
  by_cases hlong : 3000 < l.length
  · have t : decide ((l.length : Int) > 3000) = true := decide_eq_true (by omega)
    have t1 : decide (3000 < l.length) = true := decide_eq_true hlong
    have c0 := hb.out.cell 0
    simp only [List.getElem?_toArray, List.getElem?_cons_zero] at c0
    clear hr hE hm hrow hb
    go_enter Tryd.func4, Tryd.ntmps4
    go_wp2_with fail
    refine (K.out _ HW.out).mono ?_; rintro e w9 ⟨rfl, b9⟩
    have B9 := Lib.hid (below_next b9 HW.out)
    go_wp2_with fail
    go_ret
    exact ⟨rfl, B9.out⟩
  have hl : l.length ≤ 3000 := by omega
  have t : decide ((l.length : Int) > 3000) = false := decide_eq_false (by omega)
  have t1 : decide (3000 < l.length) = false := decide_eq_false (by omega)
  have PR : Hid (∀ v w1, TabW w1 → NRow w1 v l → Calls Tryd.prog 15 #[.agg #[v, .int .i64 m]] w1 fun e w' => e = .returned (.tuple #[.string (printZ l m), .int .i64 (checkZ l m)]) ∧ Below w1.heap.size w1 w') := fun v w1 ht hr => print_any v l m w1 (by omega) ht hr
  have CK : Hid (∀ v w1, NRow w1 v l → Calls Tryd.prog 14 #[.agg #[v, .int .i64 m]] w1 fun e w' => e = .returned (.int .i64 (checkZ l m)) ∧ Below w1.heap.size w1 w') := fun v w1 hr => check_any v l m w1 (by omega) hr
  have RP : Hid (∀ v w1, NRow w1 v l → Calls Tryd.prog 16 #[.agg #[v, .int .i64 m]] w1 fun e w' => e = .returned (.tuple #[.string (printZ l m), .int .i64 (checkZ l m)]) ∧ Below w1.heap.size w1 w') := fun v w1 hr => refPrint_any v l m w1 (by omega) hr
  have RC : Hid (∀ v w1, NRow w1 v l → Calls Tryd.prog 17 #[.agg #[v, .int .i64 m]] w1 fun e w' => e = .returned (.int .i64 (checkZ l m)) ∧ Below w1.heap.size w1 w') := fun v w1 hr => refCk_any v l m w1 (by omega) hr
  have SM : Hid (∀ (v v' : Value) (w : World), NRow w v l → NRow w v' l → Calls Tryd.prog 13 #[.agg #[v, .int .i64 m], .agg #[v', .int .i64 m]] w fun e w' => e = .returned (.bool true) ∧ Below w.heap.size w w') := fun v v' w h h' => by
    have := same_any v v' l l m m w (by omega) (by omega) h h'
    simpa using this
  have HSRC := Lib.hid (nrow_src (hrow.kept HW.out))
  have HRW := Lib.hid (hrow.kept HW.out)
  have HT := Lib.hid hE
  obtain ⟨i0, hi, hz0, hz1, hz2⟩ := info_parts Tryd.infoNum
  generalize printZ l m = S at *
  generalize checkZ l m = E at *
  obtain ⟨g, hg⟩ : ∃ g, g = w.heap.size := ⟨_, rfl⟩
  rw [← hg] at hb
  have c0 := hb.out.cell 0
  have c1 := hb.out.cell 1
  simp only [List.getElem?_toArray, List.getElem?_cons_zero, List.getElem?_cons_succ] at c0 c1
  have q1 : (E == E) = true := beq_self_eq_true E
  have q2 : decide (S = S) = true := decide_eq_true rfl
  clear hr hE hm hrow hmax hlong
  go_enter Tryd.func4, Tryd.ntmps4
  go_upto_region 1 with fail
  rw [← hg]
  generalize w.alloc (.cells #[.slice a l.length c, .int .i64 m] 25) = W0 at *
  have z0 := HW.out.size
  rw [← hg] at z0
  clear hg
  go_wp2_with (at_builtin; refine wpList_app rfl _ _ 23 rfl W0.heap.size 3 i0 _ 1 8 Tryd.underlying23 hi hz0 hz1 hz2 rfl (by decide) _ 0 _ rfl (World.ownsRow_nil _ _ _ _) _ l.length (numsL l) rfl HSRC.out (numsL_one l) (by unfold maxLen; omega) (by omega) (Nat.le_refl _) ?_)
  intro v' w1 hown hgr _
  have HG := Lib.hid ((Below.refl W0.heap.size W0).grown hgr (Nat.le_refl _) fun k hk => by cases hk)
  have HO := Lib.hid (nrow_of_own hown)
  obtain ⟨a', c', rfl⟩ := own_slice hown
  have HR1 := Lib.hid (HRW.out.kept HG.out)
  have B1 := Lib.hid (below_next HG.out HW.out)
  have C1 := Lib.hid (hb.out.kept HG.out)
  have c0 := C1.out.cell 0
  have c1 := C1.out.cell 1
  simp only [List.getElem?_toArray, List.getElem?_cons_zero, List.getElem?_cons_succ] at c0 c1
  have x2 := (Below.refl w1.heap.size w1).alloc (Nat.le_refl _) (.cells #[.slice a' l.length c', .int .i64 m] 25)
  have HX := Lib.hid (Blk.new w1 #[.slice a' l.length c', .int .i64 m] 25)
  have HO2 := Lib.hid (HO.out.kept x2)
  have HR2 := Lib.hid (HR1.out.kept x2)
  have B2 := Lib.hid (below_next x2 B1.out)
  have C2 := Lib.hid (C1.out.kept x2)
  obtain ⟨g2, hg2⟩ : ∃ g2, g2 = w1.heap.size := ⟨_, rfl⟩
  rw [← hg2] at HX
  have d0 := HX.out.cell 0
  have d1 := HX.out.cell 1
  simp only [List.getElem?_toArray, List.getElem?_cons_zero, List.getElem?_cons_succ] at d0 d1
  clear hgr hown x2 HO HR1 B1 C1 HG HSRC HRW hi hz0 hz1 hz2 hb
  go_upto_region 6 with fail
  rw [← hg2]
  generalize w1.alloc (.cells #[.slice a' l.length c', .int .i64 m] 25) = W2 at *
  clear hg2 c0 c1
  go_wp2_with fail
  refine (CK.out _ W2 (by first | exact HO2.out)).mono ?_; rintro e w3 ⟨rfl, b3⟩
  have HX3 := Lib.hid (HX.out.kept b3)
  have C3 := Lib.hid (C2.out.kept b3)
  have HO3 := Lib.hid (HO2.out.kept b3)
  have HR3 := Lib.hid (HR2.out.kept b3)
  have B3 := Lib.hid (below_next b3 B2.out)
  have d0 := HX3.out.cell 0
  have d1 := HX3.out.cell 1
  simp only [List.getElem?_toArray, List.getElem?_cons_zero, List.getElem?_cons_succ] at d0 d1
  clear b3 HX C2 HO2 HR2 B2 CK
  go_wp2_with fail
  refine (PR.out _ w3 (HT.out.next B3.out) HO3.out).mono ?_; rintro e w4 ⟨rfl, b4⟩
  have HX4 := Lib.hid (HX3.out.kept b4)
  have C4 := Lib.hid (C3.out.kept b4)
  have HO4 := Lib.hid (HO3.out.kept b4)
  have HR4 := Lib.hid (HR3.out.kept b4)
  have B4 := Lib.hid (below_next b4 B3.out)
  have c0 := C4.out.cell 0
  have c1 := C4.out.cell 1
  simp only [List.getElem?_toArray, List.getElem?_cons_zero, List.getElem?_cons_succ] at c0 c1
  clear b4 HX3 C3 HO3 HR3 B3 PR d0 d1
  go_wp2_with fail
  refine (RP.out _ w4 HR4.out).mono ?_; rintro e w5 ⟨rfl, b5⟩
  have HX5 := Lib.hid (HX4.out.kept b5)
  have C5 := Lib.hid (C4.out.kept b5)
  have HO5 := Lib.hid (HO4.out.kept b5)
  have HR5 := Lib.hid (HR4.out.kept b5)
  have B5 := Lib.hid (below_next b5 B4.out)
  have c0 := C5.out.cell 0
  have c1 := C5.out.cell 1
  simp only [List.getElem?_toArray, List.getElem?_cons_zero, List.getElem?_cons_succ] at c0 c1
  clear b5 HX4 C4 HO4 HR4 B4 RP
  go_wp2_with fail
  refine (RC.out _ w5 HR5.out).mono ?_; rintro e w6 ⟨rfl, b6⟩
  have HX6 := Lib.hid (HX5.out.kept b6)
  have C6 := Lib.hid (C5.out.kept b6)
  have HSM := Lib.hid (SM.out _ _ w6 (HO5.out.kept b6) (HR5.out.kept b6))
  have B6 := Lib.hid (below_next b6 B5.out)
  have c0 := C6.out.cell 0
  have c1 := C6.out.cell 1
  have d0 := HX6.out.cell 0
  have d1 := HX6.out.cell 1
  simp only [List.getElem?_toArray, List.getElem?_cons_zero, List.getElem?_cons_succ] at c0 c1 d0 d1
  clear b6 HX5 C5 HO5 HR5 B5 RC SM
  go_wp2_with fail
  refine HSM.out.mono ?_; rintro e w7 ⟨rfl, b7⟩
  have B7 := Lib.hid (below_next b7 B6.out)
  clear b7 HX6 C6 B6 HSM c0 c1 d0 d1
  go_wp2_with fail
  refine (K.out _ B7.out).mono ?_; rintro e w9 ⟨rfl, b9⟩
  have B9 := Lib.hid (below_next b9 B7.out)
  go_wp2_with fail
  go_ret
  exact ⟨rfl, B9.out⟩


set_option maxRecDepth 100000 in
theorem lifted (os : Os) (started : os.Started) (H : Type) (enc : TypeId × Value → H) :
    ReturnsInHanded {} Tryd.checked os 4 .any (fun w args => (Rows.indexesPrintsSpec.pre enc Tryd.prog Tryd.f4 Rows.indexesPrintsRow.domain false w args ∧ laidMetH Tryd.prog laid6 w) ∧ sizedMet enc Tryd.prog Tryd.f4 (OpenSpec.ofChange Rows.indexesPrintsSpec) false w args) (Rows.indexesPrintsSpec.post enc Tryd.prog Tryd.f4 false true false false) := by
  refine laid_lift (C := Tryd.checked) (X := fun w _ => laidMetH Tryd.prog laid6 w) (fun _ _ _ hh h => h.of_heap hh) own started (by kernel_rfl) Tryd.func4
    (ChangeSpec.witness_shaped (enc := enc) (C := Tryd.checked) (os := os) (X := fun w _ => laidMetH Tryd.prog laid6 w) false (World.laidAll Tryd.prog os laid6) #[.agg #[.slice none 0 0, .int .i64 0]] 8 (World.laidAll_os _ _ _)
      (World.shaped_of_ZipB (by kernel_rfl) (by kernel_rfl)) (by kernel_rfl) (by kernel_rfl) (by kernel_rfl)
      (by rw [MakeChecks.laidMetH_plain _ _ _ (by kernel_rfl)]; exact laidMet_laidAll _ (by kernel_rfl) (by kernel_rfl))) ?_
  intro W base args ds gs before hval0 hW hsz0 hL hS
  have hE := env6_of hL hS
  have hval : ∀ (j : Nat) t v, Tryd.f4.params[j]? = some t → args[j]? = some v → Value.okWide Tryd.prog W .any base t v := hval0
  have hW' := hW
  obtain ⟨p, q, hA0, hV, rfl, hfz, hnd⟩ := hW
  have hA : DataW.TrodAll enc Tryd.prog W 0 (fun _ => true) true Tryd.f4.params.toList args.toList ds p := hA0
  rw [Tryd.params4] at hA hval
  obtain ⟨v0, vs0, d0, ds0, p0, q0, hargs, rfl, rfl, h0, r0⟩ := trodAll_cons hA
  obtain ⟨rfl, rfl, rfl⟩ := trodAll_nil r0
  obtain rfl : args = #[v0] := by cases args; simp_all
  obtain ⟨cs0, rfl, hs0, hf0⟩ := open_plain_struct Tryd.underlying25 (by kernel_rfl) (by kernel_rfl) (hval 0 25 v0 rfl rfl) h0
  obtain ⟨c0_0, y0_0, n0_0, e0_0, t0_0⟩ := hf0 0 _ rfl
  obtain ⟨l, w0_0⟩ := field_nrow Tryd.underlying23 Tryd.underlying3 (by kernel_rfl) t0_0
  obtain ⟨c0_1, y0_1, n0_1, e0_1, t0_1⟩ := hf0 1 _ rfl
  obtain ⟨m, rfl, w0_1⟩ := field_int Tryd.underlying3 t0_1
  obtain rfl : cs0 = #[c0_0, .int .i64 m] := arr_of cs0 [c0_0, .int .i64 m] hs0 (fun j hj => by match j, hj with | 0, _ => exact e0_0 | 1, _ => exact e0_1 | j + 2, hj => exact absurd hj (by simp))
  clear hA0 hval0
  refine (walk c0_0 l m W hE w0_0 w0_1).mono fun e W' ⟨he, hb⟩ => ?_
  subst he
  exact ⟨_, rfl, law_post (by kernel_rfl) (by kernel_rfl) rfl Tryd.underlying4 rfl hW' rfl hb⟩

theorem over : Rows.indexesPrintsRow.holds Tryd.pinned (OpenSpec.ofChange Rows.indexesPrintsSpec) :=
  OpenClaim.holds_of_wide 4 Tryd.f4 rfl rfl rfl rfl rfl rfl rfl ⟨rfl, rfl, rfl, rfl, rfl⟩ rfl rfl rfl rfl rfl (by kernel_rfl) Tryd.func4 (by kernel_rfl)
    (of_decide_eq_true (by kernel_rfl)) (by unfold Func.isWrapper; first | (rw [if_pos (by decide +kernel)]; kernel_rfl) | (rw [if_neg (by decide +kernel)]; exact ⟨rfl, rfl⟩))
    (fun os started H enc _ => lifted os started H enc)

theorem proved : Rows.IndexesPrintsCardSaid :=
  Claim7.holds_tied_plain_at .later [] _ true _ false over (fun _ h => by cases h) (by kernel_rfl) (fun _ h => by cases h) indexesPrints_row_tie rfl ⟨rfl, rfl⟩ (by kernel_rfl) rfl
    (fun f fn hf hfn => by
      obtain rfl : f = 4 := Option.some.inj ((show Tryd.prog.funcNamed "ganger/gangerlaw06.IndexesPrints" = some 4 by kernel_rfl).symm.trans hf) |>.symm
      obtain rfl : fn = Tryd.f4 := (Option.some.inj (Tryd.func4.symm.trans hfn)).symm
      exact ⟨by kernel_rfl, fun j t ht => by
        rw [Tryd.params4] at ht
        have hm : t ∈ [25] := by simpa using Array.mem_of_getElem? ht
        have hall : ([25].all fun u => !Tryd.prog.wantsStandIn u) = true := by kernel_rfl
        exact (show Tryd.prog.wantsStandIn t = false by simpa using List.all_eq_true.1 hall t hm)⟩)
    (by kernel_rfl)
#print axioms proved
end Go.Proofs.YtdhkinknhjpjmaaDoor.indexesPrints
