/-
  RankPuts: a key put in, a number dropped, at any keys: as gangerref03 says; they stay, and what comes out is its owner's: so the law returns true for every input.
-/
import Derived.Test.YtpgiladbljnpcaaKeyArgs
import Derived.Test.YtpgiladbljnpcaaKeyPR
import Derived.Test.YtpgiladbljnpcaaRows
import Derived.Test.YtpgiladbljnpcaaArgs2
namespace Go.Proofs.Ytpgiladbljnpcaa.rankPuts
open Go.ChangeShapes Go.WideShapes Go.ChangeAt Go.RowKit
set_option linter.unusedVariables false

theorem own : ownKnob Try.prog.godebug = none := by kernel_rfl

open Go.ChangeShapes Go.WideShapes Go.ChangeAt Go.RowKit Go.Lib Go.Sort
attribute [local go_sem ↓] key_eql key_neq key_grd
theorem long (a : Option Addr) (n c : Nat) (kp kt ki id : Int) (w : World) (h : 300 < n) (hm : n ≤ maxLen) :
    Calls Try.prog 5 #[.slice a n c, .agg #[.int .i64 kp, .int .i64 kt, .int .u32 ki], .int .u32 id] w fun e w' => e = .returned (.bool true) ∧ Below w.heap.size w w' := by
  have HM : Hid (∀ w, Calls Try.prog 13 #[.slice a n c, .slice none 0 0] w fun e w' => e = .returned (.bool true) ∧ Below w.heap.size w w') := fun w => by
    have := many_any a none n c 0 0 w (by unfold maxLen at hm; omega) (by omega)
    rw [decide_eq_true h] at this; exact this
  clear h hm
  go_enter Try.func5, Try.ntmps5
  go_wp2_with fail
  refine (HM.out _).mono ?_; rintro e w1 ⟨rfl, b1⟩
  go_wp2_with fail
  refine (known3_any _).mono ?_; rintro e w2 ⟨rfl, b2⟩
  go_wp2_with fail
  go_ret
  exact ⟨rfl, below_next b2 (below_next b1 ((Below.refl _ _).alloc (Nat.le_refl _) _))⟩

set_option maxRecDepth 100000 in
set_option maxHeartbeats 2000000 in
theorem short (a : Option Addr) (c : Nat) (xs : List Key) (kp kt ki id : Int) (w : World) (hk : KRow w (.slice a xs.length c) xs) (hok : ∀ x ∈ xs, KeyOk x) (h : ¬ 300 < xs.length) :
    Calls Try.prog 5 #[.slice a xs.length c, .agg #[.int .i64 kp, .int .i64 kt, .int .u32 ki], .int .u32 id] w fun e w' => e = .returned (.bool true) ∧ Below w.heap.size w w' := by
  have hn : xs.length ≤ 1048576 := by omega
  have hid : ∀ x ∈ xs, (Lit.int .u32 x.2.2).wf = true := fun x hx => (hok x hx).2.2
  have HM : Hid (∀ w, Calls Try.prog 13 #[.slice a xs.length c, .slice none 0 0] w fun e w' => e = .returned (.bool false) ∧ Below w.heap.size w w') := fun w => by
    have := many_any a none xs.length c 0 0 w (by omega) (by omega)
    rw [decide_eq_false h] at this; exact this
  have HC1 : Hid (∀ w1, Below w.heap.size w w1 → Calls Try.prog 14 #[.slice a xs.length c] w1
      fun e w' => ∃ v', e = .returned v' ∧ w'.ownsRow w1.heap.size 24 3 v' xs.length (flatL xs) ∧ Below w1.heap.size w1 w') := fun w1 hb => copied_any _ xs w1 hn (hk.kept hb)
  have P1 : Hid (∀ v w1, KRow w1 v xs → Calls Try.prog 20 #[v, .agg #[.int .i64 kp, .int .i64 kt, .int .u32 ki]] w1 fun e w' => ∃ v', e = .returned (.tuple #[v', .int .i64 (putE xs (kp, kt, ki))]) ∧ w'.ownsRow w1.heap.size 24 3 v' (putL xs (kp, kt, ki)).length (flatL (putL xs (kp, kt, ki))) ∧ Below w1.heap.size w1 w') :=
    fun v w1 hk => put_any v xs (kp, kt, ki) w1 hn hid hk
  have P2 : Hid (∀ w1, Below w.heap.size w w1 → Calls Try.prog 21 #[.slice a xs.length c, .agg #[.int .i64 kp, .int .i64 kt, .int .u32 ki]] w1 fun e w' => ∃ v', e = .returned (.tuple #[v', .int .i64 (putE xs (kp, kt, ki))]) ∧ KRow w' v' (putL xs (kp, kt, ki)) ∧ Below w1.heap.size w1 w') :=
    fun w1 hb => refPut_any _ xs (kp, kt, ki) w1 hn (hk.kept hb)
  have P3 : Hid (∀ v w1, KRow w1 v xs → Calls Try.prog 22 #[v, .int .u32 id] w1 fun e w' => ∃ v', e = .returned (.tuple #[v', .bool (dropB xs id)]) ∧ w'.ownsRow w1.heap.size 24 3 v' (dropL xs id).length (flatL (dropL xs id)) ∧ Below w1.heap.size w1 w') :=
    fun v w1 hk => drop_any v xs id w1 hn hid hk
  have P4 : Hid (∀ w1, Below w.heap.size w w1 → Calls Try.prog 23 #[.slice a xs.length c, .int .u32 id] w1 fun e w' => ∃ v', e = .returned (.tuple #[v', .bool (dropB xs id)]) ∧ KRow w' v' (dropL xs id) ∧ Below w1.heap.size w1 w') :=
    fun w1 hb => refDrop_any _ xs id w1 hn (hk.kept hb)
  have LA : Hid ((putL xs (kp, kt, ki)).length ≤ 1048576) := by have := putL_len xs (kp, kt, ki); unfold Hid; omega
  have LC : Hid ((dropL xs id).length ≤ 1048576) := by have := dropL_len xs id; unfold Hid; omega
  have HK := Lib.hid hk
  have HN := Lib.hid hn
  clear hk hok h hid hn
  generalize putE xs (kp, kt, ki) = pe at *
  generalize dropB xs id = db at *
  generalize putL xs (kp, kt, ki) = pl at *
  generalize dropL xs id = dl at *
  have tpe : (pe != pe) = false := by simp
  have tdb : (db != db) = false := by simp
  go_enter Try.func5, Try.ntmps5
  go_wp2_with fail
  refine (HM.out _).mono ?_; rintro e w1 ⟨rfl, b1⟩
  have B1 := Lib.hid (below_next b1 ((Below.refl _ _).alloc (Nat.le_refl _) _))
  have KB := Lib.hid ((Blk.new w #[.int .i64 kp, .int .i64 kt, .int .u32 ki] 24).kept b1)
  clear b1 HM
  go_wp2_with fail
  refine (HC1.out _ B1.out).mono ?_; rintro e w2 ⟨x, rfl, hx2, b2⟩
  have B2 := Lib.hid (below_next b2 B1.out)
  have KX := Lib.hid (krow_of_owns hx2)
  have KB2 := Lib.hid (KB.out.kept b2)
  clear hx2 b2 B1 KB HC1
  have hSame : Hid (∀ wr, Below w2.heap.size w2 wr → Calls Try.prog 19 #[x, .slice a xs.length c] wr fun e w' => e = .returned (.bool true) ∧ Below wr.heap.size wr w') := fun wr hb => by
    have := same_any x (.slice a xs.length c) xs xs wr HN.out HN.out (KX.out.kept hb) (HK.out.kept (below_next hb B2.out))
    rw [decide_eq_true rfl] at this; exact this
  have d0 := KB2.out.cell 0; simp at d0
  have d1 := KB2.out.cell 1; simp at d1
  have d2 := KB2.out.cell 2; simp at d2
  go_wp2_with fail
  refine (P1.out _ _ KX.out).mono ?_; rintro e w3 ⟨va, rfl, oa, b3⟩
  have OA3 := Lib.hid oa
  have B3 := Lib.hid (below_next b3 B2.out)
  have B23 := Lib.hid b3
  have KX3 := Lib.hid (KX.out.kept b3)
  have KB3 := Lib.hid (KB2.out.kept b3)
  clear oa b3 d0 d1 d2 KX KB2 P1
  have d0 := KB3.out.cell 0; simp at d0
  have d1 := KB3.out.cell 1; simp at d1
  have d2 := KB3.out.cell 2; simp at d2
  go_wp2_with fail
  refine (P2.out _ B3.out).mono ?_; rintro e w4 ⟨vb, rfl, kb, b4⟩
  have KBr4 := Lib.hid kb
  have OA4 := Lib.hid (owns_below OA3.out b4)
  have B4 := Lib.hid (below_next b4 B3.out)
  have B24 := Lib.hid (below_next b4 B23.out)
  have KX4 := Lib.hid (KX3.out.kept b4)
  clear kb b4 d0 d1 d2 KX3 KB3 OA3 B3 B23 P2
  go_wp2_with fail
  refine (P3.out _ _ KX4.out).mono ?_; rintro e w5 ⟨vc, rfl, oc, b5⟩
  have OC5 := Lib.hid oc
  have hac : Hid (∀ k j, va.ownBlock = some k → vc.ownBlock = some j → k < j) := fun k j hk hj => Nat.lt_of_lt_of_le (OA4.out.lt k hk).2 (oc.lt j hj).1
  have h24 : Hid (w2.heap.size ≤ w4.heap.size) := B24.out.size
  have OA5 := Lib.hid (owns_below OA4.out b5)
  have KB5 := Lib.hid (KBr4.out.kept b5)
  have B5 := Lib.hid (below_next b5 B4.out)
  have B25 := Lib.hid (below_next b5 B24.out)
  clear oc b5 KX4 KBr4 OA4 B4 B24 P3
  go_wp2_with fail
  refine (P4.out _ B5.out).mono ?_; rintro e w6 ⟨vd, rfl, kd, b6⟩
  have KD6 := Lib.hid kd
  have OC6 := Lib.hid (owns_below OC5.out b6)
  have OA6 := Lib.hid (owns_below OA5.out b6)
  have KB6 := Lib.hid (KB5.out.kept b6)
  have B26 := Lib.hid (below_next b6 B25.out)
  clear kd b6 KB5 OA5 OC5 B5 B25 P4
  have S1 : Hid (Calls Try.prog 19 #[va, vb] w6 fun e w' => e = .returned (.bool true) ∧ Below w6.heap.size w6 w') := by
    have := same_any va vb pl pl w6 LA.out LA.out (krow_of_owns OA6.out) KB6.out
    rw [decide_eq_true rfl] at this; exact this
  go_wp2_with fail
  refine S1.out.mono ?_; rintro e w7 ⟨rfl, b7⟩
  have KD7 := Lib.hid (KD6.out.kept b7)
  have OC7 := Lib.hid (owns_below OC6.out b7)
  have OA7 := Lib.hid (owns_below OA6.out b7)
  have B27 := Lib.hid (below_next b7 B26.out)
  clear b7 KD6 OC6 OA6 KB6 B26 S1
  have S2 : Hid (Calls Try.prog 19 #[vc, vd] w7 fun e w' => e = .returned (.bool true) ∧ Below w7.heap.size w7 w') := by
    have := same_any vc vd dl dl w7 LC.out LC.out (krow_of_owns OC7.out) KD7.out
    rw [decide_eq_true rfl] at this; exact this
  go_wp2_with fail
  refine S2.out.mono ?_; rintro e w8 ⟨rfl, b8⟩
  have OC8 := Lib.hid (owns_below OC7.out b8)
  have OA8 := Lib.hid (owns_below OA7.out b8)
  have B28 := Lib.hid (below_next b8 B27.out)
  clear b8 KD7 OC7 OA7 B27 S2
  obtain ⟨A, ca, rfl⟩ := owned_form OA8.out
  obtain ⟨C, cc, rfl⟩ := owned_form OC8.out
  generalize hal : pl.length = al at *
  generalize hcl : dl.length = cl at *
  have hal2 : al ≤ 1048576 := LA.out
  have hcl2 : cl ≤ 1048576 := LC.out
  clear hal hcl LA LC
  go_wp2_with fail
  go_loopw [16] (fun i wr => ∃ j : Nat, j ≤ al ∧ i = .int .i64 j ∧ (∃ zs, wr.ownsRow w2.heap.size 24 3 (.slice A al ca) al zs) ∧ (∃ zs, wr.ownsRow w2.heap.size 24 3 (.slice C cl cc) cl zs) ∧ Below w2.heap.size w2 wr) (fun i _ => al - (intOf i).toNat)
  case atStart => exact ⟨0, Nat.zero_le _, rfl, ⟨_, OA8.out⟩, ⟨_, owns_mono OC8.out h24.out⟩, B28.out⟩
  case round =>
    obtain ⟨j, hj, rfl, ⟨za, hza⟩, ⟨zc, hzc⟩, hB⟩ := hrel
    have HB := Lib.hid hB
    have HZC := Lib.hid hzc
    by_cases hlt : j < al
    · have hlt' : decide (j < al) = true := decide_eq_true hlt
      have hlt2 : (j : Int) < al := by omega
      obtain ⟨g, cap, cur, hv, hbg, hg, hnc, hcm, hcs, htk⟩ := owns_parts hza (by omega)
      simp only [Value.slice.injEq, true_and] at hv
      obtain ⟨rfl, rfl⟩ := hv
      have f0 := hza.frozenAt (j * 3)
      have c0 := hza.cellAt (j * 3) (by omega)
      rw [List.getElem?_eq_getElem (by rw [hza.1]; omega)] at c0
      generalize za[j * 3]'(by rw [hza.1]; omega) = old at c0
      have HZA := Lib.hid hza
      have HBG := Lib.hid hbg
      clear hza hzc hB hbg hg hcs htk
      unfold maxLen at hcm
      go_wp2_with fail
      go_roundw
      case rel =>
        refine ⟨j + 1, hlt, by go_num, ⟨_, (HZA.out.stored (j * 3) _).1⟩, ⟨_, HZC.out.kept (grownBy_setCell _ _ _ _) ?_⟩, HB.out.setCell HBG.out _⟩
        cases C with
        | none => exact .inl rfl
        | some cad =>
          refine .inr fun e => ?_
          have := hac.out g cad.block rfl rfl
          simp [Value.ownBlock] at e
          omega
      case measure => simp [intOf]; omega
    · obtain rfl : j = al := by omega
      have hlt' : decide (j < j) = false := decide_eq_false (by omega)
      clear hza hzc hB
      go_wp2_with fail
      go_loopw [17] (fun i wr => ∃ j : Nat, j ≤ cl ∧ i = .int .i64 j ∧ (∃ zs, wr.ownsRow w2.heap.size 24 3 (.slice C cl cc) cl zs) ∧ Below w2.heap.size w2 wr) (fun i _ => cl - (intOf i).toNat)
      case atStart => exact ⟨0, Nat.zero_le _, rfl, ⟨_, HZC.out⟩, HB.out⟩
      case round =>
        obtain ⟨q, hq, rfl, ⟨zs, hzs⟩, hB2⟩ := hrel
        have HB2 := Lib.hid hB2
        by_cases hlq : q < cl
        · have hlq' : decide (q < cl) = true := decide_eq_true hlq
          have hlq2 : (q : Int) < cl := by omega
          obtain ⟨g, cap, cur, hv, hbg, hg, hnc, hcm, hcs, htk⟩ := owns_parts hzs (by omega)
          simp only [Value.slice.injEq, true_and] at hv
          obtain ⟨rfl, rfl⟩ := hv
          have f0 := hzs.frozenAt (q * 3)
          have c0 := hzs.cellAt (q * 3) (by omega)
          rw [List.getElem?_eq_getElem (by rw [hzs.1]; omega)] at c0
          generalize zs[q * 3]'(by rw [hzs.1]; omega) = old at c0
          have HZS := Lib.hid hzs
          have HBG := Lib.hid hbg
          clear hzs hB2 hbg hg hcs htk
          unfold maxLen at hcm
          go_wp2_with fail
          go_roundw
          case rel => exact ⟨q + 1, hlq, by go_num, ⟨_, (HZS.out.stored (q * 3) _).1⟩, HB2.out.setCell HBG.out _⟩
          case measure => simp [intOf]; omega
        · obtain rfl : q = cl := by omega
          have hlq' : decide (q < q) = false := decide_eq_false (by omega)
          clear hzs hB2
          go_wp2_with fail
          refine (hSame.out _ HB2.out).mono ?_; rintro e w9 ⟨rfl, b9⟩
          have B29 := Lib.hid (below_next b9 HB2.out)
          clear b9
          go_wp2_with fail
          refine (known3_any _).mono ?_; rintro e wa ⟨rfl, ba⟩
          go_wp2_with fail
          go_ret
          exact ⟨rfl, below_next ba (below_next B29.out B2.out)⟩

theorem walk (v : Value) (xs : List Key) (kp kt ki id : Int) (w : World) (w0 : KArg w v xs) (w1_0 : (Lit.int .i64 kp).wf = true) (w1_1 : (Lit.int .i64 kt).wf = true) (w1_2 : (Lit.int .u32 ki).wf = true) (w2 : (Lit.int .u32 id).wf = true) :
    Calls Try.prog 5 #[v, .agg #[.int .i64 kp, .int .i64 kt, .int .u32 ki], .int .u32 id] w fun e w' => e = .returned (.bool true) ∧ Below w.heap.size w w' := by
  obtain ⟨hk, ⟨a, c, rfl⟩, hm, hok⟩ := w0
  by_cases h : 300 < xs.length
  · exact long a xs.length c kp kt ki id w h hm
  · exact short a c xs kp kt ki id w hk hok h


set_option maxRecDepth 100000 in
theorem lifted (os : Os) (started : os.Started) (H : Type) (enc : TypeId × Value → H) :
    ReturnsInHanded {} Try.checked os 5 .any (Rows.rankPutsSpec.pre6 enc Try.prog Try.f5 Rows.rankPutsRow.domain false) (Rows.rankPutsSpec.post enc Try.prog Try.f5 false true false false) := by
  refine returnsInHanded_of_change (C := Try.checked) own started (by kernel_rfl) Try.func5
    (ChangeSpec.witness6 (enc := enc) (C := Try.checked) false ⟨#[], #[.slice none 0 0, .agg #[.int .i64 0, .int .i64 0, .int .u32 0], .int .u32 0], []⟩ 8 (by kernel_rfl) (by kernel_rfl) (by kernel_rfl) (by kernel_rfl)) ?_
  intro W base args ds gs before hval0 hW _ _
  have hval : ∀ (j : Nat) t v, Try.f5.params[j]? = some t → args[j]? = some v → Value.okWide Try.prog W .any base t v := hval0
  have hW' := hW
  obtain ⟨p, q, hA0, hV, rfl, hfz, hnd⟩ := hW
  have hA : DataW.TrodAll enc Try.prog W 0 (fun _ => true) true Try.f5.params.toList args.toList ds p := hA0
  rw [Try.params5] at hA hval
  obtain ⟨v0, vs0, d0, ds0, p0, q0, hargs, rfl, rfl, h0, r0⟩ := trodAll_cons hA
  obtain ⟨v1, vs1, d1, ds1, p1, q1, rfl, rfl, rfl, h1, r1⟩ := trodAll_cons r0
  obtain ⟨v2, vs2, d2, ds2, p2, q2, rfl, rfl, rfl, h2, r2⟩ := trodAll_cons r1
  obtain ⟨rfl, rfl, rfl⟩ := trodAll_nil r2
  obtain rfl : args = #[v0, v1, v2] := by cases args; simp_all
  obtain ⟨l, w0⟩ := open_keys_arg h0 (okWide_slice Try.underlying28 (hval 0 28 v0 rfl rfl))
  obtain ⟨cs1, rfl, hs1, hf1⟩ := open_plain_struct Try.underlying24 (by kernel_rfl) (by kernel_rfl) (hval 1 24 v1 rfl rfl) h1
  obtain ⟨c1_0, y1_0, n1_0, e1_0, t1_0⟩ := hf1 0 _ rfl
  obtain ⟨kp, rfl, w1_0⟩ := field_int Try.underlying3 t1_0
  obtain ⟨c1_1, y1_1, n1_1, e1_1, t1_1⟩ := hf1 1 _ rfl
  obtain ⟨kt, rfl, w1_1⟩ := field_int Try.underlying3 t1_1
  obtain ⟨c1_2, y1_2, n1_2, e1_2, t1_2⟩ := hf1 2 _ rfl
  obtain ⟨ki, rfl, w1_2⟩ := field_int Try.underlying22 t1_2
  obtain rfl : cs1 = #[.int .i64 kp, .int .i64 kt, .int .u32 ki] := arr_of cs1 [.int .i64 kp, .int .i64 kt, .int .u32 ki] hs1 (fun j hj => by match j, hj with | 0, _ => exact e1_0 | 1, _ => exact e1_1 | 2, _ => exact e1_2 | j + 3, hj => exact absurd hj (by simp))
  obtain ⟨id, rfl, rfl, rfl, w2⟩ := open_int Try.underlying22 (hval 2 22 v2 rfl rfl) h2
  clear hA0 hval0
  refine (walk v0 l kp kt ki id W w0 w1_0 w1_1 w1_2 w2).mono fun e W' ⟨he, hb⟩ => ?_
  subst he
  exact ⟨_, rfl, law_post (by kernel_rfl) (by kernel_rfl) rfl Try.underlying4 rfl hW' rfl hb⟩

theorem over : Rows.rankPutsRow.holds Try.pinned (OpenSpec.ofChange Rows.rankPutsSpec) :=
  OpenClaim.holds_of_wide 5 Try.f5 rfl rfl rfl rfl rfl rfl rfl ⟨rfl, rfl, rfl, rfl, rfl⟩ rfl rfl rfl rfl rfl (by kernel_rfl) Try.func5 (by kernel_rfl)
    (of_decide_eq_true (by kernel_rfl)) (by unfold Func.isWrapper; first | (rw [if_pos (by decide +kernel)]; kernel_rfl) | (rw [if_neg (by decide +kernel)]; exact ⟨rfl, rfl⟩))
    (fun os started H enc _ => lifted os started H enc)

theorem proved : Rows.RankPutsSaid :=
  over
#print axioms proved
end Go.Proofs.Ytpgiladbljnpcaa.rankPuts
