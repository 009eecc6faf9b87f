/-
  ProfileTells: of any levels whether they are a profile, what is free at any tick, the least at any ticks: as gangerref05 says; they stay: so the law returns true for every input.
-/
import Derived.Test.YtnbgipegfnpobaaLvT
import Derived.Test.YtnbgipegfnpobaaLvS
import Derived.Test.YtnbgipegfnpobaaPrL
import Derived.Test.YtnbgipegfnpobaaRows
import Derived.Test.YtnbgipegfnpobaaArgs2
namespace Go.Proofs.Ytnbgipegfnpobaa.profileTells
open Go.ChangeShapes Go.WideShapes Go.ChangeAt Go.RowKit
set_option linter.unusedVariables false

theorem own : ownKnob Try.prog.godebug = none := by kernel_rfl

open Go Go.ChangeShapes Go.WideShapes Go.ChangeAt Go.RowKit Go.Lib
theorem long (a : Option Addr) (N c : Nat) (t length : Int) (w : World) (h : 100 < N) :
    Calls Try.prog 3 #[.slice a N c, .int .i64 t, .int .i64 length] w fun e w' => e = .returned (.bool true) ∧ Below w.heap.size w w' := by
  have HM := Lib.hid (many_yes a none N c 0 0 w (.inl h))
  have K : Hid (∀ w1, Calls Try.prog 12 #[] w1 fun e w' => e = .returned (.bool true) ∧ Below w1.heap.size w1 w') := known5_any
  clear h
  go_enter Try.func3, Try.ntmps3
  go_wp2_with fail
  refine HM.out.mono ?_; rintro e w1 ⟨rfl, hw⟩; subst hw
  go_wp2_with fail
  refine (K.out _).mono ?_; rintro e w2 ⟨rfl, b2⟩
  go_wp2_with fail
  go_ret
  exact ⟨rfl, b2⟩

set_option maxRecDepth 100000 in
set_option maxHeartbeats 4000000 in
theorem short (a : Option Addr) (c : Nat) (xs : List Lv) (t length : Int) (w : World) (hk : LRow w (.slice a xs.length c) xs) (hok : ∀ x ∈ xs, LevOk x) (h : xs.length ≤ 100) (bt : -9223372036854775808 ≤ t ∧ t ≤ 9223372036854775807) (blength : -9223372036854775808 ≤ length ∧ length ≤ 9223372036854775807) :
    Calls Try.prog 3 #[.slice a xs.length c, .int .i64 t, .int .i64 length] w fun e w' => e = .returned (.bool true) ∧ Below w.heap.size w w' := by
  have HM := Lib.hid (many_few a none xs.length c 0 0 w h (by omega))
  have K : Hid (∀ w1, Calls Try.prog 12 #[] w1 fun e w' => e = .returned (.bool true) ∧ Below w1.heap.size w1 w') := known5_any
  have HC : Hid (Calls Try.prog 13 #[.slice a xs.length c] w fun e w' => ∃ v', e = .returned v' ∧ LOwn w' w.heap.size v' xs ∧ Below w.heap.size w w') := copied_any _ xs w (by omega) hk
  have C1 : Hid (∀ v w1, LRow w1 v xs → Calls Try.prog 14 #[v] w1 fun e w' => e = .returned (.int .i64 (checkV xs)) ∧ Below w1.heap.size w1 w') := fun v w1 h1 => check_any v xs w1 (by omega) h1
  have C2 : Hid (∀ v w1, LRow w1 v xs → Calls Try.prog 19 #[v] w1 fun e w' => e = .returned (.int .i64 (checkV xs)) ∧ Below w1.heap.size w1 w') := fun v w1 h1 => refCheck_any v xs w1 (by omega) h1
  have A1 : Hid (∀ v w1, LRow w1 v xs → Calls Try.prog 15 #[v, .int .i64 t] w1 fun e w' => e = .returned (.int .i64 (atV xs t)) ∧ Below w1.heap.size w1 w') := fun v w1 h1 => at_any v xs t w1 (by omega) h1
  have A2 : Hid (∀ v w1, LRow w1 v xs → Calls Try.prog 20 #[v, .int .i64 t] w1 fun e w' => e = .returned (.int .i64 (atV xs t)) ∧ Below w1.heap.size w1 w') := fun v w1 h1 => refAt_any v xs t w1 (by omega) h1
  have L1 : Hid (∀ v w1, LRow w1 v xs → Calls Try.prog 16 #[v, .int .i64 t, .int .i64 length] w1 fun e w' => e = .returned (.int .i64 (leastV xs t length)) ∧ Below w1.heap.size w1 w') := fun v w1 h1 => least_any v xs t length w1 (by omega) h1 bt.1 bt.2 blength.2
  have L2 : Hid (∀ v w1, LRow w1 v xs → Calls Try.prog 21 #[v, .int .i64 t, .int .i64 length] w1 fun e w' => e = .returned (.int .i64 (leastV xs t length)) ∧ Below w1.heap.size w1 w') := fun v w1 h1 => refLeast_any v xs t length w1 (by omega) h1 bt.1 bt.2 blength.2
  have N1 : Hid (∀ w1, Calls Try.prog 17 #[.int .i64 t, .int .i64 length] w1 fun e w' => ∃ v, e = .returned (.tuple #[v, .int .i64 (newV t length).2]) ∧ LRow w' v (newV t length).1 ∧ Below w1.heap.size w1 w') := fun w1 => new_any t length w1
  have N2 : Hid (∀ w1, Calls Try.prog 18 #[.int .i64 t, .int .i64 length] w1 fun e w' => ∃ v, e = .returned (.tuple #[v, .int .i64 (newV t length).2]) ∧ LRow w' v (newV t length).1 ∧ Below w1.heap.size w1 w') := fun w1 => refNew_any t length w1
  have hnl : (newV t length).1.length ≤ 1048576 := by unfold newV; split <;> simp
  have SA : Hid (∀ (zs : List Lv) v v' w1, zs.length ≤ 1048576 → LRow w1 v zs → LRow w1 v' zs → Calls Try.prog 22 #[v, v'] w1 fun e w' => e = .returned (.bool true) ∧ Below w1.heap.size w1 w') := fun zs v v' w1 h0 h1 h2 => by
    have := same_any v v' zs zs w1 h0 h0 h1 h2
    rwa [decide_eq_true rfl] at this
  have HL := Lib.hid hnl
  have HX : Hid (xs.length ≤ 1048576) := by unfold Hid; omega
  have HK := Lib.hid hk
  clear hk hok bt blength hnl h
  generalize newV t length = nv at *
  generalize checkV xs = cv at *
  generalize atV xs t = av at *
  generalize leastV xs t length = lv' at *
  obtain ⟨n1, n2⟩ := nv
  dsimp only at N1 N2 HL
  have e1 : (cv == cv) = true := by simp
  have e2 : (av == av) = true := by simp
  have e3 : (lv' == lv') = true := by simp
  have e4 : (n2 == n2) = true := by simp
  go_enter Try.func3, Try.ntmps3
  go_wp2_with fail
  refine HM.out.mono ?_; rintro e w0 ⟨rfl, hw⟩; subst hw
  go_wp2_with fail
  refine HC.out.mono ?_; rintro e w1 ⟨x, rfl, ox, b1⟩
  have X1 := Lib.hid (lrow_of_owns ox)
  have B1 := Lib.hid b1
  clear ox b1 HC
  go_wp2_with fail
  refine (C1.out _ _ X1.out).mono ?_; rintro e w2 ⟨rfl, b2⟩
  have X2 := Lib.hid (X1.out.kept b2)
  have B2 := Lib.hid (below_next b2 B1.out)
  clear b2 B1 X1 C1
  go_wp2_with fail
  refine (A1.out _ _ X2.out).mono ?_; rintro e w3 ⟨rfl, b3⟩
  have X3 := Lib.hid (X2.out.kept b3)
  have B3 := Lib.hid (below_next b3 B2.out)
  clear b3 B2 X2 A1
  go_wp2_with fail
  refine (L1.out _ _ X3.out).mono ?_; rintro e w4 ⟨rfl, b4⟩
  have X4 := Lib.hid (X3.out.kept b4)
  have B4 := Lib.hid (below_next b4 B3.out)
  clear b4 B3 X3 L1
  go_wp2_with fail
  refine (N1.out _).mono ?_; rintro e w5 ⟨q, rfl, rq, b5⟩
  have Q5 := Lib.hid rq
  have X5 := Lib.hid (X4.out.kept b5)
  have B5 := Lib.hid (below_next b5 B4.out)
  clear b5 B4 X4 N1 rq
  go_wp2_with fail
  refine (N2.out _).mono ?_; rintro e w6 ⟨r, rfl, rr, b6⟩
  have R6 := Lib.hid rr
  have Q6 := Lib.hid (Q5.out.kept b6)
  have X6 := Lib.hid (X5.out.kept b6)
  have B6 := Lib.hid (below_next b6 B5.out)
  clear b6 B5 X5 Q5 N2 rr
  go_wp2_with fail
  refine (C2.out _ _ (HK.out.kept B6.out)).mono ?_; rintro e w7 ⟨rfl, b7⟩
  have R7 := Lib.hid (R6.out.kept b7)
  have Q7 := Lib.hid (Q6.out.kept b7)
  have X7 := Lib.hid (X6.out.kept b7)
  have B7 := Lib.hid (below_next b7 B6.out)
  clear b7 B6 X6 Q6 R6 C2
  go_wp2_with fail
  refine (A2.out _ _ (HK.out.kept B7.out)).mono ?_; rintro e w8 ⟨rfl, b8⟩
  have R8 := Lib.hid (R7.out.kept b8)
  have Q8 := Lib.hid (Q7.out.kept b8)
  have X8 := Lib.hid (X7.out.kept b8)
  have B8 := Lib.hid (below_next b8 B7.out)
  clear b8 B7 X7 Q7 R7 A2
  go_wp2_with fail
  refine (L2.out _ _ (HK.out.kept B8.out)).mono ?_; rintro e w9 ⟨rfl, b9⟩
  have R9 := Lib.hid (R8.out.kept b9)
  have Q9 := Lib.hid (Q8.out.kept b9)
  have X9 := Lib.hid (X8.out.kept b9)
  have B9 := Lib.hid (below_next b9 B8.out)
  clear b9 B8 X8 Q8 R8 L2
  go_wp2_with fail
  refine (SA.out n1 _ _ _ HL.out Q9.out R9.out).mono ?_; rintro e wa ⟨rfl, ba⟩
  have XA := Lib.hid (X9.out.kept ba)
  have BA := Lib.hid (below_next ba B9.out)
  clear ba B9 X9 Q9 R9
  go_wp2_with fail
  refine (SA.out xs _ _ _ HX.out XA.out (HK.out.kept BA.out)).mono ?_; rintro e wb ⟨rfl, bb⟩
  have BB := Lib.hid (below_next bb BA.out)
  clear bb BA XA
  go_wp2_with fail
  refine (K.out _).mono ?_; rintro e wc ⟨rfl, bc⟩
  have BC := Lib.hid (below_next bc BB.out)
  clear bc BB
  go_wp2_with fail
  go_ret
  exact ⟨rfl, BC.out⟩

theorem walk (v : Value) (xs : List Lv) (t length : Int) (w : World) (w0 : LArg w v xs) (w1 : (Lit.int .i64 t).wf = true) (w2 : (Lit.int .i64 length).wf = true) :
    Calls Try.prog 3 #[v, .int .i64 t, .int .i64 length] w fun e w' => e = .returned (.bool true) ∧ Below w.heap.size w w' := by
  obtain ⟨hk, ⟨a, c, rfl⟩, hm, hok⟩ := w0
  by_cases h : 100 < xs.length
  · exact long a xs.length c t length w h
  · exact short a c xs t length w hk hok (by omega) (wf_i64' w1) (wf_i64' w2)


set_option maxRecDepth 100000 in
theorem lifted (os : Os) (started : os.Started) (H : Type) (enc : TypeId × Value → H) :
    ReturnsInHanded {} Try.checked os 3 .any (Rows.profileTellsSpec.pre6 enc Try.prog Try.f3 Rows.profileTellsRow.domain false) (Rows.profileTellsSpec.post enc Try.prog Try.f3 false true false false) := by
  refine returnsInHanded_of_change (C := Try.checked) own started (by kernel_rfl) Try.func3
    (ChangeSpec.witness6 (enc := enc) (C := Try.checked) false ⟨#[], #[.slice none 0 0, .int .i64 0, .int .i64 0], []⟩ 8 (by kernel_rfl) (by kernel_rfl) (by kernel_rfl) (by kernel_rfl)) ?_
  intro W base args ds gs before hval0 hW _ _
  have hval : ∀ (j : Nat) t v, Try.f3.params[j]? = some t → args[j]? = some v → Value.okWide Try.prog W .any base t v := hval0
  have hW' := hW
  obtain ⟨p, q, hA0, hV, rfl, hfz, hnd⟩ := hW
  have hA : DataW.TrodAll enc Try.prog W 0 (fun _ => true) true Try.f3.params.toList args.toList ds p := hA0
  rw [Try.params3] at hA hval
  obtain ⟨v0, vs0, d0, ds0, p0, q0, hargs, rfl, rfl, h0, r0⟩ := trodAll_cons hA
  obtain ⟨v1, vs1, d1, ds1, p1, q1, rfl, rfl, rfl, h1, r1⟩ := trodAll_cons r0
  obtain ⟨v2, vs2, d2, ds2, p2, q2, rfl, rfl, rfl, h2, r2⟩ := trodAll_cons r1
  obtain ⟨rfl, rfl, rfl⟩ := trodAll_nil r2
  obtain rfl : args = #[v0, v1, v2] := by cases args; simp_all
  obtain ⟨p, w0⟩ := open_levels_arg h0 (okWide_slice Try.underlying22 (hval 0 22 v0 rfl rfl))
  obtain ⟨t, rfl, rfl, rfl, w1⟩ := open_int Try.underlying3 (hval 1 3 v1 rfl rfl) h1
  obtain ⟨length, rfl, rfl, rfl, w2⟩ := open_int Try.underlying3 (hval 2 3 v2 rfl rfl) h2
  clear hA0 hval0
  refine (walk v0 p t length W w0 w1 w2).mono fun e W' ⟨he, hb⟩ => ?_
  subst he
  exact ⟨_, rfl, law_post (by kernel_rfl) (by kernel_rfl) rfl Try.underlying4 rfl hW' rfl hb⟩

theorem over : Rows.profileTellsRow.holds Try.pinned (OpenSpec.ofChange Rows.profileTellsSpec) :=
  OpenClaim.holds_of_wide 3 Try.f3 rfl rfl rfl rfl rfl rfl rfl ⟨rfl, rfl, rfl, rfl, rfl⟩ rfl rfl rfl rfl rfl (by kernel_rfl) Try.func3 (by kernel_rfl)
    (of_decide_eq_true (by kernel_rfl)) (by unfold Func.isWrapper; first | (rw [if_pos (by decide +kernel)]; kernel_rfl) | (rw [if_neg (by decide +kernel)]; exact ⟨rfl, rfl⟩))
    (fun os started H enc _ => lifted os started H enc)

theorem proved : Rows.ProfileTellsSaid :=
  over
#print axioms proved
end Go.Proofs.Ytnbgipegfnpobaa.profileTells
