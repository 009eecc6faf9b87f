/-
  ProfileChanges: any profile of which more or fewer are free at some ticks: as gangerref05 says; it stays, what comes out is its owner's: so the law returns true for every input.
-/
import Derived.Test.YtnbgipegfnpobaaLvT
import Derived.Test.YtnbgipegfnpobaaLvS
import Derived.Test.YtnbgipegfnpobaaPrL
import Derived.Test.YtnbgipegfnpobaaRows
import Derived.Test.YtnbgipegfnpobaaArgs2
namespace Go.Proofs.Ytnbgipegfnpobaa.profileChanges
open Go.ChangeShapes Go.WideShapes Go.ChangeAt Go.RowKit
set_option linter.unusedVariables false

theorem own : ownKnob Try.prog.godebug = none := by kernel_rfl

open Go Go.ChangeShapes Go.WideShapes Go.ChangeAt Go.RowKit Go.Lib
theorem long (a : Option Addr) (N c : Nat) (f length n : Int) (w : World) (h : 100 < N) :
    Calls Try.prog 5 #[.slice a N c, .int .i64 f, .int .i64 length, .int .i64 n] w fun e w' => e = .returned (.bool true) ∧ Below w.heap.size w w' := by
  have HM := Lib.hid (many_yes a none N c 0 0 w (.inl h))
  have K : Hid (∀ w1, Calls Try.prog 12 #[] w1 fun e w' => e = .returned (.bool true) ∧ Below w1.heap.size w1 w') := known5_any
  clear h
  go_enter Try.func5, Try.ntmps5
  go_wp2_with fail
  refine HM.out.mono ?_; rintro e w1 ⟨rfl, hw⟩; subst hw
  go_wp2_with fail
  refine (K.out _).mono ?_; rintro e w2 ⟨rfl, b2⟩
  go_wp2_with fail
  go_ret
  exact ⟨rfl, b2⟩

set_option maxRecDepth 100000 in
set_option maxHeartbeats 4000000 in
theorem short (a : Option Addr) (c : Nat) (xs : List Lv) (f length n : Int) (w : World) (hk : LRow w (.slice a xs.length c) xs) (hok : ∀ x ∈ xs, LevOk x) (h : xs.length ≤ 100) :
    Calls Try.prog 5 #[.slice a xs.length c, .int .i64 f, .int .i64 length, .int .i64 n] w fun e w' => e = .returned (.bool true) ∧ Below w.heap.size w w' := by
  have HM := Lib.hid (many_few a none xs.length c 0 0 w h (by omega))
  have K : Hid (∀ w1, Calls Try.prog 12 #[] w1 fun e w' => e = .returned (.bool true) ∧ Below w1.heap.size w1 w') := known5_any
  have HC : Hid (Calls Try.prog 13 #[.slice a xs.length c] w fun e w' => ∃ v', e = .returned v' ∧ LOwn w' w.heap.size v' xs ∧ Below w.heap.size w w') := copied_any _ xs w (by omega) hk
  have F1 : Hid (∀ v w1, LRow w1 v xs → Calls Try.prog 25 #[v, .int .i64 f, .int .i64 length, .int .i64 n] w1 fun e w' => ∃ v', e = .returned (.tuple #[v', .int .i64 (changeV xs f length n).2]) ∧ LOwn w' w1.heap.size v' (changeV xs f length n).1 ∧ Below w1.heap.size w1 w') := fun v w1 h1 => change_any v xs f length n w1 (by omega) h1
  have F2 : Hid (∀ v w1, LRow w1 v xs → Calls Try.prog 26 #[v, .int .i64 f, .int .i64 length, .int .i64 n] w1 fun e w' => ∃ v', e = .returned (.tuple #[v', .int .i64 (changeV xs f length n).2]) ∧ LOwn w' w1.heap.size v' (changeV xs f length n).1 ∧ Below w1.heap.size w1 w') := fun v w1 h1 => refChange_any v xs f length n w1 (by omega) h1
  have SA : Hid (∀ (zs : List Lv) v v' w1, zs.length ≤ 1048576 → LRow w1 v zs → LRow w1 v' zs → Calls Try.prog 22 #[v, v'] w1 fun e w' => e = .returned (.bool true) ∧ Below w1.heap.size w1 w') := fun zs v v' w1 h0 h1 h2 => by
    have := same_any v v' zs zs w1 h0 h0 h1 h2
    rwa [decide_eq_true rfl] at this
  have HL : Hid ((changeV xs f length n).1.length ≤ 1048576) := by have := changeV_len xs f length n; unfold Hid; omega
  have HX : Hid (xs.length ≤ 1048576) := by unfold Hid; omega
  have HK := Lib.hid hk
  clear hk hok h
  generalize changeV xs f length n = cv at *
  obtain ⟨n1, n2⟩ := cv
  dsimp only at F1 F2 HL
  have e1 : (n2 != n2) = false := by simp
  go_enter Try.func5, Try.ntmps5
  go_wp2_with fail
  refine HM.out.mono ?_; rintro e w0 ⟨rfl, hw⟩; subst hw
  go_wp2_with fail
  refine HC.out.mono ?_; rintro e w1 ⟨x, rfl, ox, b1⟩
  have X1 := Lib.hid (lrow_of_owns ox)
  have B1 := Lib.hid b1
  clear ox b1 HC
  go_wp2_with fail
  refine (F1.out _ _ X1.out).mono ?_; rintro e w2 ⟨y, rfl, oy, b2⟩
  have Y2 := Lib.hid oy
  have S2 := Lib.hid b2
  have B2 := Lib.hid (below_next b2 B1.out)
  clear b2 oy F1
  go_wp2_with fail
  refine (F2.out _ _ (HK.out.kept B2.out)).mono ?_; rintro e w3 ⟨z, rfl, oz, b3⟩
  have Z3 := Lib.hid (lrow_of_owns oz)
  have Y3 := Lib.hid (owns_older Y2.out b3)
  have S3 := Lib.hid (below_next b3 S2.out)
  have B3 := Lib.hid (below_next b3 B2.out)
  clear b3 oz F2 Y2 S2 B2
  go_wp2_with fail
  refine (SA.out n1 _ _ _ HL.out (lrow_of_owns Y3.out) Z3.out).mono ?_; rintro e w4 ⟨rfl, b4⟩
  have Y4 := Lib.hid (owns_older Y3.out b4)
  have S4 := Lib.hid (below_next b4 S3.out)
  have B4 := Lib.hid (below_next b4 B3.out)
  clear b4 Z3 Y3 S3 B3
  go_wp2_with fail
  refine (spoilt_any _ _ n1 _ HL.out Y4.out).mono ?_; rintro e w5 ⟨rfl, b5⟩
  have X5 := Lib.hid (X1.out.kept (S4.out.trans b5))
  have B5 := Lib.hid (B4.out.trans (b5.mono B1.out.size))
  clear b5 Y4 S4 B4
  go_wp2_with fail
  refine (SA.out xs _ _ _ HX.out X5.out (HK.out.kept B5.out)).mono ?_; rintro e wb ⟨rfl, bb⟩
  have BB := Lib.hid (below_next bb B5.out)
  clear bb B5 X5
  go_wp2_with fail
  refine (K.out _).mono ?_; rintro e wc ⟨rfl, bc⟩
  have BC := Lib.hid (below_next bc BB.out)
  clear bc BB
  go_wp2_with fail
  go_ret
  exact ⟨rfl, BC.out⟩

theorem walk (v : Value) (xs : List Lv) (f length n : Int) (w : World) (w0 : LArg w v xs) (w1 : (Lit.int .i64 f).wf = true) (w2 : (Lit.int .i64 length).wf = true) (w3 : (Lit.int .i64 n).wf = true) :
    Calls Try.prog 5 #[v, .int .i64 f, .int .i64 length, .int .i64 n] w fun e w' => e = .returned (.bool true) ∧ Below w.heap.size w w' := by
  obtain ⟨hk, ⟨a, c, rfl⟩, hm, hok⟩ := w0
  by_cases h : 100 < xs.length
  · exact long a xs.length c f length n w h
  · exact short a c xs f length n w hk hok (by omega) 


set_option maxRecDepth 100000 in
theorem lifted (os : Os) (started : os.Started) (H : Type) (enc : TypeId × Value → H) :
    ReturnsInHanded {} Try.checked os 5 .any (Rows.profileChangesSpec.pre6 enc Try.prog Try.f5 Rows.profileChangesRow.domain false) (Rows.profileChangesSpec.post enc Try.prog Try.f5 false true false false) := by
  refine returnsInHanded_of_change (C := Try.checked) own started (by kernel_rfl) Try.func5
    (ChangeSpec.witness6 (enc := enc) (C := Try.checked) false ⟨#[], #[.slice none 0 0, .int .i64 0, .int .i64 0, .int .i64 0], []⟩ 8 (by kernel_rfl) (by kernel_rfl) (by kernel_rfl) (by kernel_rfl)) ?_
  intro W base args ds gs before hval0 hW _ _
  have hval : ∀ (j : Nat) t v, Try.f5.params[j]? = some t → args[j]? = some v → Value.okWide Try.prog W .any base t v := hval0
  have hW' := hW
  obtain ⟨p, q, hA0, hV, rfl, hfz, hnd⟩ := hW
  have hA : DataW.TrodAll enc Try.prog W 0 (fun _ => true) true Try.f5.params.toList args.toList ds p := hA0
  rw [Try.params5] at hA hval
  obtain ⟨v0, vs0, d0, ds0, p0, q0, hargs, rfl, rfl, h0, r0⟩ := trodAll_cons hA
  obtain ⟨v1, vs1, d1, ds1, p1, q1, rfl, rfl, rfl, h1, r1⟩ := trodAll_cons r0
  obtain ⟨v2, vs2, d2, ds2, p2, q2, rfl, rfl, rfl, h2, r2⟩ := trodAll_cons r1
  obtain ⟨v3, vs3, d3, ds3, p3, q3, rfl, rfl, rfl, h3, r3⟩ := trodAll_cons r2
  obtain ⟨rfl, rfl, rfl⟩ := trodAll_nil r3
  obtain rfl : args = #[v0, v1, v2, v3] := by cases args; simp_all
  obtain ⟨p, w0⟩ := open_levels_arg h0 (okWide_slice Try.underlying22 (hval 0 22 v0 rfl rfl))
  obtain ⟨f, rfl, rfl, rfl, w1⟩ := open_int Try.underlying3 (hval 1 3 v1 rfl rfl) h1
  obtain ⟨length, rfl, rfl, rfl, w2⟩ := open_int Try.underlying3 (hval 2 3 v2 rfl rfl) h2
  obtain ⟨n, rfl, rfl, rfl, w3⟩ := open_int Try.underlying3 (hval 3 3 v3 rfl rfl) h3
  clear hA0 hval0
  refine (walk v0 p f length n W w0 w1 w2 w3).mono fun e W' ⟨he, hb⟩ => ?_
  subst he
  exact ⟨_, rfl, law_post (by kernel_rfl) (by kernel_rfl) rfl Try.underlying4 rfl hW' rfl hb⟩

theorem over : Rows.profileChangesRow.holds Try.pinned (OpenSpec.ofChange Rows.profileChangesSpec) :=
  OpenClaim.holds_of_wide 5 Try.f5 rfl rfl rfl rfl rfl rfl rfl ⟨rfl, rfl, rfl, rfl, rfl⟩ rfl rfl rfl rfl rfl (by kernel_rfl) Try.func5 (by kernel_rfl)
    (of_decide_eq_true (by kernel_rfl)) (by unfold Func.isWrapper; first | (rw [if_pos (by decide +kernel)]; kernel_rfl) | (rw [if_neg (by decide +kernel)]; exact ⟨rfl, rfl⟩))
    (fun os started H enc _ => lifted os started H enc)

theorem proved : Rows.ProfileChangesSaid :=
  over
#print axioms proved
end Go.Proofs.Ytnbgipegfnpobaa.profileChanges
