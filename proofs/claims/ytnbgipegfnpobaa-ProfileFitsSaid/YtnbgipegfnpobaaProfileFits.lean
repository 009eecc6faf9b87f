/-
  ProfileFits: of any profile the least tick from which on enough are free: as gangerref05 says: so the law returns true for every input.
-/
import Derived.Test.YtnbgipegfnpobaaLvT
import Derived.Test.YtnbgipegfnpobaaLvS
import Derived.Test.YtnbgipegfnpobaaPrL
import Derived.Test.YtnbgipegfnpobaaRows
import Derived.Test.YtnbgipegfnpobaaArgs2
namespace Go.Proofs.Ytnbgipegfnpobaa.profileFits
open Go.ChangeShapes Go.WideShapes Go.ChangeAt Go.RowKit
set_option linter.unusedVariables false

theorem own : ownKnob Try.prog.godebug = none := by kernel_rfl

open Go Go.ChangeShapes Go.WideShapes Go.ChangeAt Go.RowKit Go.Lib
theorem long (a : Option Addr) (N c : Nat) (f length n : Int) (w : World) (h : 100 < N) :
    Calls Try.prog 4 #[.slice a N c, .int .i64 f, .int .i64 length, .int .i64 n] w fun e w' => e = .returned (.bool true) ∧ Below w.heap.size w w' := by
  have HM := Lib.hid (many_yes a none N c 0 0 w (.inl h))
  have K : Hid (∀ w1, Calls Try.prog 12 #[] w1 fun e w' => e = .returned (.bool true) ∧ Below w1.heap.size w1 w') := known5_any
  clear h
  go_enter Try.func4, Try.ntmps4
  go_wp2_with fail
  refine HM.out.mono ?_; rintro e w1 ⟨rfl, hw⟩; subst hw
  go_wp2_with fail
  refine (K.out _).mono ?_; rintro e w2 ⟨rfl, b2⟩
  go_wp2_with fail
  go_ret
  exact ⟨rfl, b2⟩

set_option maxRecDepth 100000 in
set_option maxHeartbeats 4000000 in
theorem short (a : Option Addr) (c : Nat) (xs : List Lv) (f length n : Int) (w : World) (hk : LRow w (.slice a xs.length c) xs) (hok : ∀ x ∈ xs, LevOk x) (h : xs.length ≤ 100) (bf : -9223372036854775808 ≤ f ∧ f ≤ 9223372036854775807) (blength : -9223372036854775808 ≤ length ∧ length ≤ 9223372036854775807) :
    Calls Try.prog 4 #[.slice a xs.length c, .int .i64 f, .int .i64 length, .int .i64 n] w fun e w' => e = .returned (.bool true) ∧ Below w.heap.size w w' := by
  have HM := Lib.hid (many_few a none xs.length c 0 0 w h (by omega))
  have K : Hid (∀ w1, Calls Try.prog 12 #[] w1 fun e w' => e = .returned (.bool true) ∧ Below w1.heap.size w1 w') := known5_any
  have F1 : Hid (Calls Try.prog 23 #[.slice a xs.length c, .int .i64 f, .int .i64 length, .int .i64 n] w fun e w' => e = .returned (.tuple #[.int .i64 (fitV xs f length n).1, .int .i64 (fitV xs f length n).2]) ∧ Below w.heap.size w w') := fit_any _ xs f length n w (by omega) hk
  have F2 : Hid (∀ w1, Below w.heap.size w w1 → Calls Try.prog 24 #[.slice a xs.length c, .int .i64 f, .int .i64 length, .int .i64 n] w1 fun e w' => e = .returned (.tuple #[.int .i64 (fitV xs f length n).1, .int .i64 (fitV xs f length n).2]) ∧ Below w1.heap.size w1 w') := fun w1 hb => refFit_any _ xs f length n w1 (by omega) (hk.kept hb) bf.2 blength.2
  clear hk hok bf blength h
  generalize fitV xs f length n = fv at *
  obtain ⟨n1, n2⟩ := fv
  dsimp only at F1 F2
  have e1 : (n1 == n1) = true := by simp
  have e2 : (n2 == n2) = true := by simp
  go_enter Try.func4, Try.ntmps4
  go_wp2_with fail
  refine HM.out.mono ?_; rintro e w0 ⟨rfl, hw⟩; subst hw
  go_wp2_with fail
  refine F1.out.mono ?_; rintro e w1 ⟨rfl, b1⟩
  have B1 := Lib.hid b1
  clear b1 F1
  go_wp2_with fail
  refine (F2.out _ B1.out).mono ?_; rintro e w2 ⟨rfl, b2⟩
  have B2 := Lib.hid (below_next b2 B1.out)
  clear b2 B1 F2
  go_wp2_with fail
  refine (K.out _).mono ?_; rintro e w3 ⟨rfl, b3⟩
  have B3 := Lib.hid (below_next b3 B2.out)
  clear b3 B2
  go_wp2_with fail
  go_ret
  exact ⟨rfl, B3.out⟩

theorem walk (v : Value) (xs : List Lv) (f length n : Int) (w : World) (w0 : LArg w v xs) (w1 : (Lit.int .i64 f).wf = true) (w2 : (Lit.int .i64 length).wf = true) (w3 : (Lit.int .i64 n).wf = true) :
    Calls Try.prog 4 #[v, .int .i64 f, .int .i64 length, .int .i64 n] w fun e w' => e = .returned (.bool true) ∧ Below w.heap.size w w' := by
  obtain ⟨hk, ⟨a, c, rfl⟩, hm, hok⟩ := w0
  by_cases h : 100 < xs.length
  · exact long a xs.length c f length n w h
  · exact short a c xs f length n w hk hok (by omega) (wf_i64' w1) (wf_i64' w2)


set_option maxRecDepth 100000 in
theorem lifted (os : Os) (started : os.Started) (H : Type) (enc : TypeId × Value → H) :
    ReturnsInHanded {} Try.checked os 4 .any (Rows.profileFitsSpec.pre6 enc Try.prog Try.f4 Rows.profileFitsRow.domain false) (Rows.profileFitsSpec.post enc Try.prog Try.f4 false true false false) := by
  refine returnsInHanded_of_change (C := Try.checked) own started (by kernel_rfl) Try.func4
    (ChangeSpec.witness6 (enc := enc) (C := Try.checked) false ⟨#[], #[.slice none 0 0, .int .i64 0, .int .i64 0, .int .i64 0], []⟩ 8 (by kernel_rfl) (by kernel_rfl) (by kernel_rfl) (by kernel_rfl)) ?_
  intro W base args ds gs before hval0 hW _ _
  have hval : ∀ (j : Nat) t v, Try.f4.params[j]? = some t → args[j]? = some v → Value.okWide Try.prog W .any base t v := hval0
  have hW' := hW
  obtain ⟨p, q, hA0, hV, rfl, hfz, hnd⟩ := hW
  have hA : DataW.TrodAll enc Try.prog W 0 (fun _ => true) true Try.f4.params.toList args.toList ds p := hA0
  rw [Try.params4] at hA hval
  obtain ⟨v0, vs0, d0, ds0, p0, q0, hargs, rfl, rfl, h0, r0⟩ := trodAll_cons hA
  obtain ⟨v1, vs1, d1, ds1, p1, q1, rfl, rfl, rfl, h1, r1⟩ := trodAll_cons r0
  obtain ⟨v2, vs2, d2, ds2, p2, q2, rfl, rfl, rfl, h2, r2⟩ := trodAll_cons r1
  obtain ⟨v3, vs3, d3, ds3, p3, q3, rfl, rfl, rfl, h3, r3⟩ := trodAll_cons r2
  obtain ⟨rfl, rfl, rfl⟩ := trodAll_nil r3
  obtain rfl : args = #[v0, v1, v2, v3] := by cases args; simp_all
  obtain ⟨p, w0⟩ := open_levels_arg h0 (okWide_slice Try.underlying22 (hval 0 22 v0 rfl rfl))
  obtain ⟨f, rfl, rfl, rfl, w1⟩ := open_int Try.underlying3 (hval 1 3 v1 rfl rfl) h1
  obtain ⟨length, rfl, rfl, rfl, w2⟩ := open_int Try.underlying3 (hval 2 3 v2 rfl rfl) h2
  obtain ⟨n, rfl, rfl, rfl, w3⟩ := open_int Try.underlying3 (hval 3 3 v3 rfl rfl) h3
  clear hA0 hval0
  refine (walk v0 p f length n W w0 w1 w2 w3).mono fun e W' ⟨he, hb⟩ => ?_
  subst he
  exact ⟨_, rfl, law_post (by kernel_rfl) (by kernel_rfl) rfl Try.underlying4 rfl hW' rfl hb⟩

theorem over : Rows.profileFitsRow.holds Try.pinned (OpenSpec.ofChange Rows.profileFitsSpec) :=
  OpenClaim.holds_of_wide 4 Try.f4 rfl rfl rfl rfl rfl rfl rfl ⟨rfl, rfl, rfl, rfl, rfl⟩ rfl rfl rfl rfl rfl (by kernel_rfl) Try.func4 (by kernel_rfl)
    (of_decide_eq_true (by kernel_rfl)) (by unfold Func.isWrapper; first | (rw [if_pos (by decide +kernel)]; kernel_rfl) | (rw [if_neg (by decide +kernel)]; exact ⟨rfl, rfl⟩))
    (fun os started H enc _ => lifted os started H enc)

theorem proved : Rows.ProfileFitsSaid :=
  over
#print axioms proved
end Go.Proofs.Ytnbgipegfnpobaa.profileFits
