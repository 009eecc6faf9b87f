/-
  ProfileMeets: of any two profiles the lesser one: as gangerref05 says, whichever comes first: so the law returns true for every input.
-/
import Derived.Test.YtnbgipegfnpobaaLvT
import Derived.Test.YtnbgipegfnpobaaLvS
import Derived.Test.YtnbgipegfnpobaaPrL
import Derived.Test.YtnbgipegfnpobaaRows
import Derived.Test.YtnbgipegfnpobaaArgs2
namespace Go.Proofs.Ytnbgipegfnpobaa.profileMeets
open Go.ChangeShapes Go.WideShapes Go.ChangeAt Go.RowKit
set_option linter.unusedVariables false

theorem own : ownKnob Try.prog.godebug = none := by kernel_rfl

open Go Go.ChangeShapes Go.WideShapes Go.ChangeAt Go.RowKit Go.Lib
theorem long (a a' : Option Addr) (N c N' c' : Nat) (t : Int) (w : World) (h : 100 < N ∨ 100 < N') :
    Calls Try.prog 7 #[.slice a N c, .slice a' N' c', .int .i64 t] w fun e w' => e = .returned (.bool true) ∧ Below w.heap.size w w' := by
  have HM := Lib.hid (many_yes a a' N c N' c' w h)
  have K : Hid (∀ w1, Calls Try.prog 12 #[] w1 fun e w' => e = .returned (.bool true) ∧ Below w1.heap.size w1 w') := known5_any
  clear h
  go_enter Try.func7, Try.ntmps7
  go_wp2_with fail
  refine HM.out.mono ?_; rintro e w1 ⟨rfl, hw⟩; subst hw
  go_wp2_with fail
  refine (K.out _).mono ?_; rintro e w2 ⟨rfl, b2⟩
  go_wp2_with fail
  go_ret
  exact ⟨rfl, b2⟩

set_option maxRecDepth 100000 in
set_option maxHeartbeats 4000000 in
theorem short (a a' : Option Addr) (c c' : Nat) (xs ys : List Lv) (t : Int) (w : World) (hk : LRow w (.slice a xs.length c) xs) (hk' : LRow w (.slice a' ys.length c') ys) (h : xs.length ≤ 100) (h' : ys.length ≤ 100) :
    Calls Try.prog 7 #[.slice a xs.length c, .slice a' ys.length c', .int .i64 t] w fun e w' => e = .returned (.bool true) ∧ Below w.heap.size w w' := by
  have HM := Lib.hid (many_few a a' xs.length c ys.length c' w h h')
  have K : Hid (∀ w1, Calls Try.prog 12 #[] w1 fun e w' => e = .returned (.bool true) ∧ Below w1.heap.size w1 w') := known5_any
  have M1 : Hid (Calls Try.prog 30 #[.slice a xs.length c, .slice a' ys.length c'] w fun e w' => ∃ v', e = .returned (.tuple #[v', .int .i64 (meetV xs ys).2]) ∧ LOwn w' w.heap.size v' (meetV xs ys).1 ∧ Below w.heap.size w w') := meet_any _ _ xs ys w (by omega) hk hk'
  have M2 : Hid (∀ w1, Below w.heap.size w w1 → Calls Try.prog 31 #[.slice a xs.length c, .slice a' ys.length c'] w1 fun e w' => ∃ v', e = .returned (.tuple #[v', .int .i64 (meetV xs ys).2]) ∧ LOwn w' w1.heap.size v' (meetV xs ys).1 ∧ Below w1.heap.size w1 w') := fun w1 hb => refMeet_any _ _ xs ys w1 (by omega) (by omega) (hk.kept hb) (hk'.kept hb)
  have M3 : Hid (∀ w1, Below w.heap.size w w1 → Calls Try.prog 30 #[.slice a' ys.length c', .slice a xs.length c] w1 fun e w' => ∃ v', e = .returned (.tuple #[v', .int .i64 (meetV xs ys).2]) ∧ LOwn w' w1.heap.size v' (meetV xs ys).1 ∧ Below w1.heap.size w1 w') := fun w1 hb => by
    have := meet_any _ _ ys xs w1 (by omega) (hk'.kept hb) (hk.kept hb)
    rwa [meet_swap ys xs] at this
  have SA : Hid (∀ (zs : List Lv) v v' w1, zs.length ≤ 1048576 → LRow w1 v zs → LRow w1 v' zs → Calls Try.prog 22 #[v, v'] w1 fun e w' => e = .returned (.bool true) ∧ Below w1.heap.size w1 w') := fun zs v v' w1 h0 h1 h2 => by
    have := same_any v v' zs zs w1 h0 h0 h1 h2
    rwa [decide_eq_true rfl] at this
  have hlen := meetV_len xs ys
  have HL : Hid ((meetV xs ys).1.length ≤ 1048576) := by unfold Hid; omega
  have AA : Hid (∀ w1, Below w.heap.size w w1 → Calls Try.prog 15 #[.slice a xs.length c, .int .i64 t] w1 fun e w' => e = .returned (.int .i64 (atV xs t)) ∧ Below w1.heap.size w1 w') := fun w1 hb => at_any _ xs t w1 (by omega) (hk.kept hb)
  have AB : Hid (∀ w1, Below w.heap.size w w1 → Calls Try.prog 15 #[.slice a' ys.length c', .int .i64 t] w1 fun e w' => e = .returned (.int .i64 (atV ys t)) ∧ Below w1.heap.size w1 w') := fun w1 hb => at_any _ ys t w1 (by omega) (hk'.kept hb)
  have A0 : Hid (∀ v w1, LRow w1 v (meetV xs ys).1 → Calls Try.prog 15 #[v, .int .i64 t] w1 fun e w' => e = .returned (.int .i64 (atV (meetV xs ys).1 t)) ∧ Below w1.heap.size w1 w') := fun v w1 h1 => at_any v _ t w1 HL.out h1
  have HZ : Hid ((meetV xs ys).2 = 0 → okP xs ∧ okP ys) := meet_zero
  have HT : Hid ((meetV xs ys).2 = 0 → (lv xs 0).1 ≤ t → (lv ys 0).1 ≤ t → atV (meetV xs ys).1 t = min (atV xs t) (atV ys t)) := meet_tells
  clear hlen h h'
  generalize meetV xs ys = mv at *
  obtain ⟨n1, n2⟩ := mv
  dsimp only at M1 M2 M3 HL A0 HZ HT
  generalize atV n1 t = v0 at *
  generalize atV xs t = va at *
  generalize atV ys t = vb at *
  have e1 : (n2 != n2) = false := by simp
  by_cases hz : n2 = 0
  · obtain ⟨ho, ho'⟩ := HZ.out hz
    have hlen : 0 < xs.length := List.length_pos_iff.2 ho.1
    have hleni : (0 : Int) < xs.length := by omega
    have hlen2 : 0 < ys.length := List.length_pos_iff.2 ho'.1
    have hleni2 : (0 : Int) < ys.length := by omega
    have HT' := HT.out hz
    have z1 : (n2 == 0) = true := by simpa using hz
    clear HZ HT hz
    have hok1 := ho.1
    have hok2 := ho'.1
    clear ho ho'
    rcases hk with ⟨rfl, _⟩ | ⟨b, off, c2, hav, _, r1, r2, hca⟩
    · exact absurd rfl hok1
    rcases hk' with ⟨rfl, _⟩ | ⟨b', off', c2', hav', _, r1', r2', hcb⟩
    · exact absurd rfl hok2
    obtain ⟨rfl, _, rfl⟩ : a = some ⟨b, off, none⟩ ∧ True ∧ c = c2 := by simpa using hav
    obtain ⟨rfl, _, rfl⟩ : a' = some ⟨b', off', none⟩ ∧ True ∧ c' = c2' := by simpa using hav'
    clear hav hav' hok1 hok2
    have HCA := Lib.hid hca
    have HCB := Lib.hid hcb
    clear hca hcb
    by_cases h1 : (lv xs 0).1 ≤ t
    · have s1 : decide (t ≥ (lv xs 0).1) = true := decide_eq_true h1
      have s1' : decide ((lv xs 0).1 ≤ t) = true := s1
      by_cases h2 : (lv ys 0).1 ≤ t
      · have s2 : decide (t ≥ (lv ys 0).1) = true := decide_eq_true h2
        have s2' : decide ((lv ys 0).1 ≤ t) = true := s2
        have hv := HT' h1 h2
        have e2 : (v0 != min va vb) = false := by rw [hv]; simp
        clear HT' h1 h2 hv
        go_enter Try.func7, Try.ntmps7
        go_wp2_with fail
        refine HM.out.mono ?_; rintro e w0 ⟨rfl, hw⟩; subst hw
        go_wp2_with fail
        refine M1.out.mono ?_; rintro e w1 ⟨x, rfl, ox, b1⟩
        have X1 := Lib.hid (lrow_of_owns ox)
        have B1 := Lib.hid b1
        clear ox b1 M1
        go_wp2_with fail
        refine (M2.out _ B1.out).mono ?_; rintro e w2 ⟨y, rfl, oy, b2⟩
        have Y2 := Lib.hid (lrow_of_owns oy)
        have X2 := Lib.hid (X1.out.kept b2)
        have B2 := Lib.hid (below_next b2 B1.out)
        clear oy b2 M2 X1 B1
        go_wp2_with fail
        refine (M3.out _ B2.out).mono ?_; rintro e w3 ⟨z, rfl, oz, b3⟩
        have Z3 := Lib.hid (lrow_of_owns oz)
        have Y3 := Lib.hid (Y2.out.kept b3)
        have X3 := Lib.hid (X2.out.kept b3)
        have B3 := Lib.hid (below_next b3 B2.out)
        clear oz b3 M3 X2 Y2 B2
        go_wp2_with fail
        refine (SA.out n1 _ _ _ HL.out X3.out Y3.out).mono ?_; rintro e w4 ⟨rfl, b4⟩
        have Z4 := Lib.hid (Z3.out.kept b4)
        have X4 := Lib.hid (X3.out.kept b4)
        have B4 := Lib.hid (below_next b4 B3.out)
        clear b4 X3 Y3 Z3 B3
        go_wp2_with fail
        refine (SA.out n1 _ _ _ HL.out X4.out Z4.out).mono ?_; rintro e w5 ⟨rfl, b5⟩
        have X5 := Lib.hid (X4.out.kept b5)
        have B5 := Lib.hid (below_next b5 B4.out)
        clear b5 X4 Z4 B4
        obtain ⟨c0, c1⟩ := HCA.out.at B5.out hlen
        obtain ⟨d0, d1⟩ := HCB.out.at B5.out hlen2
        simp only [Nat.zero_mul, Nat.add_zero] at c0 c1 d0 d1
        go_wp2_with fail
        refine (A0.out _ _ X5.out).mono ?_; rintro e w6 ⟨rfl, b6⟩
        have B6 := Lib.hid (below_next b6 B5.out)
        clear b6 B5
        go_wp2_with fail
        refine (AA.out _ B6.out).mono ?_; rintro e w7 ⟨rfl, b7⟩
        have B7 := Lib.hid (below_next b7 B6.out)
        clear b7 B6
        go_wp2_with fail
        refine (AB.out _ B7.out).mono ?_; rintro e w8 ⟨rfl, b8⟩
        have B5 := Lib.hid (below_next b8 B7.out)
        clear b8 B7
        go_wp2_with fail
        refine (K.out _).mono ?_; rintro e wc ⟨rfl, bc⟩
        have BC := Lib.hid (below_next bc B5.out)
        clear bc B5
        go_wp2_with fail
        go_ret
        exact ⟨rfl, BC.out⟩
      · have s2 : decide (t ≥ (lv ys 0).1) = false := decide_eq_false h2
        have s2' : decide ((lv ys 0).1 ≤ t) = false := s2
        clear HT' h1 h2
        go_enter Try.func7, Try.ntmps7
        go_wp2_with fail
        refine HM.out.mono ?_; rintro e w0 ⟨rfl, hw⟩; subst hw
        go_wp2_with fail
        refine M1.out.mono ?_; rintro e w1 ⟨x, rfl, ox, b1⟩
        have X1 := Lib.hid (lrow_of_owns ox)
        have B1 := Lib.hid b1
        clear ox b1 M1
        go_wp2_with fail
        refine (M2.out _ B1.out).mono ?_; rintro e w2 ⟨y, rfl, oy, b2⟩
        have Y2 := Lib.hid (lrow_of_owns oy)
        have X2 := Lib.hid (X1.out.kept b2)
        have B2 := Lib.hid (below_next b2 B1.out)
        clear oy b2 M2 X1 B1
        go_wp2_with fail
        refine (M3.out _ B2.out).mono ?_; rintro e w3 ⟨z, rfl, oz, b3⟩
        have Z3 := Lib.hid (lrow_of_owns oz)
        have Y3 := Lib.hid (Y2.out.kept b3)
        have X3 := Lib.hid (X2.out.kept b3)
        have B3 := Lib.hid (below_next b3 B2.out)
        clear oz b3 M3 X2 Y2 B2
        go_wp2_with fail
        refine (SA.out n1 _ _ _ HL.out X3.out Y3.out).mono ?_; rintro e w4 ⟨rfl, b4⟩
        have Z4 := Lib.hid (Z3.out.kept b4)
        have X4 := Lib.hid (X3.out.kept b4)
        have B4 := Lib.hid (below_next b4 B3.out)
        clear b4 X3 Y3 Z3 B3
        go_wp2_with fail
        refine (SA.out n1 _ _ _ HL.out X4.out Z4.out).mono ?_; rintro e w5 ⟨rfl, b5⟩
        have X5 := Lib.hid (X4.out.kept b5)
        have B5 := Lib.hid (below_next b5 B4.out)
        clear b5 X4 Z4 B4
        obtain ⟨c0, c1⟩ := HCA.out.at B5.out hlen
        obtain ⟨d0, d1⟩ := HCB.out.at B5.out hlen2
        simp only [Nat.zero_mul, Nat.add_zero] at c0 c1 d0 d1
        go_wp2_with fail
        refine (K.out _).mono ?_; rintro e wc ⟨rfl, bc⟩
        have BC := Lib.hid (below_next bc B5.out)
        clear bc B5
        go_wp2_with fail
        go_ret
        exact ⟨rfl, BC.out⟩
    · have s1 : decide (t ≥ (lv xs 0).1) = false := decide_eq_false h1
      have s1' : decide ((lv xs 0).1 ≤ t) = false := s1
      clear HT' h1
      go_enter Try.func7, Try.ntmps7
      go_wp2_with fail
      refine HM.out.mono ?_; rintro e w0 ⟨rfl, hw⟩; subst hw
      go_wp2_with fail
      refine M1.out.mono ?_; rintro e w1 ⟨x, rfl, ox, b1⟩
      have X1 := Lib.hid (lrow_of_owns ox)
      have B1 := Lib.hid b1
      clear ox b1 M1
      go_wp2_with fail
      refine (M2.out _ B1.out).mono ?_; rintro e w2 ⟨y, rfl, oy, b2⟩
      have Y2 := Lib.hid (lrow_of_owns oy)
      have X2 := Lib.hid (X1.out.kept b2)
      have B2 := Lib.hid (below_next b2 B1.out)
      clear oy b2 M2 X1 B1
      go_wp2_with fail
      refine (M3.out _ B2.out).mono ?_; rintro e w3 ⟨z, rfl, oz, b3⟩
      have Z3 := Lib.hid (lrow_of_owns oz)
      have Y3 := Lib.hid (Y2.out.kept b3)
      have X3 := Lib.hid (X2.out.kept b3)
      have B3 := Lib.hid (below_next b3 B2.out)
      clear oz b3 M3 X2 Y2 B2
      go_wp2_with fail
      refine (SA.out n1 _ _ _ HL.out X3.out Y3.out).mono ?_; rintro e w4 ⟨rfl, b4⟩
      have Z4 := Lib.hid (Z3.out.kept b4)
      have X4 := Lib.hid (X3.out.kept b4)
      have B4 := Lib.hid (below_next b4 B3.out)
      clear b4 X3 Y3 Z3 B3
      go_wp2_with fail
      refine (SA.out n1 _ _ _ HL.out X4.out Z4.out).mono ?_; rintro e w5 ⟨rfl, b5⟩
      have X5 := Lib.hid (X4.out.kept b5)
      have B5 := Lib.hid (below_next b5 B4.out)
      clear b5 X4 Z4 B4
      obtain ⟨c0, c1⟩ := HCA.out.at B5.out hlen
      obtain ⟨d0, d1⟩ := HCB.out.at B5.out hlen2
      simp only [Nat.zero_mul, Nat.add_zero] at c0 c1 d0 d1
      go_wp2_with fail
      refine (K.out _).mono ?_; rintro e wc ⟨rfl, bc⟩
      have BC := Lib.hid (below_next bc B5.out)
      clear bc B5
      go_wp2_with fail
      go_ret
      exact ⟨rfl, BC.out⟩
  · have z1 : (n2 == 0) = false := by simpa using hz
    clear HZ HT hz hk hk'
    go_enter Try.func7, Try.ntmps7
    go_wp2_with fail
    refine HM.out.mono ?_; rintro e w0 ⟨rfl, hw⟩; subst hw
    go_wp2_with fail
    refine M1.out.mono ?_; rintro e w1 ⟨x, rfl, ox, b1⟩
    have X1 := Lib.hid (lrow_of_owns ox)
    have B1 := Lib.hid b1
    clear ox b1 M1
    go_wp2_with fail
    refine (M2.out _ B1.out).mono ?_; rintro e w2 ⟨y, rfl, oy, b2⟩
    have Y2 := Lib.hid (lrow_of_owns oy)
    have X2 := Lib.hid (X1.out.kept b2)
    have B2 := Lib.hid (below_next b2 B1.out)
    clear oy b2 M2 X1 B1
    go_wp2_with fail
    refine (M3.out _ B2.out).mono ?_; rintro e w3 ⟨z, rfl, oz, b3⟩
    have Z3 := Lib.hid (lrow_of_owns oz)
    have Y3 := Lib.hid (Y2.out.kept b3)
    have X3 := Lib.hid (X2.out.kept b3)
    have B3 := Lib.hid (below_next b3 B2.out)
    clear oz b3 M3 X2 Y2 B2
    go_wp2_with fail
    refine (SA.out n1 _ _ _ HL.out X3.out Y3.out).mono ?_; rintro e w4 ⟨rfl, b4⟩
    have Z4 := Lib.hid (Z3.out.kept b4)
    have X4 := Lib.hid (X3.out.kept b4)
    have B4 := Lib.hid (below_next b4 B3.out)
    clear b4 X3 Y3 Z3 B3
    go_wp2_with fail
    refine (SA.out n1 _ _ _ HL.out X4.out Z4.out).mono ?_; rintro e w5 ⟨rfl, b5⟩
    have X5 := Lib.hid (X4.out.kept b5)
    have B5 := Lib.hid (below_next b5 B4.out)
    clear b5 X4 Z4 B4
    go_wp2_with fail
    refine (K.out _).mono ?_; rintro e wc ⟨rfl, bc⟩
    have BC := Lib.hid (below_next bc B5.out)
    clear bc B5
    go_wp2_with fail
    go_ret
    exact ⟨rfl, BC.out⟩

theorem walk (v : Value) (xs : List Lv) (v' : Value) (ys : List Lv) (t : Int) (w : World) (w0 : LArg w v xs) (w1 : LArg w v' ys) (w2 : (Lit.int .i64 t).wf = true) :
    Calls Try.prog 7 #[v, v', .int .i64 t] w fun e w' => e = .returned (.bool true) ∧ Below w.heap.size w w' := by
  obtain ⟨hk, ⟨a, c, rfl⟩, hm, hok⟩ := w0
  obtain ⟨hk', ⟨a', c', rfl⟩, hm', hok'⟩ := w1
  by_cases h : 100 < xs.length ∨ 100 < ys.length
  · exact long a a' xs.length c ys.length c' t w h
  · exact short a a' c c' xs ys t w hk hk' (by omega) (by omega)


set_option maxRecDepth 100000 in
theorem lifted (os : Os) (started : os.Started) (H : Type) (enc : TypeId × Value → H) :
    ReturnsInHanded {} Try.checked os 7 .any (Rows.profileMeetsSpec.pre6 enc Try.prog Try.f7 Rows.profileMeetsRow.domain false) (Rows.profileMeetsSpec.post enc Try.prog Try.f7 false true false false) := by
  refine returnsInHanded_of_change (C := Try.checked) own started (by kernel_rfl) Try.func7
    (ChangeSpec.witness6 (enc := enc) (C := Try.checked) false ⟨#[], #[.slice none 0 0, .slice none 0 0, .int .i64 0], []⟩ 8 (by kernel_rfl) (by kernel_rfl) (by kernel_rfl) (by kernel_rfl)) ?_
  intro W base args ds gs before hval0 hW _ _
  have hval : ∀ (j : Nat) t v, Try.f7.params[j]? = some t → args[j]? = some v → Value.okWide Try.prog W .any base t v := hval0
  have hW' := hW
  obtain ⟨p, q, hA0, hV, rfl, hfz, hnd⟩ := hW
  have hA : DataW.TrodAll enc Try.prog W 0 (fun _ => true) true Try.f7.params.toList args.toList ds p := hA0
  rw [Try.params7] at hA hval
  obtain ⟨v0, vs0, d0, ds0, p0, q0, hargs, rfl, rfl, h0, r0⟩ := trodAll_cons hA
  obtain ⟨v1, vs1, d1, ds1, p1, q1, rfl, rfl, rfl, h1, r1⟩ := trodAll_cons r0
  obtain ⟨v2, vs2, d2, ds2, p2, q2, rfl, rfl, rfl, h2, r2⟩ := trodAll_cons r1
  obtain ⟨rfl, rfl, rfl⟩ := trodAll_nil r2
  obtain rfl : args = #[v0, v1, v2] := by cases args; simp_all
  obtain ⟨a, w0⟩ := open_levels_arg h0 (okWide_slice Try.underlying22 (hval 0 22 v0 rfl rfl))
  obtain ⟨b, w1⟩ := open_levels_arg h1 (okWide_slice Try.underlying22 (hval 1 22 v1 rfl rfl))
  obtain ⟨t, rfl, rfl, rfl, w2⟩ := open_int Try.underlying3 (hval 2 3 v2 rfl rfl) h2
  clear hA0 hval0
  refine (walk v0 a v1 b t W w0 w1 w2).mono fun e W' ⟨he, hb⟩ => ?_
  subst he
  exact ⟨_, rfl, law_post (by kernel_rfl) (by kernel_rfl) rfl Try.underlying4 rfl hW' rfl hb⟩

theorem over : Rows.profileMeetsRow.holds Try.pinned (OpenSpec.ofChange Rows.profileMeetsSpec) :=
  OpenClaim.holds_of_wide 7 Try.f7 rfl rfl rfl rfl rfl rfl rfl ⟨rfl, rfl, rfl, rfl, rfl⟩ rfl rfl rfl rfl rfl (by kernel_rfl) Try.func7 (by kernel_rfl)
    (of_decide_eq_true (by kernel_rfl)) (by unfold Func.isWrapper; first | (rw [if_pos (by decide +kernel)]; kernel_rfl) | (rw [if_neg (by decide +kernel)]; exact ⟨rfl, rfl⟩))
    (fun os started H enc _ => lifted os started H enc)

theorem proved : Rows.ProfileMeetsSaid :=
  over
#print axioms proved
end Go.Proofs.Ytnbgipegfnpobaa.profileMeets
