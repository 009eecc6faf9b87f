/-
  ProfileBack: what is taken and given back is as it was; in between as many fewer are free there, and there alone; two changes may be made in either order: so the law returns true for every input.
-/
import Derived.Test.YtnbgipegfnpobaaLvT
import Derived.Test.YtnbgipegfnpobaaLvS
import Derived.Test.YtnbgipegfnpobaaPrL
import Derived.Test.YtnbgipegfnpobaaRows
import Derived.Test.YtnbgipegfnpobaaArgs2
namespace Go.Proofs.Ytnbgipegfnpobaa.profileBack
open Go.ChangeShapes Go.WideShapes Go.ChangeAt Go.RowKit
set_option linter.unusedVariables false

theorem own : ownKnob Try.prog.godebug = none := by kernel_rfl

open Go Go.ChangeShapes Go.WideShapes Go.ChangeAt Go.RowKit Go.Lib
theorem long (a : Option Addr) (L c : Nat) (f N n t other : Int) (w : World) (h : 100 < L) :
    Calls Try.prog 9 #[.slice a L c, .int .i64 f, .int .i64 N, .int .i64 n, .int .i64 t, .int .i64 other] w fun e w' => e = .returned (.bool true) ∧ Below w.heap.size w w' := by
  have HM := Lib.hid (many_yes a none L c 0 0 w (.inl h))
  have K : Hid (∀ w1, Calls Try.prog 12 #[] w1 fun e w' => e = .returned (.bool true) ∧ Below w1.heap.size w1 w') := known5_any
  clear h
  go_enter Try.func9, Try.ntmps9
  go_wp2_with fail
  refine HM.out.mono ?_; rintro e w1 ⟨rfl, hw⟩; subst hw
  have B5 : Hid (Below w1.heap.size w1 w1) := Below.refl _ _
  go_wp2_with fail
  refine (K.out _).mono ?_; rintro e wc ⟨rfl, bc⟩
  have BC := Lib.hid (below_next bc B5.out)
  clear bc B5
  go_wp2_with fail
  go_ret
  exact ⟨rfl, BC.out⟩

set_option maxRecDepth 100000 in
theorem none_ (a : Option Addr) (c : Nat) (xs : List Lv) (f N n t other : Int) (w : World) (hk : LRow w (.slice a xs.length c) xs) (h : xs.length ≤ 100) (hno : ¬ okP xs) :
    Calls Try.prog 9 #[.slice a xs.length c, .int .i64 f, .int .i64 N, .int .i64 n, .int .i64 t, .int .i64 other] w fun e w' => e = .returned (.bool true) ∧ Below w.heap.size w w' := by
  have HM := Lib.hid (many_few a none xs.length c 0 0 w h (by omega))
  have K : Hid (∀ w1, Calls Try.prog 12 #[] w1 fun e w' => e = .returned (.bool true) ∧ Below w1.heap.size w1 w') := known5_any
  have CA : Hid (Calls Try.prog 14 #[.slice a xs.length c] w fun e w' => e = .returned (.int .i64 (checkV xs)) ∧ Below w.heap.size w w') := check_any _ xs w (by omega) hk
  rw [checkV_no hno] at CA
  clear hk hno
  by_cases h1 : xs.length = 0
  · have t1 : ((xs.length : Int) == 0) = true := by simp [h1]
    clear h1 CA
    go_enter Try.func9, Try.ntmps9
    go_wp2_with fail
    refine HM.out.mono ?_; rintro e w0 ⟨rfl, hw⟩; subst hw
    go_wp2_with fail
    have B5 : Hid (Below w0.heap.size w0 w0) := Below.refl _ _
    refine (K.out _).mono ?_; rintro e wc ⟨rfl, bc⟩
    have BC := Lib.hid (below_next bc B5.out)
    clear bc B5
    go_wp2_with fail
    go_ret
    exact ⟨rfl, BC.out⟩
  · have t1 : ((xs.length : Int) == 0) = false := by rw [beq_eq_false_iff_ne]; omega
    clear h1
    go_enter Try.func9, Try.ntmps9
    go_wp2_with fail
    refine HM.out.mono ?_; rintro e w0 ⟨rfl, hw⟩; subst hw
    go_wp2_with fail
    refine CA.out.mono ?_; rintro e w1 ⟨rfl, b1⟩
    have B5 := Lib.hid b1
    clear b1 CA
    go_wp2_with fail
    refine (K.out _).mono ?_; rintro e wc ⟨rfl, bc⟩
    have BC := Lib.hid (below_next bc B5.out)
    clear bc B5
    go_wp2_with fail
    go_ret
    exact ⟨rfl, BC.out⟩

set_option maxRecDepth 100000 in
set_option maxHeartbeats 4000000 in
theorem bad (a : Option Addr) (c : Nat) (xs : List Lv) (f N n t other : Int) (w : World) (hk : LRow w (.slice a xs.length c) xs) (h : xs.length ≤ 100) (ho : okP xs) (hbad : ¬ (changeV xs f N n).2 = 0) :
    Calls Try.prog 9 #[.slice a xs.length c, .int .i64 f, .int .i64 N, .int .i64 n, .int .i64 t, .int .i64 other] w fun e w' => e = .returned (.bool true) ∧ Below w.heap.size w w' := by
  have HM := Lib.hid (many_few a none xs.length c 0 0 w h (by omega))
  have K : Hid (∀ w1, Calls Try.prog 12 #[] w1 fun e w' => e = .returned (.bool true) ∧ Below w1.heap.size w1 w') := known5_any
  have CA : Hid (Calls Try.prog 14 #[.slice a xs.length c] w fun e w' => e = .returned (.int .i64 (checkV xs)) ∧ Below w.heap.size w w') := check_any _ xs w (by omega) hk
  rw [checkV_ok ho] at CA
  have F1 : Hid (∀ w1, Below w.heap.size w w1 → Calls Try.prog 25 #[.slice a xs.length c, .int .i64 f, .int .i64 N, .int .i64 n] w1 fun e w' => ∃ v', e = .returned (.tuple #[v', .int .i64 (changeV xs f N n).2]) ∧ LOwn w' w1.heap.size v' (changeV xs f N n).1 ∧ Below w1.heap.size w1 w') := fun w1 hb => change_any _ xs f N n w1 (by omega) (hk.kept hb)
  have hlen : 0 < xs.length := List.length_pos_iff.2 ho.1
  have t1 : ((xs.length : Int) == 0) = false := by rw [beq_eq_false_iff_ne]; omega
  have t2 : ((changeV xs f N n).2 != 0) = true := bne_iff_ne.2 hbad
  generalize changeV xs f N n = ch at *
  obtain ⟨A, e1⟩ := ch
  dsimp only at F1 t2
  clear hk ho hbad hlen
  go_enter Try.func9, Try.ntmps9
  go_wp2_with fail
  refine HM.out.mono ?_; rintro e w0 ⟨rfl, hw⟩; subst hw
  go_wp2_with fail
  refine CA.out.mono ?_; rintro e w1 ⟨rfl, b1⟩
  have B1 := Lib.hid b1
  clear b1 CA
  go_wp2_with fail
  refine (F1.out _ B1.out).mono ?_; rintro e w2 ⟨va, rfl, oa, b2⟩
  have RA := Lib.hid (lrow_of_owns oa)
  have B2 := Lib.hid (below_next b2 B1.out)
  clear b2 B1 F1 oa
  go_wp2_with fail
  have B5 := Lib.hid B2.out
  refine (K.out _).mono ?_; rintro e wc ⟨rfl, bc⟩
  have BC := Lib.hid (below_next bc B5.out)
  clear bc B5
  go_wp2_with fail
  go_ret
  exact ⟨rfl, BC.out⟩

set_option maxRecDepth 100000 in
set_option maxHeartbeats 8000000 in
theorem main (b off c : Nat) (xs : List Lv) (f N n t other : Int) (w : World) (hca : LCells w b off xs) (hk : LRow w (.slice (some ⟨b, off, none⟩) xs.length c) xs) (h : xs.length ≤ 100) (ho : okP xs) (hgood : (changeV xs f N n).2 = 0) :
    Calls Try.prog 9 #[.slice (some ⟨b, off, none⟩) xs.length c, .int .i64 f, .int .i64 N, .int .i64 n, .int .i64 t, .int .i64 other] w fun e w' => e = .returned (.bool true) ∧ Below w.heap.size w w' := by
  have HM := Lib.hid (many_few (some ⟨b, off, none⟩) none xs.length c 0 0 w h (by omega))
  have K : Hid (∀ w1, Calls Try.prog 12 #[] w1 fun e w' => e = .returned (.bool true) ∧ Below w1.heap.size w1 w') := known5_any
  have CA : Hid (Calls Try.prog 14 #[.slice (some ⟨b, off, none⟩) xs.length c] w fun e w' => e = .returned (.int .i64 (checkV xs)) ∧ Below w.heap.size w w') := check_any _ xs w (by omega) hk
  rw [checkV_ok ho] at CA
  have hlen : 0 < xs.length := List.length_pos_iff.2 ho.1
  have hleni : (0 : Int) < xs.length := by omega
  have t1 : ((xs.length : Int) == 0) = false := by rw [beq_eq_false_iff_ne]; omega
  have h00 := (ho.2 0 hlen).1.1
  obtain ⟨_, hnb, _⟩ := change_err hgood
  have hb' : ¬ (f < (lv xs 0).1 ∨ MaxT < f ∨ N < 1 ∨ MaxT - f < N ∨ n < -MaxT ∨ MaxT < n) := hnb
  unfold MaxT at hb' h00
  have f0 : 0 ≤ f := by omega
  have f1 : f ≤ 1099511627776 := by omega
  have N0 : 1 ≤ N := by omega
  have N1 : f + N ≤ 1099511627776 := by omega
  have k0 : -1099511627776 ≤ n := by omega
  have k1 : n ≤ 1099511627776 := by omega
  have I := change_zero hgood
  have hback := change_back hgood
  have hswap := @change_swap xs f N n other 1 hgood
  have hAl := changeV_len xs f N n
  have hDl := changeV_len xs other N 1
  have hCl := changeV_len (changeV xs f N n).1 other N 1
  have F1 : Hid (∀ w1, Below w.heap.size w w1 → Calls Try.prog 25 #[.slice (some ⟨b, off, none⟩) xs.length c, .int .i64 f, .int .i64 N, .int .i64 n] w1 fun e w' => ∃ v', e = .returned (.tuple #[v', .int .i64 0]) ∧ LOwn w' w1.heap.size v' (changeV xs f N n).1 ∧ Below w1.heap.size w1 w') := fun w1 hb => by
    have := change_any _ xs f N n w1 (by omega) (hk.kept hb)
    rwa [hgood] at this
  have FD : Hid (∀ w1, Below w.heap.size w w1 → Calls Try.prog 25 #[.slice (some ⟨b, off, none⟩) xs.length c, .int .i64 other, .int .i64 N, .int .i64 1] w1 fun e w' => ∃ v', e = .returned (.tuple #[v', .int .i64 (changeV xs other N 1).2]) ∧ LOwn w' w1.heap.size v' (changeV xs other N 1).1 ∧ Below w1.heap.size w1 w') := fun w1 hb => change_any _ xs other N 1 w1 (by omega) (hk.kept hb)
  generalize changeV xs f N n = ch at *
  obtain ⟨A, e1⟩ := ch
  dsimp only at F1 I hback hswap hAl hCl
  have FC : Hid (∀ v w1, LRow w1 v A → Calls Try.prog 25 #[v, .int .i64 other, .int .i64 N, .int .i64 1] w1 fun e w' => ∃ v', e = .returned (.tuple #[v', .int .i64 (changeV A other N 1).2]) ∧ LOwn w' w1.heap.size v' (changeV A other N 1).1 ∧ Below w1.heap.size w1 w') := fun v w1 h1 => change_any _ A other N 1 w1 (by omega) h1
  have FB : Hid (∀ v w1, LRow w1 v A → Calls Try.prog 25 #[v, .int .i64 f, .int .i64 N, .int .i64 (-n)] w1 fun e w' => ∃ v', e = .returned (.tuple #[v', .int .i64 0]) ∧ LOwn w' w1.heap.size v' xs ∧ Below w1.heap.size w1 w') := fun v w1 h1 => by
    have := change_any v A f N (-n) w1 (by omega) h1
    rwa [hback] at this
  have FQ : Hid ((changeV A other N 1).2 = 0 → (changeV xs other N 1).2 = 0 → ∀ v w1, LRow w1 v (changeV xs other N 1).1 → Calls Try.prog 25 #[v, .int .i64 f, .int .i64 N, .int .i64 n] w1 fun e w' => ∃ v', e = .returned (.tuple #[v', .int .i64 0]) ∧ LOwn w' w1.heap.size v' (changeV A other N 1).1 ∧ Below w1.heap.size w1 w') := fun h1 h2 v w1 h3 => by
    have := change_any v _ f N n w1 (by omega) h3
    rwa [hswap h1 h2] at this
  have CK : Hid (∀ v w1, LRow w1 v A → Calls Try.prog 14 #[v] w1 fun e w' => e = .returned (.int .i64 0) ∧ Below w1.heap.size w1 w') := fun v w1 h1 => by
    have := check_any v A w1 (by omega) h1
    rwa [checkV_ok I.ok] at this
  have AT : Hid (∀ w1, Below w.heap.size w w1 → Calls Try.prog 15 #[.slice (some ⟨b, off, none⟩) xs.length c, .int .i64 t] w1 fun e w' => e = .returned (.int .i64 (vA xs t)) ∧ Below w1.heap.size w1 w') := fun w1 hb => by
    rw [← atV_ok ho]; exact at_any _ xs t w1 (by omega) (hk.kept hb)
  have AA : Hid (∀ v w1, LRow w1 v A → Calls Try.prog 15 #[v, .int .i64 t] w1 fun e w' => e = .returned (.int .i64 (vA A t)) ∧ Below w1.heap.size w1 w') := fun v w1 h1 => by
    rw [← atV_ok I.ok]; exact at_any v A t w1 (by omega) h1
  have HVA : (lv xs 0).1 ≤ t → vA A t = newG xs f N n t := I.val t
  have hvb : 0 ≤ vA xs t ∧ vA xs t ≤ 1099511627776 := val_bound ho t
  have SA : Hid (∀ (zs : List Lv) v v' w1, zs.length ≤ 1048576 → LRow w1 v zs → LRow w1 v' zs → Calls Try.prog 22 #[v, v'] w1 fun e w' => e = .returned (.bool true) ∧ Below w1.heap.size w1 w') := fun zs v v' w1 h0 h1 h2 => by
    have := same_any v v' zs zs w1 h0 h0 h1 h2
    rwa [decide_eq_true rfl] at this
  have HK := Lib.hid hk
  have HX : Hid (xs.length ≤ 1048576) := by unfold Hid; omega
  have HCL : Hid ((changeV A other N 1).1.length ≤ 1048576) := by unfold Hid; omega
  unfold newG at HVA
  generalize changeV A other N 1 = cc at *
  generalize changeV xs other N 1 = dd at *
  obtain ⟨C, g⟩ := cc
  obtain ⟨D, hh⟩ := dd
  dsimp only at FC FD FQ HCL
  clear hnb hb' I hback hswap hAl hDl hCl hgood hk ho
  have HCA := Lib.hid hca
  clear hca
  generalize vA xs t = vx at *
  generalize vA A t = vy at *
  obtain ⟨p0, hp0⟩ : ∃ p0, p0 = (lv xs 0).1 := ⟨_, rfl⟩
  rw [← hp0] at HVA h00
  have HP0 := Lib.hid hp0
  clear hp0
  by_cases h0 : p0 ≤ t
  · have s0 : decide (t ≥ p0) = true := decide_eq_true h0
    have s0' : decide (p0 ≤ t) = true := s0
    have HV := HVA h0
    clear HVA
    by_cases hin : f ≤ t ∧ t < f + N
    · rw [if_pos (show inW f N t from hin)] at HV
      have s1 : decide (t ≥ f) = true := decide_eq_true hin.1
      have s1' : decide (f ≤ t) = true := s1
      have s2 : decide (t < f + N) = true := decide_eq_true hin.2
      have s3 : (vy != vx + n) = false := by simp [HV]
      clear hin h0 HV
      go_enter Try.func9, Try.ntmps9
      go_wp2_with fail
      refine HM.out.mono ?_; rintro e w0 ⟨rfl, hw⟩; subst hw
      go_wp2_with fail
      refine CA.out.mono ?_; rintro e w1 ⟨rfl, b1⟩
      have B1 := Lib.hid b1
      clear b1 CA
      go_wp2_with fail
      refine (F1.out _ B1.out).mono ?_; rintro e w2 ⟨va, rfl, oa, b2⟩
      have RA := Lib.hid (lrow_of_owns oa)
      have B2 := Lib.hid (below_next b2 B1.out)
      clear b2 B1 F1 oa
      go_wp2_with fail
      refine (FB.out _ _ RA.out).mono ?_; rintro e w3 ⟨vb, rfl, ob, b3⟩
      have RB := Lib.hid (lrow_of_owns ob)
      have RA3 := Lib.hid (RA.out.kept b3)
      have B3 := Lib.hid (below_next b3 B2.out)
      clear b3 ob B2 RA FB
      go_wp2_with fail
      refine (SA.out xs _ _ _ HX.out RB.out (HK.out.kept B3.out)).mono ?_; rintro e w4 ⟨rfl, b4⟩
      have RA4 := Lib.hid (RA3.out.kept b4)
      have B4 := Lib.hid (below_next b4 B3.out)
      clear b4 RB RA3 B3
      go_wp2_with fail
      refine (CK.out _ _ RA4.out).mono ?_; rintro e w5 ⟨rfl, b5⟩
      have RA5 := Lib.hid (RA4.out.kept b5)
      have B6 := Lib.hid (below_next b5 B4.out)
      clear b5 RA4 B4 CK
      obtain ⟨c0, c1⟩ := HCA.out.at B6.out hlen
      simp only [Nat.zero_mul, Nat.add_zero] at c0 c1
      rw [← HP0.out] at c0
      go_wp2_with fail
      refine (AT.out _ B6.out).mono ?_; rintro e w6 ⟨rfl, b6⟩
      have RA6 := Lib.hid (RA5.out.kept b6)
      have B7 := Lib.hid (below_next b6 B6.out)
      clear b6 RA5 B6
      go_wp2_with fail
      refine (AA.out _ _ RA6.out).mono ?_; rintro e w7 ⟨rfl, b7⟩
      have RA5 := Lib.hid (RA6.out.kept b7)
      have B6 := Lib.hid (below_next b7 B7.out)
      clear b7 RA6 B7
      go_wp2_with fail
      refine (FC.out _ _ RA5.out).mono ?_; rintro e w8 ⟨vc, rfl, oc, b8⟩
      have RC := Lib.hid (lrow_of_owns oc)
      have B8 := Lib.hid (below_next b8 B6.out)
      clear b8 oc RA5 B6
      go_wp2_with fail
      refine (FD.out _ B8.out).mono ?_; rintro e w9 ⟨vd, rfl, od, b9⟩
      have RD := Lib.hid (lrow_of_owns od)
      have RC9 := Lib.hid (RC.out.kept b9)
      have B9 := Lib.hid (below_next b9 B8.out)
      clear b9 od RC B8
      by_cases hg : g = 0
      · by_cases hh0 : hh = 0
        · have z1 : (g != 0) = false := by simp [hg]
          have z2 : (hh != 0) = false := by simp [hh0]
          have FQ' := Lib.hid (FQ.out hg hh0)
          clear hg hh0 FQ
          go_wp2_with fail
          refine (FQ'.out _ _ RD.out).mono ?_; rintro e wa ⟨vq, rfl, oq, ba⟩
          have RQ := Lib.hid (lrow_of_owns oq)
          have RCA := Lib.hid (RC9.out.kept ba)
          have BA := Lib.hid (below_next ba B9.out)
          clear ba oq RC9 B9 RD FQ'
          go_wp2_with fail
          refine (SA.out C _ _ _ HCL.out RCA.out RQ.out).mono ?_; rintro e wb ⟨rfl, bb⟩
          have B5 := Lib.hid (below_next bb BA.out)
          clear bb BA RCA RQ
          go_wp2_with fail
          refine (K.out _).mono ?_; rintro e wc ⟨rfl, bc⟩
          have BC := Lib.hid (below_next bc B5.out)
          clear bc B5
          go_wp2_with fail
          go_ret
          exact ⟨rfl, BC.out⟩
        · have z1 : (g != 0) = false := by simp [hg]
          have z2 : (hh != 0) = true := bne_iff_ne.2 hh0
          have B5 := Lib.hid B9.out
          clear hg hh0 FQ
          go_wp2_with fail
          refine (K.out _).mono ?_; rintro e wc ⟨rfl, bc⟩
          have BC := Lib.hid (below_next bc B5.out)
          clear bc B5
          go_wp2_with fail
          go_ret
          exact ⟨rfl, BC.out⟩
      · have z1 : (g != 0) = true := bne_iff_ne.2 hg
        have B5 := Lib.hid B9.out
        clear hg FQ
        go_wp2_with fail
        refine (K.out _).mono ?_; rintro e wc ⟨rfl, bc⟩
        have BC := Lib.hid (below_next bc B5.out)
        clear bc B5
        go_wp2_with fail
        go_ret
        exact ⟨rfl, BC.out⟩
    · rw [if_neg (show ¬ inW f N t from hin), Int.add_zero] at HV
      have s3 : (vy != vx) = false := by simp [HV]
      by_cases h1 : f ≤ t
      · have s1 : decide (t ≥ f) = true := decide_eq_true h1
        have s1' : decide (f ≤ t) = true := s1
        have s2 : decide (t < f + N) = false := decide_eq_false fun h2 => hin ⟨h1, h2⟩
        clear hin h0 h1 HV
        go_enter Try.func9, Try.ntmps9
        go_wp2_with fail
        refine HM.out.mono ?_; rintro e w0 ⟨rfl, hw⟩; subst hw
        go_wp2_with fail
        refine CA.out.mono ?_; rintro e w1 ⟨rfl, b1⟩
        have B1 := Lib.hid b1
        clear b1 CA
        go_wp2_with fail
        refine (F1.out _ B1.out).mono ?_; rintro e w2 ⟨va, rfl, oa, b2⟩
        have RA := Lib.hid (lrow_of_owns oa)
        have B2 := Lib.hid (below_next b2 B1.out)
        clear b2 B1 F1 oa
        go_wp2_with fail
        refine (FB.out _ _ RA.out).mono ?_; rintro e w3 ⟨vb, rfl, ob, b3⟩
        have RB := Lib.hid (lrow_of_owns ob)
        have RA3 := Lib.hid (RA.out.kept b3)
        have B3 := Lib.hid (below_next b3 B2.out)
        clear b3 ob B2 RA FB
        go_wp2_with fail
        refine (SA.out xs _ _ _ HX.out RB.out (HK.out.kept B3.out)).mono ?_; rintro e w4 ⟨rfl, b4⟩
        have RA4 := Lib.hid (RA3.out.kept b4)
        have B4 := Lib.hid (below_next b4 B3.out)
        clear b4 RB RA3 B3
        go_wp2_with fail
        refine (CK.out _ _ RA4.out).mono ?_; rintro e w5 ⟨rfl, b5⟩
        have RA5 := Lib.hid (RA4.out.kept b5)
        have B6 := Lib.hid (below_next b5 B4.out)
        clear b5 RA4 B4 CK
        obtain ⟨c0, c1⟩ := HCA.out.at B6.out hlen
        simp only [Nat.zero_mul, Nat.add_zero] at c0 c1
        rw [← HP0.out] at c0
        go_wp2_with fail
        refine (AT.out _ B6.out).mono ?_; rintro e w6 ⟨rfl, b6⟩
        have RA6 := Lib.hid (RA5.out.kept b6)
        have B7 := Lib.hid (below_next b6 B6.out)
        clear b6 RA5 B6
        go_wp2_with fail
        refine (AA.out _ _ RA6.out).mono ?_; rintro e w7 ⟨rfl, b7⟩
        have RA5 := Lib.hid (RA6.out.kept b7)
        have B6 := Lib.hid (below_next b7 B7.out)
        clear b7 RA6 B7
        go_wp2_with fail
        refine (FC.out _ _ RA5.out).mono ?_; rintro e w8 ⟨vc, rfl, oc, b8⟩
        have RC := Lib.hid (lrow_of_owns oc)
        have B8 := Lib.hid (below_next b8 B6.out)
        clear b8 oc RA5 B6
        go_wp2_with fail
        refine (FD.out _ B8.out).mono ?_; rintro e w9 ⟨vd, rfl, od, b9⟩
        have RD := Lib.hid (lrow_of_owns od)
        have RC9 := Lib.hid (RC.out.kept b9)
        have B9 := Lib.hid (below_next b9 B8.out)
        clear b9 od RC B8
        by_cases hg : g = 0
        · by_cases hh0 : hh = 0
          · have z1 : (g != 0) = false := by simp [hg]
            have z2 : (hh != 0) = false := by simp [hh0]
            have FQ' := Lib.hid (FQ.out hg hh0)
            clear hg hh0 FQ
            go_wp2_with fail
            refine (FQ'.out _ _ RD.out).mono ?_; rintro e wa ⟨vq, rfl, oq, ba⟩
            have RQ := Lib.hid (lrow_of_owns oq)
            have RCA := Lib.hid (RC9.out.kept ba)
            have BA := Lib.hid (below_next ba B9.out)
            clear ba oq RC9 B9 RD FQ'
            go_wp2_with fail
            refine (SA.out C _ _ _ HCL.out RCA.out RQ.out).mono ?_; rintro e wb ⟨rfl, bb⟩
            have B5 := Lib.hid (below_next bb BA.out)
            clear bb BA RCA RQ
            go_wp2_with fail
            refine (K.out _).mono ?_; rintro e wc ⟨rfl, bc⟩
            have BC := Lib.hid (below_next bc B5.out)
            clear bc B5
            go_wp2_with fail
            go_ret
            exact ⟨rfl, BC.out⟩
          · have z1 : (g != 0) = false := by simp [hg]
            have z2 : (hh != 0) = true := bne_iff_ne.2 hh0
            have B5 := Lib.hid B9.out
            clear hg hh0 FQ
            go_wp2_with fail
            refine (K.out _).mono ?_; rintro e wc ⟨rfl, bc⟩
            have BC := Lib.hid (below_next bc B5.out)
            clear bc B5
            go_wp2_with fail
            go_ret
            exact ⟨rfl, BC.out⟩
        · have z1 : (g != 0) = true := bne_iff_ne.2 hg
          have B5 := Lib.hid B9.out
          clear hg FQ
          go_wp2_with fail
          refine (K.out _).mono ?_; rintro e wc ⟨rfl, bc⟩
          have BC := Lib.hid (below_next bc B5.out)
          clear bc B5
          go_wp2_with fail
          go_ret
          exact ⟨rfl, BC.out⟩
      · have s1 : decide (t ≥ f) = false := decide_eq_false h1
        have s1' : decide (f ≤ t) = false := s1
        clear hin h0 h1 HV
        go_enter Try.func9, Try.ntmps9
        go_wp2_with fail
        refine HM.out.mono ?_; rintro e w0 ⟨rfl, hw⟩; subst hw
        go_wp2_with fail
        refine CA.out.mono ?_; rintro e w1 ⟨rfl, b1⟩
        have B1 := Lib.hid b1
        clear b1 CA
        go_wp2_with fail
        refine (F1.out _ B1.out).mono ?_; rintro e w2 ⟨va, rfl, oa, b2⟩
        have RA := Lib.hid (lrow_of_owns oa)
        have B2 := Lib.hid (below_next b2 B1.out)
        clear b2 B1 F1 oa
        go_wp2_with fail
        refine (FB.out _ _ RA.out).mono ?_; rintro e w3 ⟨vb, rfl, ob, b3⟩
        have RB := Lib.hid (lrow_of_owns ob)
        have RA3 := Lib.hid (RA.out.kept b3)
        have B3 := Lib.hid (below_next b3 B2.out)
        clear b3 ob B2 RA FB
        go_wp2_with fail
        refine (SA.out xs _ _ _ HX.out RB.out (HK.out.kept B3.out)).mono ?_; rintro e w4 ⟨rfl, b4⟩
        have RA4 := Lib.hid (RA3.out.kept b4)
        have B4 := Lib.hid (below_next b4 B3.out)
        clear b4 RB RA3 B3
        go_wp2_with fail
        refine (CK.out _ _ RA4.out).mono ?_; rintro e w5 ⟨rfl, b5⟩
        have RA5 := Lib.hid (RA4.out.kept b5)
        have B6 := Lib.hid (below_next b5 B4.out)
        clear b5 RA4 B4 CK
        obtain ⟨c0, c1⟩ := HCA.out.at B6.out hlen
        simp only [Nat.zero_mul, Nat.add_zero] at c0 c1
        rw [← HP0.out] at c0
        go_wp2_with fail
        refine (AT.out _ B6.out).mono ?_; rintro e w6 ⟨rfl, b6⟩
        have RA6 := Lib.hid (RA5.out.kept b6)
        have B7 := Lib.hid (below_next b6 B6.out)
        clear b6 RA5 B6
        go_wp2_with fail
        refine (AA.out _ _ RA6.out).mono ?_; rintro e w7 ⟨rfl, b7⟩
        have RA5 := Lib.hid (RA6.out.kept b7)
        have B6 := Lib.hid (below_next b7 B7.out)
        clear b7 RA6 B7
        go_wp2_with fail
        refine (FC.out _ _ RA5.out).mono ?_; rintro e w8 ⟨vc, rfl, oc, b8⟩
        have RC := Lib.hid (lrow_of_owns oc)
        have B8 := Lib.hid (below_next b8 B6.out)
        clear b8 oc RA5 B6
        go_wp2_with fail
        refine (FD.out _ B8.out).mono ?_; rintro e w9 ⟨vd, rfl, od, b9⟩
        have RD := Lib.hid (lrow_of_owns od)
        have RC9 := Lib.hid (RC.out.kept b9)
        have B9 := Lib.hid (below_next b9 B8.out)
        clear b9 od RC B8
        by_cases hg : g = 0
        · by_cases hh0 : hh = 0
          · have z1 : (g != 0) = false := by simp [hg]
            have z2 : (hh != 0) = false := by simp [hh0]
            have FQ' := Lib.hid (FQ.out hg hh0)
            clear hg hh0 FQ
            go_wp2_with fail
            refine (FQ'.out _ _ RD.out).mono ?_; rintro e wa ⟨vq, rfl, oq, ba⟩
            have RQ := Lib.hid (lrow_of_owns oq)
            have RCA := Lib.hid (RC9.out.kept ba)
            have BA := Lib.hid (below_next ba B9.out)
            clear ba oq RC9 B9 RD FQ'
            go_wp2_with fail
            refine (SA.out C _ _ _ HCL.out RCA.out RQ.out).mono ?_; rintro e wb ⟨rfl, bb⟩
            have B5 := Lib.hid (below_next bb BA.out)
            clear bb BA RCA RQ
            go_wp2_with fail
            refine (K.out _).mono ?_; rintro e wc ⟨rfl, bc⟩
            have BC := Lib.hid (below_next bc B5.out)
            clear bc B5
            go_wp2_with fail
            go_ret
            exact ⟨rfl, BC.out⟩
          · have z1 : (g != 0) = false := by simp [hg]
            have z2 : (hh != 0) = true := bne_iff_ne.2 hh0
            have B5 := Lib.hid B9.out
            clear hg hh0 FQ
            go_wp2_with fail
            refine (K.out _).mono ?_; rintro e wc ⟨rfl, bc⟩
            have BC := Lib.hid (below_next bc B5.out)
            clear bc B5
            go_wp2_with fail
            go_ret
            exact ⟨rfl, BC.out⟩
        · have z1 : (g != 0) = true := bne_iff_ne.2 hg
          have B5 := Lib.hid B9.out
          clear hg FQ
          go_wp2_with fail
          refine (K.out _).mono ?_; rintro e wc ⟨rfl, bc⟩
          have BC := Lib.hid (below_next bc B5.out)
          clear bc B5
          go_wp2_with fail
          go_ret
          exact ⟨rfl, BC.out⟩
  · have s0 : decide (t ≥ p0) = false := decide_eq_false h0
    have s0' : decide (p0 ≤ t) = false := s0
    clear HVA h0
    go_enter Try.func9, Try.ntmps9
    go_wp2_with fail
    refine HM.out.mono ?_; rintro e w0 ⟨rfl, hw⟩; subst hw
    go_wp2_with fail
    refine CA.out.mono ?_; rintro e w1 ⟨rfl, b1⟩
    have B1 := Lib.hid b1
    clear b1 CA
    go_wp2_with fail
    refine (F1.out _ B1.out).mono ?_; rintro e w2 ⟨va, rfl, oa, b2⟩
    have RA := Lib.hid (lrow_of_owns oa)
    have B2 := Lib.hid (below_next b2 B1.out)
    clear b2 B1 F1 oa
    go_wp2_with fail
    refine (FB.out _ _ RA.out).mono ?_; rintro e w3 ⟨vb, rfl, ob, b3⟩
    have RB := Lib.hid (lrow_of_owns ob)
    have RA3 := Lib.hid (RA.out.kept b3)
    have B3 := Lib.hid (below_next b3 B2.out)
    clear b3 ob B2 RA FB
    go_wp2_with fail
    refine (SA.out xs _ _ _ HX.out RB.out (HK.out.kept B3.out)).mono ?_; rintro e w4 ⟨rfl, b4⟩
    have RA4 := Lib.hid (RA3.out.kept b4)
    have B4 := Lib.hid (below_next b4 B3.out)
    clear b4 RB RA3 B3
    go_wp2_with fail
    refine (CK.out _ _ RA4.out).mono ?_; rintro e w5 ⟨rfl, b5⟩
    have RA5 := Lib.hid (RA4.out.kept b5)
    have B6 := Lib.hid (below_next b5 B4.out)
    clear b5 RA4 B4 CK
    obtain ⟨c0, c1⟩ := HCA.out.at B6.out hlen
    simp only [Nat.zero_mul, Nat.add_zero] at c0 c1
    rw [← HP0.out] at c0
    go_wp2_with fail
    refine (FC.out _ _ RA5.out).mono ?_; rintro e w8 ⟨vc, rfl, oc, b8⟩
    have RC := Lib.hid (lrow_of_owns oc)
    have B8 := Lib.hid (below_next b8 B6.out)
    clear b8 oc RA5 B6
    go_wp2_with fail
    refine (FD.out _ B8.out).mono ?_; rintro e w9 ⟨vd, rfl, od, b9⟩
    have RD := Lib.hid (lrow_of_owns od)
    have RC9 := Lib.hid (RC.out.kept b9)
    have B9 := Lib.hid (below_next b9 B8.out)
    clear b9 od RC B8
    by_cases hg : g = 0
    · by_cases hh0 : hh = 0
      · have z1 : (g != 0) = false := by simp [hg]
        have z2 : (hh != 0) = false := by simp [hh0]
        have FQ' := Lib.hid (FQ.out hg hh0)
        clear hg hh0 FQ
        go_wp2_with fail
        refine (FQ'.out _ _ RD.out).mono ?_; rintro e wa ⟨vq, rfl, oq, ba⟩
        have RQ := Lib.hid (lrow_of_owns oq)
        have RCA := Lib.hid (RC9.out.kept ba)
        have BA := Lib.hid (below_next ba B9.out)
        clear ba oq RC9 B9 RD FQ'
        go_wp2_with fail
        refine (SA.out C _ _ _ HCL.out RCA.out RQ.out).mono ?_; rintro e wb ⟨rfl, bb⟩
        have B5 := Lib.hid (below_next bb BA.out)
        clear bb BA RCA RQ
        go_wp2_with fail
        refine (K.out _).mono ?_; rintro e wc ⟨rfl, bc⟩
        have BC := Lib.hid (below_next bc B5.out)
        clear bc B5
        go_wp2_with fail
        go_ret
        exact ⟨rfl, BC.out⟩
      · have z1 : (g != 0) = false := by simp [hg]
        have z2 : (hh != 0) = true := bne_iff_ne.2 hh0
        have B5 := Lib.hid B9.out
        clear hg hh0 FQ
        go_wp2_with fail
        refine (K.out _).mono ?_; rintro e wc ⟨rfl, bc⟩
        have BC := Lib.hid (below_next bc B5.out)
        clear bc B5
        go_wp2_with fail
        go_ret
        exact ⟨rfl, BC.out⟩
    · have z1 : (g != 0) = true := bne_iff_ne.2 hg
      have B5 := Lib.hid B9.out
      clear hg FQ
      go_wp2_with fail
      refine (K.out _).mono ?_; rintro e wc ⟨rfl, bc⟩
      have BC := Lib.hid (below_next bc B5.out)
      clear bc B5
      go_wp2_with fail
      go_ret
      exact ⟨rfl, BC.out⟩

theorem walk (v : Value) (xs : List Lv) (f N n t other : Int) (w : World) (w0 : LArg w v xs) (w1 : (Lit.int .i64 f).wf = true) (w2 : (Lit.int .i64 N).wf = true) (w3 : (Lit.int .i64 n).wf = true) (w4 : (Lit.int .i64 t).wf = true) (w5 : (Lit.int .i64 other).wf = true) :
    Calls Try.prog 9 #[v, .int .i64 f, .int .i64 N, .int .i64 n, .int .i64 t, .int .i64 other] w fun e w' => e = .returned (.bool true) ∧ Below w.heap.size w w' := by
  obtain ⟨hk, ⟨a, c, rfl⟩, hm, hok⟩ := w0
  by_cases h : 100 < xs.length
  · exact long a xs.length c f N n t other w h
  · by_cases ho : okP xs
    · by_cases hgood : (changeV xs f N n).2 = 0
      · have hk0 := hk
        rcases hk with ⟨rfl, _⟩ | ⟨b, off, c2, hav, _, r1, r2, hca⟩
        · exact absurd rfl ho.1
        obtain ⟨rfl, _, rfl⟩ : a = some ⟨b, off, none⟩ ∧ True ∧ c = c2 := by simpa using hav
        exact main b off c xs f N n t other w hca hk0 (by omega) ho hgood
      · exact bad a c xs f N n t other w hk (by omega) ho hgood
    · exact none_ a c xs f N n t other w hk (by omega) ho


set_option maxRecDepth 100000 in
theorem lifted (os : Os) (started : os.Started) (H : Type) (enc : TypeId × Value → H) :
    ReturnsInHanded {} Try.checked os 9 .any (Rows.profileBackSpec.pre6 enc Try.prog Try.f9 Rows.profileBackRow.domain false) (Rows.profileBackSpec.post enc Try.prog Try.f9 false true false false) := by
  refine returnsInHanded_of_change (C := Try.checked) own started (by kernel_rfl) Try.func9
    (ChangeSpec.witness6 (enc := enc) (C := Try.checked) false ⟨#[], #[.slice none 0 0, .int .i64 0, .int .i64 0, .int .i64 0, .int .i64 0, .int .i64 0], []⟩ 8 (by kernel_rfl) (by kernel_rfl) (by kernel_rfl) (by kernel_rfl)) ?_
  intro W base args ds gs before hval0 hW _ _
  have hval : ∀ (j : Nat) t v, Try.f9.params[j]? = some t → args[j]? = some v → Value.okWide Try.prog W .any base t v := hval0
  have hW' := hW
  obtain ⟨p, q, hA0, hV, rfl, hfz, hnd⟩ := hW
  have hA : DataW.TrodAll enc Try.prog W 0 (fun _ => true) true Try.f9.params.toList args.toList ds p := hA0
  rw [Try.params9] at hA hval
  obtain ⟨v0, vs0, d0, ds0, p0, q0, hargs, rfl, rfl, h0, r0⟩ := trodAll_cons hA
  obtain ⟨v1, vs1, d1, ds1, p1, q1, rfl, rfl, rfl, h1, r1⟩ := trodAll_cons r0
  obtain ⟨v2, vs2, d2, ds2, p2, q2, rfl, rfl, rfl, h2, r2⟩ := trodAll_cons r1
  obtain ⟨v3, vs3, d3, ds3, p3, q3, rfl, rfl, rfl, h3, r3⟩ := trodAll_cons r2
  obtain ⟨v4, vs4, d4, ds4, p4, q4, rfl, rfl, rfl, h4, r4⟩ := trodAll_cons r3
  obtain ⟨v5, vs5, d5, ds5, p5, q5, rfl, rfl, rfl, h5, r5⟩ := trodAll_cons r4
  obtain ⟨rfl, rfl, rfl⟩ := trodAll_nil r5
  obtain rfl : args = #[v0, v1, v2, v3, v4, v5] := by cases args; simp_all
  obtain ⟨p, w0⟩ := open_levels_arg h0 (okWide_slice Try.underlying22 (hval 0 22 v0 rfl rfl))
  obtain ⟨f, rfl, rfl, rfl, w1⟩ := open_int Try.underlying3 (hval 1 3 v1 rfl rfl) h1
  obtain ⟨length, rfl, rfl, rfl, w2⟩ := open_int Try.underlying3 (hval 2 3 v2 rfl rfl) h2
  obtain ⟨n, rfl, rfl, rfl, w3⟩ := open_int Try.underlying3 (hval 3 3 v3 rfl rfl) h3
  obtain ⟨t, rfl, rfl, rfl, w4⟩ := open_int Try.underlying3 (hval 4 3 v4 rfl rfl) h4
  obtain ⟨other, rfl, rfl, rfl, w5⟩ := open_int Try.underlying3 (hval 5 3 v5 rfl rfl) h5
  clear hA0 hval0
  refine (walk v0 p f length n t other W w0 w1 w2 w3 w4 w5).mono fun e W' ⟨he, hb⟩ => ?_
  subst he
  exact ⟨_, rfl, law_post (by kernel_rfl) (by kernel_rfl) rfl Try.underlying4 rfl hW' rfl hb⟩

theorem over : Rows.profileBackRow.holds Try.pinned (OpenSpec.ofChange Rows.profileBackSpec) :=
  OpenClaim.holds_of_wide 9 Try.f9 rfl rfl rfl rfl rfl rfl rfl ⟨rfl, rfl, rfl, rfl, rfl⟩ rfl rfl rfl rfl rfl (by kernel_rfl) Try.func9 (by kernel_rfl)
    (of_decide_eq_true (by kernel_rfl)) (by unfold Func.isWrapper; first | (rw [if_pos (by decide +kernel)]; kernel_rfl) | (rw [if_neg (by decide +kernel)]; exact ⟨rfl, rfl⟩))
    (fun os started H enc _ => lifted os started H enc)

theorem proved : Rows.ProfileBackSaid :=
  over
#print axioms proved
end Go.Proofs.Ytnbgipegfnpobaa.profileBack
