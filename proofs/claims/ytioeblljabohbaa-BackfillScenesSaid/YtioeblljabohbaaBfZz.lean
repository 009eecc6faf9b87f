/-
  backfill.At.
  backfill.Earliest at scenes that may be.
  backfill.At, backfill.Earliest: at what may not be.
-/
import Derived.Test.YtioeblljabohbaaBfX
import Derived.Test.YtioeblljabohbaaBfTk
namespace Go.Proofs.Ytioeblljabohbaa
set_option linter.unusedVariables false

section
open Go Go.RowKit Go.Lib Go.Sort
theorem firstB_eq {c : Sc} {F : List HeT} (h : F.Perm c.hl) (q a b : Nat) : atV ⟨c.n, c.fl, F⟩ q a b = atV c q a b := by
  unfold atV; rw [firstB_perm h]
theorem code_some (N : Int) (FL : List Int) (HL : List HeI) : ∃ er, BfCode N FL HL er := by
  by_cases h : Good N FL HL
  · exact ⟨0, .inl ⟨rfl, h⟩⟩
  · exact ⟨2, .inr ⟨rfl, h⟩⟩
set_option maxRecDepth 100000 in
set_option maxHeartbeats 4000000 in
theorem At_ok (vf vh : Value) (c : Sc) (q a b : Nat) (w : World) (hc : ScOk c) (hr : SRow w vf vh c) (hq : q ≤ c.n) (hab : a < b) (hb : b < 9223372036854775808) :
    Calls Try.prog 13 #[.agg #[.int .i64 (c.n : Nat), vf, vh], .int .i64 (q : Nat), .int .i64 (a : Nat), .int .i64 (b : Nat)] w fun e w' => e = .returned (.tuple #[.int .i64 (atV c q a b).1, .bool (atV c q a b).2]) ∧ Below w.heap.size w w' := by
  have hgood : Good (c.n : Int) (nsI c.fl) (c.hl.map heZ) := ⟨c, hc, rfl, rfl, rfl⟩
  have hfm : (nsI c.fl).length ≤ maxLen := by rw [nsI_len]; have := fl_len hc; unfold maxLen; omega
  have hhm : (c.hl.map heZ).length ≤ maxLen := by rw [List.length_map]; have := hc.len; unfold maxLen; omega
  have CK : Hid (∀ w1, Below w.heap.size w w1 → Calls Try.prog 11 #[.agg #[.int .i64 (c.n : Nat), vf, vh]] w1 fun e w' => e = .returned (.int .i64 0) ∧ Below w1.heap.size w1 w') := fun w1 h1 =>
    (check_any (c.n : Int) vf vh _ _ w1 (hr.f.kept h1) (hr.h.kept h1) hfm hhm).mono fun e w' ⟨er, he, hcd, hbl⟩ => by
      have := hcd.det (.inl ⟨rfl, hgood⟩)
      rw [this] at he; exact ⟨he, hbl⟩
  have WI : Hid (∀ w1, Calls Try.prog 28 #[.int .i64 (q : Nat), .int .i64 0, .int .i64 (c.n : Nat)] w1 fun e w' => e = .returned (.bool true) ∧ w' = w1) := fun w1 => by
    have h := within_any (q : Int) 0 (c.n : Int) w1
    rw [wiB_iff.2 (by omega)] at h; exact h
  have NB : Hid (∀ w1, Below w.heap.size w w1 → Calls Try.prog 35 #[.agg #[.int .i64 (c.n : Nat), vf, vh]] w1 fun e w' => ∃ bd, e = .returned (.pointer (some ⟨bd, 0, none⟩)) ∧ Below w1.heap.size w1 w' ∧ ∀ w2, Below w'.heap.size w' w2 →
      Calls Try.prog 36 #[.pointer (some ⟨bd, 0, none⟩), .int .i64 (q : Nat), .int .i64 (a : Nat), .int .i64 (b : Nat)] w2 fun e w' => e = .returned (.tuple #[.int .i64 (atV c q a b).1, .bool (atV c q a b).2]) ∧ Below w2.heap.size w2 w') := fun w1 h1 =>
    (newBoard_any c.n vf vh c.fl c.hl w1 (hr.f.kept h1) (hr.h.kept h1) (by have := hc.len; omega)).mono fun e w' ⟨bd, F, T, he, hbd, hsF, hpF, hsT, hpT, hbl⟩ => by
      refine ⟨bd, he, hbl, fun w2 h2 => ?_⟩
      have h := at_any bd w1.heap.size c.n q a b c.fl F T w2 (hbd.kept h2) hc.n10 hq hc.lt (by have := fl_len hc; omega) (fun x hx => (hc.he x (hpF.mem_iff.1 hx)).two) (by have := hc.len; have := hpF.length_eq; omega) (by omega) hb
      rw [firstB_eq hpF] at h
      exact h
  obtain ⟨⟨r1, r2⟩, hrr⟩ : ∃ r, r = atV c q a b := ⟨_, rfl⟩
  rw [← hrr] at NB ⊢
  obtain ⟨fa, fc, rfl⟩ := hr.f.slice
  obtain ⟨ha, hc2, rfl⟩ := hr.h.slice
  obtain ⟨LF, hLF⟩ : ∃ n, n = (nsI c.fl).length := ⟨_, rfl⟩
  obtain ⟨LH, hLH⟩ : ∃ n, n = (c.hl.map heZ).length := ⟨_, rfl⟩
  rw [← hLF, ← hLH] at CK NB ⊢
  obtain ⟨N, hN⟩ : ∃ n, n = c.n := ⟨_, rfl⟩
  rw [← hN] at CK NB WI hq ⊢
  have hN10 : N ≤ 10 := by rw [hN]; exact hc.n10
  clear hgood hfm hhm hLF hLH hN hr hrr hc
  obtain ⟨gS, hgS⟩ : ∃ g, g = w.heap.size := ⟨_, rfl⟩
  obtain ⟨W, hW⟩ : ∃ W, W = w.alloc (.cells #[.int .i64 (N : Nat), .slice fa LF fc, .slice ha LH hc2] 25) := ⟨_, rfl⟩
  have HBW : Hid (Below w.heap.size w W) := by unfold Hid; rw [hW]; exact (Below.refl _ _).alloc (Nat.le_refl _) _
  have HS : Hid (Blk W gS #[.int .i64 (N : Nat), .slice fa LF fc, .slice ha LH hc2] 25) := by unfold Hid; rw [hW, hgS]; exact Blk.new w _ _
  have s0 := HS.out.cell 0
  have s1 := HS.out.cell 1
  have s2 := HS.out.cell 2
  simp at s0 s1 s2
  have d1 : decide ((a : Int) < 0) = false := decide_eq_false (by omega)
  have d2 : decide ((b : Int) ≤ (a : Int)) = false := decide_eq_false (by omega)
  have d3 : decide (b ≤ a) = false := decide_eq_false (by omega)
  have d4 : ¬ (b : Int) ≤ (a : Int) := by omega
  have CKW := Lib.hid (CK.out W HBW.out)
  clear CK
  go_enter Try.func13, Try.ntmps13
  go_upto_region 1 with fail
  rw [← hW, ← hgS]
  clear hW hgS
  go_wp2_with fail
  refine CKW.out.mono ?_; rintro e w1 ⟨rfl, b1⟩
  have HB1 := Lib.hid (below_next b1 HBW.out)
  replace s0 := cell_next b1 s0
  replace s1 := cell_next b1 s1
  replace s2 := cell_next b1 s2
  have NB1 := Lib.hid (NB.out w1 HB1.out)
  clear b1 CKW HS NB
  go_wp2_with fail
  refine (WI.out _).mono ?_; rintro e w2 ⟨rfl, hw⟩; subst hw
  go_wp2_with fail
  refine NB1.out.mono ?_; rintro e w3 ⟨bd, rfl, b3, hat⟩
  have HB3 := Lib.hid (below_next b3 HB1.out)
  have AT := Lib.hid (hat w3 (Below.refl _ _))
  clear b3 hat NB1
  go_wp2_with fail
  refine AT.out.mono ?_; rintro e w4 ⟨rfl, b4⟩
  have HB4 := Lib.hid (below_next b4 HB3.out)
  clear b4 AT
  go_wp2_with fail
  go_ret2
  exact ⟨rfl, HB4.out⟩
end

section
open Go Go.RowKit Go.Lib Go.Sort
set_option maxRecDepth 100000 in
set_option maxHeartbeats 4000000 in
theorem Earliest_ok (vf vh : Value) (c : Sc) (q a len : Nat) (w : World) (hc : ScOk c) (hr : SRow w vf vh c) (hq : q ≤ c.n) (ha : a ≤ 1099511627776) (hl1 : 1 ≤ len) (hl : len ≤ 1099511627776) :
    Calls Try.prog 18 #[.agg #[.int .i64 (c.n : Nat), vf, vh], .int .i64 (q : Nat), .int .i64 (a : Nat), .int .i64 (len : Nat)] w fun e w' => e = .returned (.tuple #[.int .i64 (earlyE c q a len).1, .int .i64 (earlyE c q a len).2.1, .int .i64 (earlyE c q a len).2.2]) ∧ Below w.heap.size w w' := by
  have hgood : Good (c.n : Int) (nsI c.fl) (c.hl.map heZ) := ⟨c, hc, rfl, rfl, rfl⟩
  have hfm : (nsI c.fl).length ≤ maxLen := by rw [nsI_len]; have := fl_len hc; unfold maxLen; omega
  have hhm : (c.hl.map heZ).length ≤ maxLen := by rw [List.length_map]; have := hc.len; unfold maxLen; omega
  have CK : Hid (∀ w1, Below w.heap.size w w1 → Calls Try.prog 11 #[.agg #[.int .i64 (c.n : Nat), vf, vh]] w1 fun e w' => e = .returned (.int .i64 0) ∧ Below w1.heap.size w1 w') := fun w1 h1 =>
    (check_any (c.n : Int) vf vh _ _ w1 (hr.f.kept h1) (hr.h.kept h1) hfm hhm).mono fun e w' ⟨er, he, hcd, hbl⟩ => by
      have := hcd.det (.inl ⟨rfl, hgood⟩)
      rw [this] at he; exact ⟨he, hbl⟩
  have WI : Hid (∀ w1, Calls Try.prog 28 #[.int .i64 (q : Nat), .int .i64 0, .int .i64 (c.n : Nat)] w1 fun e w' => e = .returned (.bool true) ∧ w' = w1) := fun w1 => by
    have h := within_any (q : Int) 0 (c.n : Int) w1
    rw [wiB_iff.2 (by omega)] at h; exact h
  have NB : Hid (∀ w1, Below w.heap.size w w1 → Calls Try.prog 35 #[.agg #[.int .i64 (c.n : Nat), vf, vh]] w1 fun e w' => ∃ bd, e = .returned (.pointer (some ⟨bd, 0, none⟩)) ∧ Below w1.heap.size w1 w' ∧ ∀ w2, Below w'.heap.size w' w2 →
      Calls Try.prog 40 #[.pointer (some ⟨bd, 0, none⟩), .int .i64 (q : Nat), .int .i64 (a : Nat), .int .i64 (len : Nat)] w2 fun e w' => e = .returned (.tuple #[.int .i64 (earlyB c q a len).1, .int .i64 (earlyB c q a len).2.1, .bool (earlyB c q a len).2.2]) ∧ Below w2.heap.size w2 w') := fun w1 h1 =>
    (newBoard_any c.n vf vh c.fl c.hl w1 (hr.f.kept h1) (hr.h.kept h1) (by have := hc.len; omega)).mono fun e w' ⟨bd, F, T, he, hbd, hsF, hpF, hsT, hpT, hbl⟩ => by
      refine ⟨bd, he, hbl, fun w2 h2 => ?_⟩
      have h := earliest_any bd w1.heap.size c.n q a len c.fl F T w2 (hbd.kept h2) hc.n10 hq hc.lt (by have := fl_len hc; omega) (fun x hx => (hc.he x (hpF.mem_iff.1 hx)).two) (by have := hc.len; have := hpF.length_eq; omega) (hpT.trans hpF.symm) hsF hsT (by omega) (by omega)
      rw [earlyV_canon hpF hsT hpT] at h
      exact h
  have WA : Hid (∀ w1, Calls Try.prog 28 #[.int .i64 (a : Nat), .int .i64 0, .int .i64 1099511627776] w1 fun e w' => e = .returned (.bool true) ∧ w' = w1) := fun w1 => by
    have h := within_any (a : Int) 0 1099511627776 w1
    rw [wiB_iff.2 (by omega)] at h; exact h
  have WL : Hid (∀ w1, Calls Try.prog 28 #[.int .i64 (len : Nat), .int .i64 1, .int .i64 1099511627776] w1 fun e w' => e = .returned (.bool true) ∧ w' = w1) := fun w1 => by
    have h := within_any (len : Int) 1 1099511627776 w1
    rw [wiB_iff.2 (by omega)] at h; exact h
  have EB : Hid ((∃ t s, earlyB c q a len = ((t : Int), (s : Int), true) ∧ earlyE c q a len = ((t : Int), (s : Int), 0)) ∨ (earlyB c q a len = (0, 0, false) ∧ earlyE c q a len = (0, 0, 5))) := by
    unfold Hid earlyB earlyE
    cases earlyC c q a len with
    | none => exact .inr ⟨rfl, rfl⟩
    | some x => exact .inl ⟨x.1, x.2, rfl, rfl⟩
  obtain ⟨rb, hrb⟩ : ∃ r, r = earlyB c q a len := ⟨_, rfl⟩
  obtain ⟨re, hre⟩ : ∃ r, r = earlyE c q a len := ⟨_, rfl⟩
  rw [← hrb] at NB EB
  rw [← hre] at EB ⊢
  obtain ⟨fa, fc, rfl⟩ := hr.f.slice
  obtain ⟨ha, hc2, rfl⟩ := hr.h.slice
  obtain ⟨LF, hLF⟩ : ∃ n, n = (nsI c.fl).length := ⟨_, rfl⟩
  obtain ⟨LH, hLH⟩ : ∃ n, n = (c.hl.map heZ).length := ⟨_, rfl⟩
  rw [← hLF, ← hLH] at CK NB ⊢
  obtain ⟨N, hN⟩ : ∃ n, n = c.n := ⟨_, rfl⟩
  rw [← hN] at CK NB WI hq ⊢
  have hN10 : N ≤ 10 := by rw [hN]; exact hc.n10
  clear hgood hfm hhm hLF hLH hN hr hrb hre hc
  obtain ⟨gS, hgS⟩ : ∃ g, g = w.heap.size := ⟨_, rfl⟩
  obtain ⟨W, hW⟩ : ∃ W, W = w.alloc (.cells #[.int .i64 (N : Nat), .slice fa LF fc, .slice ha LH hc2] 25) := ⟨_, rfl⟩
  have HBW : Hid (Below w.heap.size w W) := by unfold Hid; rw [hW]; exact (Below.refl _ _).alloc (Nat.le_refl _) _
  have HS : Hid (Blk W gS #[.int .i64 (N : Nat), .slice fa LF fc, .slice ha LH hc2] 25) := by unfold Hid; rw [hW, hgS]; exact Blk.new w _ _
  have s0 := HS.out.cell 0
  have s1 := HS.out.cell 1
  have s2 := HS.out.cell 2
  simp at s0 s1 s2
  have CKW := Lib.hid (CK.out W HBW.out)
  clear CK
  go_enter Try.func18, Try.ntmps18
  go_upto_region 1 with fail
  rw [← hW, ← hgS]
  clear hW hgS
  go_wp2_with fail
  refine CKW.out.mono ?_; rintro e w1 ⟨rfl, b1⟩
  have HB1 := Lib.hid (below_next b1 HBW.out)
  replace s0 := cell_next b1 s0
  replace s1 := cell_next b1 s1
  replace s2 := cell_next b1 s2
  have NB1 := Lib.hid (NB.out w1 HB1.out)
  clear b1 CKW HS NB
  go_wp2_with fail
  refine (WI.out _).mono ?_; rintro e w2 ⟨rfl, hw⟩; subst hw
  go_wp2_with fail
  refine (WA.out _).mono ?_; rintro e w2 ⟨rfl, hw⟩; subst hw
  go_wp2_with fail
  refine (WL.out _).mono ?_; rintro e w2 ⟨rfl, hw⟩; subst hw
  go_wp2_with fail
  refine NB1.out.mono ?_; rintro e w3 ⟨bd, rfl, b3, hat⟩
  have HB3 := Lib.hid (below_next b3 HB1.out)
  have AT := Lib.hid (hat w3 (Below.refl _ _))
  clear b3 hat NB1
  rcases EB.out with ⟨t, s, rfl, rfl⟩ | ⟨rfl, rfl⟩
  · clear EB
    dsimp only at AT
    go_wp2_with fail
    refine AT.out.mono ?_; rintro e w4 ⟨rfl, b4⟩
    have HB4 := Lib.hid (below_next b4 HB3.out)
    clear b4 AT
    go_wp2_with fail
    go_ret3
    exact ⟨rfl, HB4.out⟩
  · clear EB
    dsimp only at AT
    go_wp2_with fail
    refine AT.out.mono ?_; rintro e w4 ⟨rfl, b4⟩
    have HB4 := Lib.hid (below_next b4 HB3.out)
    clear b4 AT
    go_wp2_with fail
    go_ret3
    exact ⟨rfl, HB4.out⟩
end

section
open Go Go.RowKit Go.Lib Go.Sort
set_option maxRecDepth 100000 in
set_option maxHeartbeats 4000000 in
theorem At_no (N Q A T : Int) (vf vh : Value) (FL : List Int) (HL : List HeI) (w : World) (hf : GRow w vf FL) (hh : HRow w vh HL) (hfl : FL.length ≤ maxLen) (hhl : HL.length ≤ maxLen) (hno : ¬ (Good N FL HL ∧ (0 ≤ Q ∧ Q ≤ N) ∧ 0 ≤ A ∧ A < T)) :
    Calls Try.prog 13 #[.agg #[.int .i64 N, vf, vh], .int .i64 Q, .int .i64 A, .int .i64 T] w fun e w' => e = .returned (.tuple #[.int .i64 0, .bool false]) ∧ Below w.heap.size w w' := by
  obtain ⟨er, hcd⟩ := code_some N FL HL
  have CK : Hid (∀ w1, Below w.heap.size w w1 → Calls Try.prog 11 #[.agg #[.int .i64 N, vf, vh]] w1 fun e w' => e = .returned (.int .i64 er) ∧ Below w1.heap.size w1 w') := fun w1 h1 =>
    (check_any N vf vh _ _ w1 (hf.kept h1) (hh.kept h1) hfl hhl).mono fun e w' ⟨er2, he, hcd2, hbl⟩ => by
      have := hcd2.det hcd
      rw [this] at he; exact ⟨he, hbl⟩
  have WI : Hid (∀ w1, Calls Try.prog 28 #[.int .i64 Q, .int .i64 0, .int .i64 N] w1 fun e w' => e = .returned (.bool (wiB Q 0 N)) ∧ w' = w1) := fun w1 => within_any Q 0 N w1
  obtain ⟨fa, fc, rfl⟩ := hf.slice
  obtain ⟨ha, hc2, rfl⟩ := hh.slice
  obtain ⟨LF, hLF⟩ : ∃ n, n = FL.length := ⟨_, rfl⟩
  obtain ⟨LH, hLH⟩ : ∃ n, n = HL.length := ⟨_, rfl⟩
  rw [← hLF, ← hLH] at CK ⊢
  clear hLF hLH hf hh hfl hhl
  obtain ⟨gS, hgS⟩ : ∃ g, g = w.heap.size := ⟨_, rfl⟩
  obtain ⟨W, hW⟩ : ∃ W, W = w.alloc (.cells #[.int .i64 N, .slice fa LF fc, .slice ha LH hc2] 25) := ⟨_, rfl⟩
  have HBW : Hid (Below w.heap.size w W) := by unfold Hid; rw [hW]; exact (Below.refl _ _).alloc (Nat.le_refl _) _
  have HS : Hid (Blk W gS #[.int .i64 N, .slice fa LF fc, .slice ha LH hc2] 25) := by unfold Hid; rw [hW, hgS]; exact Blk.new w _ _
  have s0 := HS.out.cell 0
  have s1 := HS.out.cell 1
  have s2 := HS.out.cell 2
  simp at s0 s1 s2
  have CKW := Lib.hid (CK.out W HBW.out)
  clear CK HS
  by_cases hg : Good N FL HL
  · have her : er = 0 := hcd.det (.inl ⟨rfl, hg⟩)
    subst her
    by_cases hq : 0 ≤ Q ∧ Q ≤ N
    · rw [wiB_iff.2 hq] at WI
      by_cases hA : A < 0
      · have d1 : decide (A < 0) = true := decide_eq_true hA
        clear hno hg hcd hq
        go_enter Try.func13, Try.ntmps13
        go_upto_region 1 with fail
        rw [← hW, ← hgS]
        clear hW hgS
        go_wp2_with fail
        refine CKW.out.mono ?_; rintro e w1 ⟨rfl, b1⟩
        have HB1 := Lib.hid (below_next b1 HBW.out)
        replace s0 := cell_next b1 s0
        replace s1 := cell_next b1 s1
        replace s2 := cell_next b1 s2
        clear b1 CKW
        go_wp2_with fail
        refine (WI.out _).mono ?_; rintro e w2 ⟨rfl, hw⟩; subst hw
        go_wp2_with fail
        go_ret2
        exact ⟨rfl, HB1.out⟩
      · have d1 : decide (A < 0) = false := decide_eq_false hA
        have hT : T ≤ A := by
          apply Classical.byContradiction
          intro h
          exact hno ⟨hg, hq, by omega, by omega⟩
        have d2 : decide (T ≤ A) = true := decide_eq_true hT
        clear hno hg hcd hq
        go_enter Try.func13, Try.ntmps13
        go_upto_region 1 with fail
        rw [← hW, ← hgS]
        clear hW hgS
        go_wp2_with fail
        refine CKW.out.mono ?_; rintro e w1 ⟨rfl, b1⟩
        have HB1 := Lib.hid (below_next b1 HBW.out)
        replace s0 := cell_next b1 s0
        replace s1 := cell_next b1 s1
        replace s2 := cell_next b1 s2
        clear b1 CKW
        go_wp2_with fail
        refine (WI.out _).mono ?_; rintro e w2 ⟨rfl, hw⟩; subst hw
        go_wp2_with fail
        go_ret2
        exact ⟨rfl, HB1.out⟩
    · rw [wiB_no hq] at WI
      clear hno hg hcd hq
      go_enter Try.func13, Try.ntmps13
      go_upto_region 1 with fail
      rw [← hW, ← hgS]
      clear hW hgS
      go_wp2_with fail
      refine CKW.out.mono ?_; rintro e w1 ⟨rfl, b1⟩
      have HB1 := Lib.hid (below_next b1 HBW.out)
      replace s0 := cell_next b1 s0
      replace s1 := cell_next b1 s1
      replace s2 := cell_next b1 s2
      clear b1 CKW
      go_wp2_with fail
      refine (WI.out _).mono ?_; rintro e w2 ⟨rfl, hw⟩; subst hw
      go_wp2_with fail
      go_ret2
      exact ⟨rfl, HB1.out⟩
  · have her : er = 2 := hcd.det (.inr ⟨rfl, hg⟩)
    subst her
    clear hno hg hcd
    go_enter Try.func13, Try.ntmps13
    go_upto_region 1 with fail
    rw [← hW, ← hgS]
    clear hW hgS
    go_wp2_with fail
    refine CKW.out.mono ?_; rintro e w1 ⟨rfl, b1⟩
    have HB1 := Lib.hid (below_next b1 HBW.out)
    clear b1 CKW
    go_wp2_with fail
    go_ret2
    exact ⟨rfl, HB1.out⟩
set_option maxRecDepth 100000 in
set_option maxHeartbeats 4000000 in
theorem Earliest_no (N Q A L : Int) (vf vh : Value) (FL : List Int) (HL : List HeI) (w : World) (hf : GRow w vf FL) (hh : HRow w vh HL) (hfl : FL.length ≤ maxLen) (hhl : HL.length ≤ maxLen) (hno : ¬ (Good N FL HL ∧ (0 ≤ Q ∧ Q ≤ N) ∧ (0 ≤ A ∧ A ≤ 1099511627776) ∧ 1 ≤ L ∧ L ≤ 1099511627776)) :
    Calls Try.prog 18 #[.agg #[.int .i64 N, vf, vh], .int .i64 Q, .int .i64 A, .int .i64 L] w fun e w' => e = .returned (.tuple #[.int .i64 0, .int .i64 0, .int .i64 2]) ∧ Below w.heap.size w w' := by
  obtain ⟨er, hcd⟩ := code_some N FL HL
  have CK : Hid (∀ w1, Below w.heap.size w w1 → Calls Try.prog 11 #[.agg #[.int .i64 N, vf, vh]] w1 fun e w' => e = .returned (.int .i64 er) ∧ Below w1.heap.size w1 w') := fun w1 h1 =>
    (check_any N vf vh _ _ w1 (hf.kept h1) (hh.kept h1) hfl hhl).mono fun e w' ⟨er2, he, hcd2, hbl⟩ => by
      have := hcd2.det hcd
      rw [this] at he; exact ⟨he, hbl⟩
  have WI : Hid (∀ w1, Calls Try.prog 28 #[.int .i64 Q, .int .i64 0, .int .i64 N] w1 fun e w' => e = .returned (.bool (wiB Q 0 N)) ∧ w' = w1) := fun w1 => within_any Q 0 N w1
  have WA : Hid (∀ w1, Calls Try.prog 28 #[.int .i64 A, .int .i64 0, .int .i64 1099511627776] w1 fun e w' => e = .returned (.bool (wiB A 0 1099511627776)) ∧ w' = w1) := fun w1 => within_any A 0 1099511627776 w1
  have WL : Hid (∀ w1, Calls Try.prog 28 #[.int .i64 L, .int .i64 1, .int .i64 1099511627776] w1 fun e w' => e = .returned (.bool (wiB L 1 1099511627776)) ∧ w' = w1) := fun w1 => within_any L 1 1099511627776 w1
  obtain ⟨fa, fc, rfl⟩ := hf.slice
  obtain ⟨ha, hc2, rfl⟩ := hh.slice
  obtain ⟨LF, hLF⟩ : ∃ n, n = FL.length := ⟨_, rfl⟩
  obtain ⟨LH, hLH⟩ : ∃ n, n = HL.length := ⟨_, rfl⟩
  rw [← hLF, ← hLH] at CK ⊢
  clear hLF hLH hf hh hfl hhl
  obtain ⟨gS, hgS⟩ : ∃ g, g = w.heap.size := ⟨_, rfl⟩
  obtain ⟨W, hW⟩ : ∃ W, W = w.alloc (.cells #[.int .i64 N, .slice fa LF fc, .slice ha LH hc2] 25) := ⟨_, rfl⟩
  have HBW : Hid (Below w.heap.size w W) := by unfold Hid; rw [hW]; exact (Below.refl _ _).alloc (Nat.le_refl _) _
  have HS : Hid (Blk W gS #[.int .i64 N, .slice fa LF fc, .slice ha LH hc2] 25) := by unfold Hid; rw [hW, hgS]; exact Blk.new w _ _
  have s0 := HS.out.cell 0
  have s1 := HS.out.cell 1
  have s2 := HS.out.cell 2
  simp at s0 s1 s2
  have CKW := Lib.hid (CK.out W HBW.out)
  clear CK HS
  by_cases hg : Good N FL HL
  · have her : er = 0 := hcd.det (.inl ⟨rfl, hg⟩)
    subst her
    by_cases hq : 0 ≤ Q ∧ Q ≤ N
    · rw [wiB_iff.2 hq] at WI
      by_cases hA : 0 ≤ A ∧ A ≤ 1099511627776
      · rw [wiB_iff.2 hA] at WA
        rw [wiB_no (fun h => hno ⟨hg, hq, hA, h⟩)] at WL
        clear hno hg hcd hq hA
        go_enter Try.func18, Try.ntmps18
        go_upto_region 1 with fail
        rw [← hW, ← hgS]
        clear hW hgS
        go_wp2_with fail
        refine CKW.out.mono ?_; rintro e w1 ⟨rfl, b1⟩
        have HB1 := Lib.hid (below_next b1 HBW.out)
        replace s0 := cell_next b1 s0
        replace s1 := cell_next b1 s1
        replace s2 := cell_next b1 s2
        clear b1 CKW
        go_wp2_with fail
        refine (WI.out _).mono ?_; rintro e w2 ⟨rfl, hw⟩; subst hw
        go_wp2_with fail
        refine (WA.out _).mono ?_; rintro e w2 ⟨rfl, hw⟩; subst hw
        go_wp2_with fail
        refine (WL.out _).mono ?_; rintro e w2 ⟨rfl, hw⟩; subst hw
        go_wp2_with fail
        go_ret3
        exact ⟨rfl, HB1.out⟩
      · rw [wiB_no hA] at WA
        clear hno hg hcd hq hA
        go_enter Try.func18, Try.ntmps18
        go_upto_region 1 with fail
        rw [← hW, ← hgS]
        clear hW hgS
        go_wp2_with fail
        refine CKW.out.mono ?_; rintro e w1 ⟨rfl, b1⟩
        have HB1 := Lib.hid (below_next b1 HBW.out)
        replace s0 := cell_next b1 s0
        replace s1 := cell_next b1 s1
        replace s2 := cell_next b1 s2
        clear b1 CKW
        go_wp2_with fail
        refine (WI.out _).mono ?_; rintro e w2 ⟨rfl, hw⟩; subst hw
        go_wp2_with fail
        refine (WA.out _).mono ?_; rintro e w2 ⟨rfl, hw⟩; subst hw
        go_wp2_with fail
        go_ret3
        exact ⟨rfl, HB1.out⟩
    · rw [wiB_no hq] at WI
      clear hno hg hcd hq
      go_enter Try.func18, Try.ntmps18
      go_upto_region 1 with fail
      rw [← hW, ← hgS]
      clear hW hgS
      go_wp2_with fail
      refine CKW.out.mono ?_; rintro e w1 ⟨rfl, b1⟩
      have HB1 := Lib.hid (below_next b1 HBW.out)
      replace s0 := cell_next b1 s0
      replace s1 := cell_next b1 s1
      replace s2 := cell_next b1 s2
      clear b1 CKW
      go_wp2_with fail
      refine (WI.out _).mono ?_; rintro e w2 ⟨rfl, hw⟩; subst hw
      go_wp2_with fail
      go_ret3
      exact ⟨rfl, HB1.out⟩
  · have her : er = 2 := hcd.det (.inr ⟨rfl, hg⟩)
    subst her
    clear hno hg hcd
    go_enter Try.func18, Try.ntmps18
    go_upto_region 1 with fail
    rw [← hW, ← hgS]
    clear hW hgS
    go_wp2_with fail
    refine CKW.out.mono ?_; rintro e w1 ⟨rfl, b1⟩
    have HB1 := Lib.hid (below_next b1 HBW.out)
    clear b1 CKW
    go_wp2_with fail
    go_ret3
    exact ⟨rfl, HB1.out⟩
end

end Go.Proofs.Ytioeblljabohbaa
