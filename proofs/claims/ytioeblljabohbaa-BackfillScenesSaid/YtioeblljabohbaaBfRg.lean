/-
  gangerref15.Earliest at scenes that may be, and at what may not be.
-/
import Derived.Test.YtioeblljabohbaaBfRw
import Derived.Test.YtioeblljabohbaaBfRc2
namespace Go.Proofs.Ytioeblljabohbaa
open Go Go.RowKit Go.Lib
set_option linter.unusedVariables false

set_option maxRecDepth 100000 in
set_option maxHeartbeats 4000000 in
theorem refEarliest_ok (vf vh : Value) (c : Sc) (q a len : Nat) (w : World) (hc : ScOk c) (hr : SRow w vf vh c) (hq : q ≤ c.n) (ha : a ≤ 1099511627776) (hl1 : 1 ≤ len) (hl : len ≤ 1099511627776) :
    Calls Try.prog 19 #[.agg #[.int .i64 (c.n : Nat), vf, vh], .int .i64 (q : Nat), .int .i64 (a : Nat), .int .i64 (len : Nat)] w fun e w' => e = .returned (.tuple #[.int .i64 (earlyE c q a len).1, .int .i64 (earlyE c q a len).2.1, .int .i64 (earlyE c q a len).2.2]) ∧ Below w.heap.size w w' := by
  have hgood : Good (c.n : Int) (nsI c.fl) (c.hl.map heZ) := ⟨c, hc, rfl, rfl, rfl⟩
  have hfm : (nsI c.fl).length ≤ maxLen := by rw [nsI_len]; have := fl_len hc; unfold maxLen; omega
  have hhm : (c.hl.map heZ).length ≤ maxLen := by rw [List.length_map]; have := hc.len; unfold maxLen; omega
  have hHW : ∀ x ∈ c.hl.map heZ, x.1 ≤ 9223372036854775807 := fun x hx => by
    obtain ⟨k, hk, rfl⟩ := List.getElem_of_mem hx
    obtain ⟨⟨s, o, h1, h2, h3, h4, h5⟩, h6⟩ := good_hl hgood k hk hk
    have h7 : 2 ^ c.n ≤ 2 ^ 10 := Nat.pow_le_pow_right (by omega) hc.n10
    have h8 : 0 < 2 ^ o := Nat.two_pow_pos o
    omega
  have CK : Hid (∀ w1, Below w.heap.size w w1 → Calls Try.prog 15 #[.agg #[.int .i64 (c.n : Nat), vf, vh]] w1 fun e w' => e = .returned (.int .i64 0) ∧ Below w1.heap.size w1 w') := fun w1 h1 =>
    (refCheck_any (c.n : Int) vf vh _ _ w1 (hr.f.kept h1) (hr.h.kept h1) hfm hhm hHW).mono fun e w' ⟨er, he, hcd, hbl⟩ => by
      have := hcd.det (.inl ⟨rfl, hgood⟩)
      rw [this] at he; exact ⟨he, hbl⟩
  have WH : Hid (∀ w1, Below w.heap.size w w1 → Calls Try.prog 41 #[.agg #[.int .i64 (c.n : Nat), vf, vh], .int .i64 (q : Nat), .int .i64 (a : Nat), .int .i64 (len : Nat)] w1 fun e w' => e = .returned (.tuple #[.int .i64 (earlyE c q a len).1, .int .i64 (earlyE c q a len).2.1, .int .i64 (earlyE c q a len).2.2]) ∧ Below w1.heap.size w1 w') := fun w1 h1 =>
    refWhen_any vf vh c q a len w1 hc ⟨hr.f.kept h1, hr.h.kept h1⟩ hq ha hl
  obtain ⟨⟨r1, r2, r3⟩, hre⟩ : ∃ r, r = earlyE c q a len := ⟨_, rfl⟩
  rw [← hre] at WH ⊢
  obtain ⟨fa, fc, rfl⟩ := hr.f.slice
  obtain ⟨ha2, hc2, rfl⟩ := hr.h.slice
  obtain ⟨LF, hLF⟩ : ∃ n, n = (nsI c.fl).length := ⟨_, rfl⟩
  obtain ⟨LH, hLH⟩ : ∃ n, n = (c.hl.map heZ).length := ⟨_, rfl⟩
  rw [← hLF, ← hLH] at CK WH ⊢
  obtain ⟨N, hN⟩ : ∃ n, n = c.n := ⟨_, rfl⟩
  rw [← hN] at CK WH hq ⊢
  have hN10 : N ≤ 10 := by rw [hN]; exact hc.n10
  clear hgood hfm hhm hHW hLF hLH hN hr hre hc
  obtain ⟨gS, hgS⟩ : ∃ g, g = w.heap.size := ⟨_, rfl⟩
  obtain ⟨W, hW⟩ : ∃ W, W = w.alloc (.cells #[.int .i64 (N : Nat), .slice fa LF fc, .slice ha2 LH hc2] 25) := ⟨_, rfl⟩
  have HBW : Hid (Below w.heap.size w W) := by unfold Hid; rw [hW]; exact (Below.refl _ _).alloc (Nat.le_refl _) _
  have HS : Hid (Blk W gS #[.int .i64 (N : Nat), .slice fa LF fc, .slice ha2 LH hc2] 25) := by unfold Hid; rw [hW, hgS]; exact Blk.new w _ _
  have s0 := HS.out.cell 0
  have s1 := HS.out.cell 1
  have s2 := HS.out.cell 2
  simp at s0 s1 s2
  have CKW := Lib.hid (CK.out W HBW.out)
  have d1 : decide ((q : Int) < 0) = false := decide_eq_false (by omega)
  have d2 : decide ((q : Int) > (N : Int)) = false := decide_eq_false (by omega)
  have d2' : decide ((N : Int) < (q : Int)) = false := decide_eq_false (by omega)
  have d2'' : decide (N < q) = false := decide_eq_false (by omega)
  have d3 : decide ((a : Int) < 0) = false := decide_eq_false (by omega)
  have d4 : decide ((a : Int) > 1099511627776) = false := decide_eq_false (by omega)
  have d4' : decide ((1099511627776 : Int) < (a : Int)) = false := decide_eq_false (by omega)
  have d5 : decide ((len : Int) < 1) = false := decide_eq_false (by omega)
  have d6 : decide ((len : Int) > 1099511627776) = false := decide_eq_false (by omega)
  have d6' : decide ((1099511627776 : Int) < (len : Int)) = false := decide_eq_false (by omega)
  clear CK
  go_enter Try.func19, Try.ntmps19
  go_upto_region 1 with fail
  rw [← hW, ← hgS]
  clear hW hgS
  go_wp2_with fail
  refine CKW.out.mono ?_; rintro e w1 ⟨rfl, b1⟩
  have HB1 := Lib.hid (below_next b1 HBW.out)
  replace s0 := cell_next b1 s0
  replace s1 := cell_next b1 s1
  replace s2 := cell_next b1 s2
  have WH1 := Lib.hid (WH.out w1 HB1.out)
  clear b1 CKW HS WH
  go_wp2_with fail
  refine WH1.out.mono ?_; rintro e w3 ⟨rfl, b3⟩
  have HB3 := Lib.hid (below_next b3 HB1.out)
  clear b3 WH1
  go_wp2_with fail
  go_ret3
  exact ⟨rfl, HB3.out⟩
set_option maxRecDepth 100000 in
set_option maxHeartbeats 8000000 in
theorem refEarliest_no (N Q A L : Int) (vf vh : Value) (FL : List Int) (HL : List HeI) (w : World) (hf : GRow w vf FL) (hh : HRow w vh HL) (hfl : FL.length ≤ maxLen) (hhl : HL.length ≤ maxLen) (hHW : ∀ x ∈ HL, x.1 ≤ 9223372036854775807) (hno : ¬ (Good N FL HL ∧ (0 ≤ Q ∧ Q ≤ N) ∧ (0 ≤ A ∧ A ≤ 1099511627776) ∧ 1 ≤ L ∧ L ≤ 1099511627776)) :
    Calls Try.prog 19 #[.agg #[.int .i64 N, vf, vh], .int .i64 Q, .int .i64 A, .int .i64 L] w fun e w' => e = .returned (.tuple #[.int .i64 0, .int .i64 0, .int .i64 2]) ∧ Below w.heap.size w w' := by
  obtain ⟨er, hcd⟩ : ∃ er, BfCode N FL HL er := by
    by_cases h : Good N FL HL
    · exact ⟨0, .inl ⟨rfl, h⟩⟩
    · exact ⟨2, .inr ⟨rfl, h⟩⟩
  have CK : Hid (∀ w1, Below w.heap.size w w1 → Calls Try.prog 15 #[.agg #[.int .i64 N, vf, vh]] w1 fun e w' => e = .returned (.int .i64 er) ∧ Below w1.heap.size w1 w') := fun w1 h1 =>
    (refCheck_any N vf vh _ _ w1 (hf.kept h1) (hh.kept h1) hfl hhl hHW).mono fun e w' ⟨er2, he, hcd2, hbl⟩ => by
      have := hcd2.det hcd
      rw [this] at he; exact ⟨he, hbl⟩
  obtain ⟨fa, fc, rfl⟩ := hf.slice
  obtain ⟨ha, hc2, rfl⟩ := hh.slice
  obtain ⟨LF, hLF⟩ : ∃ n, n = FL.length := ⟨_, rfl⟩
  obtain ⟨LH, hLH⟩ : ∃ n, n = HL.length := ⟨_, rfl⟩
  rw [← hLF, ← hLH] at CK ⊢
  clear hLF hLH hf hh hfl hhl hHW
  obtain ⟨gS, hgS⟩ : ∃ g, g = w.heap.size := ⟨_, rfl⟩
  obtain ⟨W, hW⟩ : ∃ W, W = w.alloc (.cells #[.int .i64 N, .slice fa LF fc, .slice ha LH hc2] 25) := ⟨_, rfl⟩
  have HBW : Hid (Below w.heap.size w W) := by unfold Hid; rw [hW]; exact (Below.refl _ _).alloc (Nat.le_refl _) _
  have HS : Hid (Blk W gS #[.int .i64 N, .slice fa LF fc, .slice ha LH hc2] 25) := by unfold Hid; rw [hW, hgS]; exact Blk.new w _ _
  have s0 := HS.out.cell 0
  have s1 := HS.out.cell 1
  have s2 := HS.out.cell 2
  simp at s0 s1 s2
  have CKW := Lib.hid (CK.out W HBW.out)
  clear CK HS
  by_cases hg : Good N FL HL
  · have her : er = 0 := hcd.det (.inl ⟨rfl, hg⟩)
    subst her
    have hno2 : ¬ ((0 ≤ Q ∧ Q ≤ N) ∧ (0 ≤ A ∧ A ≤ 1099511627776) ∧ 1 ≤ L ∧ L ≤ 1099511627776) := fun h => hno ⟨hg, h⟩
    clear hno hg hcd
    by_cases p1 : Q < 0
    · have d1 : decide (Q < 0) = true := decide_eq_true p1
      clear hno2
      go_enter Try.func19, Try.ntmps19
      go_upto_region 1 with fail
      rw [← hW, ← hgS]
      clear hW hgS
      go_wp2_with fail
      refine CKW.out.mono ?_; rintro e w1 ⟨rfl, b1⟩
      have HB1 := Lib.hid (below_next b1 HBW.out)
      replace s0 := cell_next b1 s0
      replace s1 := cell_next b1 s1
      replace s2 := cell_next b1 s2
      clear b1 CKW
      go_wp2_with fail
      go_ret3
      exact ⟨rfl, HB1.out⟩
    · have d1 : decide (Q < 0) = false := decide_eq_false p1
      by_cases p2 : N < Q
      · have d2 : decide (Q > N) = true := decide_eq_true p2
        have d2' : decide (N < Q) = true := decide_eq_true p2
        clear hno2
        go_enter Try.func19, Try.ntmps19
        go_upto_region 1 with fail
        rw [← hW, ← hgS]
        clear hW hgS
        go_wp2_with fail
        refine CKW.out.mono ?_; rintro e w1 ⟨rfl, b1⟩
        have HB1 := Lib.hid (below_next b1 HBW.out)
        replace s0 := cell_next b1 s0
        replace s1 := cell_next b1 s1
        replace s2 := cell_next b1 s2
        clear b1 CKW
        go_wp2_with fail
        go_ret3
        exact ⟨rfl, HB1.out⟩
      · have d2 : decide (Q > N) = false := decide_eq_false p2
        have d2' : decide (N < Q) = false := decide_eq_false p2
        by_cases p3 : A < 0
        · have d3 : decide (A < 0) = true := decide_eq_true p3
          clear hno2
          go_enter Try.func19, Try.ntmps19
          go_upto_region 1 with fail
          rw [← hW, ← hgS]
          clear hW hgS
          go_wp2_with fail
          refine CKW.out.mono ?_; rintro e w1 ⟨rfl, b1⟩
          have HB1 := Lib.hid (below_next b1 HBW.out)
          replace s0 := cell_next b1 s0
          replace s1 := cell_next b1 s1
          replace s2 := cell_next b1 s2
          clear b1 CKW
          go_wp2_with fail
          go_ret3
          exact ⟨rfl, HB1.out⟩
        · have d3 : decide (A < 0) = false := decide_eq_false p3
          by_cases p4 : 1099511627776 < A
          · have d4 : decide (A > 1099511627776) = true := decide_eq_true p4
            have d4' : decide (1099511627776 < A) = true := decide_eq_true p4
            clear hno2
            go_enter Try.func19, Try.ntmps19
            go_upto_region 1 with fail
            rw [← hW, ← hgS]
            clear hW hgS
            go_wp2_with fail
            refine CKW.out.mono ?_; rintro e w1 ⟨rfl, b1⟩
            have HB1 := Lib.hid (below_next b1 HBW.out)
            replace s0 := cell_next b1 s0
            replace s1 := cell_next b1 s1
            replace s2 := cell_next b1 s2
            clear b1 CKW
            go_wp2_with fail
            go_ret3
            exact ⟨rfl, HB1.out⟩
          · have d4 : decide (A > 1099511627776) = false := decide_eq_false p4
            have d4' : decide (1099511627776 < A) = false := decide_eq_false p4
            by_cases p5 : L < 1
            · have d5 : decide (L < 1) = true := decide_eq_true p5
              clear hno2
              go_enter Try.func19, Try.ntmps19
              go_upto_region 1 with fail
              rw [← hW, ← hgS]
              clear hW hgS
              go_wp2_with fail
              refine CKW.out.mono ?_; rintro e w1 ⟨rfl, b1⟩
              have HB1 := Lib.hid (below_next b1 HBW.out)
              replace s0 := cell_next b1 s0
              replace s1 := cell_next b1 s1
              replace s2 := cell_next b1 s2
              clear b1 CKW
              go_wp2_with fail
              go_ret3
              exact ⟨rfl, HB1.out⟩
            · have d5 : decide (L < 1) = false := decide_eq_false p5
              have p6 : 1099511627776 < L := by omega
              have d6 : decide (L > 1099511627776) = true := decide_eq_true p6
              have d6' : decide (1099511627776 < L) = true := decide_eq_true p6
              clear hno2
              go_enter Try.func19, Try.ntmps19
              go_upto_region 1 with fail
              rw [← hW, ← hgS]
              clear hW hgS
              go_wp2_with fail
              refine CKW.out.mono ?_; rintro e w1 ⟨rfl, b1⟩
              have HB1 := Lib.hid (below_next b1 HBW.out)
              replace s0 := cell_next b1 s0
              replace s1 := cell_next b1 s1
              replace s2 := cell_next b1 s2
              clear b1 CKW
              go_wp2_with fail
              go_ret3
              exact ⟨rfl, HB1.out⟩
  · have her : er = 2 := hcd.det (.inr ⟨rfl, hg⟩)
    subst her
    clear hno hcd hg
    go_enter Try.func19, Try.ntmps19
    go_upto_region 1 with fail
    rw [← hW, ← hgS]
    clear hW hgS
    go_wp2_with fail
    refine CKW.out.mono ?_; rintro e w1 ⟨rfl, b1⟩
    have HB1 := Lib.hid (below_next b1 HBW.out)
    replace s0 := cell_next b1 s0
    replace s1 := cell_next b1 s1
    replace s2 := cell_next b1 s2
    clear b1 CKW
    go_wp2_with fail
    go_ret3
    exact ⟨rfl, HB1.out⟩
end Go.Proofs.Ytioeblljabohbaa
