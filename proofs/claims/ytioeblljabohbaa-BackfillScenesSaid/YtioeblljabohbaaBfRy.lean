/-
  gangerref15.Free and gangerref15.At, at scenes that may be and at what may not be.
-/
import Derived.Test.YtioeblljabohbaaBfRw
import Derived.Test.YtioeblljabohbaaBfRf
import Derived.Test.YtioeblljabohbaaBfRc2
namespace Go.Proofs.Ytioeblljabohbaa
open Go Go.RowKit Go.Lib
set_option linter.unusedVariables false

theorem good_w {c : Sc} (hc : ScOk c) : ∀ x ∈ c.hl.map heZ, x.1 ≤ 9223372036854775807 := fun x hx => by
  have hgood : Good (c.n : Int) (nsI c.fl) (c.hl.map heZ) := ⟨c, hc, rfl, rfl, rfl⟩
  obtain ⟨k, hk, rfl⟩ := List.getElem_of_mem hx
  obtain ⟨⟨s, o, h1, h2, h3, h4, h5⟩, h6⟩ := good_hl hgood k hk hk
  have h7 : 2 ^ c.n ≤ 2 ^ 10 := Nat.pow_le_pow_right (by omega) hc.n10
  have h8 : 0 < 2 ^ o := Nat.two_pow_pos o
  omega
theorem one_cellG {w : World} {v : Value} {l : List Int} (h : GRow w v l) : v.oneCell' = true := by obtain ⟨x, y, rfl⟩ := h.slice; rfl
theorem sl_cellG {w : World} {v : Value} {l : List Int} (h : GRow w v l) : ∃ a n c, v = .slice a n c := by obtain ⟨x, y, rfl⟩ := h.slice; exact ⟨_, _, _, rfl⟩
theorem sl_cellH {w : World} {v : Value} {l : List HeI} (h : HRow w v l) : ∃ a n c, v = .slice a n c := by obtain ⟨x, y, rfl⟩ := h.slice; exact ⟨_, _, _, rfl⟩
theorem one_cellH {w : World} {v : Value} {l : List HeI} (h : HRow w v l) : v.oneCell' = true := by obtain ⟨x, y, rfl⟩ := h.slice; rfl

set_option maxRecDepth 100000 in
set_option maxHeartbeats 8000000 in
theorem refFree_core (N S O A T er : Int) (r q : Bool) (vf vh : Value) (w : World) (hvf : ∃ a n c, vf = .slice a n c) (hvh : ∃ a n c, vh = .slice a n c)
    (hc : ∀ w1, Below w.heap.size w w1 → Calls Try.prog 15 #[.agg #[.int .i64 N, vf, vh]] w1 fun e w' => e = .returned (.int .i64 er) ∧ Below w1.heap.size w1 w')
    (hb : er = 0 → ∀ w1, Calls Try.prog 38 #[.agg #[.int .i64 N, vf, vh], .agg #[.int .i64 S, .int .i64 O]] w1 fun e w' => e = .returned (.bool r) ∧ Below w1.heap.size w1 w')
    (ho : er = 0 → r = true → 0 ≤ A → A < T → ∀ w1, Below w.heap.size w w1 → Calls Try.prog 39 #[.agg #[.int .i64 N, vf, vh], .agg #[.int .i64 S, .int .i64 O], .int .i64 A, .int .i64 T] w1 fun e w' => e = .returned (.bool q) ∧ Below w1.heap.size w1 w')
    (res : Bool) (hres : res = (decide (er = 0) && r && decide (0 ≤ A) && decide (A < T) && q)) :
    Calls Try.prog 16 #[.agg #[.int .i64 N, vf, vh], .agg #[.int .i64 S, .int .i64 O], .int .i64 A, .int .i64 T] w fun e w' => e = .returned (.bool res) ∧ Below w.heap.size w w' := by
  obtain ⟨fa, LF, fc, rfl⟩ := hvf
  obtain ⟨ha, LH, hc2, rfl⟩ := hvh
  obtain ⟨W, hW⟩ : ∃ W, W = (w.alloc (.cells #[.int .i64 N, .slice fa LF fc, .slice ha LH hc2] 25)).alloc (.cells #[.int .i64 S, .int .i64 O] 27) := ⟨_, rfl⟩
  obtain ⟨gS, hgS⟩ : ∃ g, g = w.heap.size := ⟨_, rfl⟩
  obtain ⟨gB, hgB⟩ : ∃ g, g = w.heap.size + 1 := ⟨_, rfl⟩
  have HBW : Hid (Below w.heap.size w W) := by unfold Hid; rw [hW]; exact ((Below.refl _ _).alloc (Nat.le_refl _) _).alloc (by simp) _
  have HSB : Hid (Blk W gS #[.int .i64 N, .slice fa LF fc, .slice ha LH hc2] 25) := by unfold Hid; rw [hW, hgS]; exact (Blk.new w _ _).old _
  have HBB : Hid (Blk W gB #[.int .i64 S, .int .i64 O] 27) := by unfold Hid; rw [hW]; exact Blk.fresh _ _ _ gB (by rw [hgB]; simp)
  have FACTS : Hid (∀ w1, Below W.heap.size W w1 → (w1.cell? ⟨gS, 0, none⟩ = some (.int .i64 N) ∧ w1.cell? ⟨gS, 1, none⟩ = some (.slice fa LF fc) ∧ w1.cell? ⟨gS, 2, none⟩ = some (.slice ha LH hc2)) ∧ (w1.cell? ⟨gB, 0, none⟩ = some (.int .i64 S) ∧ w1.cell? ⟨gB, 1, none⟩ = some (.int .i64 O))) := fun w1 h1 =>
    ⟨⟨cell_next h1 (HSB.out.cell 0), cell_next h1 (HSB.out.cell 1), cell_next h1 (HSB.out.cell 2)⟩, ⟨cell_next h1 (HBB.out.cell 0), cell_next h1 (HBB.out.cell 1)⟩⟩
  have CK := Lib.hid (hc W HBW.out)
  have FT := Lib.hid hb
  have OP := Lib.hid ho
  have HR := Lib.hid hres
  clear hc hb ho hres
  by_cases he : er = 0
  · subst he
    have FT2 := Lib.hid (FT.out rfl)
    clear FT
    cases r with
    | false =>
      have HRR : Hid (res = false) := by unfold Hid; rw [HR.out]; simp
      clear HR OP
      go_enter Try.func16, Try.ntmps16
      go_upto_region 1 with fail
      rw [← hgB, ← hgS, ← hW]
      clear hgB hgS hW
      obtain ⟨⟨s0, s1, s2⟩, t0, t1⟩ := FACTS.out W (Below.refl _ _)
      go_wp2_with fail
      refine CK.out.mono ?_; rintro e w1 ⟨rfl, b1⟩
      have B1 := Lib.hid b1
      clear b1 CK s0 s1 s2 t0 t1
      obtain ⟨⟨s0, s1, s2⟩, t0, t1⟩ := FACTS.out w1 B1.out
      go_wp2_with fail
      refine (FT2.out _).mono ?_; rintro e w2 ⟨rfl, b2⟩
      have B2 := Lib.hid (below_next b2 B1.out)
      clear b2 FT2 s0 s1 s2 t0 t1
      obtain ⟨⟨s0, s1, s2⟩, t0, t1⟩ := FACTS.out w2 B2.out
      go_wp2_with fail
      go_ret
      exact ⟨(by rw [HRR.out]; rfl), below_next B2.out HBW.out⟩
    | true =>
      by_cases hA : 0 ≤ A
      · have d1 : decide (A ≥ 0) = true := decide_eq_true hA
        have d1' : decide (0 ≤ A) = true := decide_eq_true hA
        by_cases hT : A < T
        · have d2 : decide (T > A) = true := decide_eq_true hT
          have d2' : decide (A < T) = true := decide_eq_true hT
          have OP2 := Lib.hid (OP.out rfl rfl hA hT)
          have HRR : Hid (res = q) := by unfold Hid; rw [HR.out, d1', d2']; simp
          clear HR OP hA hT
          go_enter Try.func16, Try.ntmps16
          go_upto_region 1 with fail
          rw [← hgB, ← hgS, ← hW]
          clear hgB hgS hW
          obtain ⟨⟨s0, s1, s2⟩, t0, t1⟩ := FACTS.out W (Below.refl _ _)
          go_wp2_with fail
          refine CK.out.mono ?_; rintro e w1 ⟨rfl, b1⟩
          have B1 := Lib.hid b1
          clear b1 CK s0 s1 s2 t0 t1
          obtain ⟨⟨s0, s1, s2⟩, t0, t1⟩ := FACTS.out w1 B1.out
          go_wp2_with fail
          refine (FT2.out _).mono ?_; rintro e w2 ⟨rfl, b2⟩
          have B2 := Lib.hid (below_next b2 B1.out)
          clear b2 FT2 s0 s1 s2 t0 t1
          obtain ⟨⟨s0, s1, s2⟩, t0, t1⟩ := FACTS.out w2 B2.out
          go_wp2_with fail
          refine (OP2.out _ (below_next B2.out HBW.out)).mono ?_; rintro e w3 ⟨rfl, b3⟩
          have B3 := Lib.hid (below_next b3 B2.out)
          clear b3 OP2 s0 s1 s2 t0 t1
          go_wp2_with fail
          go_ret
          exact ⟨(by rw [HRR.out]; rfl), below_next B3.out HBW.out⟩
        · have d2 : decide (T > A) = false := decide_eq_false hT
          have d2' : decide (A < T) = false := decide_eq_false hT
          have HRR : Hid (res = false) := by unfold Hid; rw [HR.out, d1', d2']; simp
          clear HR OP hA hT
          go_enter Try.func16, Try.ntmps16
          go_upto_region 1 with fail
          rw [← hgB, ← hgS, ← hW]
          clear hgB hgS hW
          obtain ⟨⟨s0, s1, s2⟩, t0, t1⟩ := FACTS.out W (Below.refl _ _)
          go_wp2_with fail
          refine CK.out.mono ?_; rintro e w1 ⟨rfl, b1⟩
          have B1 := Lib.hid b1
          clear b1 CK s0 s1 s2 t0 t1
          obtain ⟨⟨s0, s1, s2⟩, t0, t1⟩ := FACTS.out w1 B1.out
          go_wp2_with fail
          refine (FT2.out _).mono ?_; rintro e w2 ⟨rfl, b2⟩
          have B2 := Lib.hid (below_next b2 B1.out)
          clear b2 FT2 s0 s1 s2 t0 t1
          obtain ⟨⟨s0, s1, s2⟩, t0, t1⟩ := FACTS.out w2 B2.out
          go_wp2_with fail
          go_ret
          exact ⟨(by rw [HRR.out]; rfl), below_next B2.out HBW.out⟩
      · have d1 : decide (A ≥ 0) = false := decide_eq_false hA
        have d1' : decide (0 ≤ A) = false := decide_eq_false hA
        have HRR : Hid (res = false) := by unfold Hid; rw [HR.out, d1']; simp
        clear HR OP hA
        go_enter Try.func16, Try.ntmps16
        go_upto_region 1 with fail
        rw [← hgB, ← hgS, ← hW]
        clear hgB hgS hW
        obtain ⟨⟨s0, s1, s2⟩, t0, t1⟩ := FACTS.out W (Below.refl _ _)
        go_wp2_with fail
        refine CK.out.mono ?_; rintro e w1 ⟨rfl, b1⟩
        have B1 := Lib.hid b1
        clear b1 CK s0 s1 s2 t0 t1
        obtain ⟨⟨s0, s1, s2⟩, t0, t1⟩ := FACTS.out w1 B1.out
        go_wp2_with fail
        refine (FT2.out _).mono ?_; rintro e w2 ⟨rfl, b2⟩
        have B2 := Lib.hid (below_next b2 B1.out)
        clear b2 FT2 s0 s1 s2 t0 t1
        obtain ⟨⟨s0, s1, s2⟩, t0, t1⟩ := FACTS.out w2 B2.out
        go_wp2_with fail
        go_ret
        exact ⟨(by rw [HRR.out]; rfl), below_next B2.out HBW.out⟩
  · have HRR : Hid (res = false) := by unfold Hid; rw [HR.out, decide_eq_false he]; simp
    have d0 : (er == 0) = false := by simp; exact he
    clear HR OP FT
    go_enter Try.func16, Try.ntmps16
    go_upto_region 1 with fail
    rw [← hgB, ← hgS, ← hW]
    clear hgB hgS hW
    obtain ⟨⟨s0, s1, s2⟩, t0, t1⟩ := FACTS.out W (Below.refl _ _)
    go_wp2_with fail
    refine CK.out.mono ?_; rintro e w1 ⟨rfl, b1⟩
    have B1 := Lib.hid b1
    clear b1 CK s0 s1 s2 t0 t1
    obtain ⟨⟨s0, s1, s2⟩, t0, t1⟩ := FACTS.out w1 B1.out
    go_wp2_with fail
    go_ret
    exact ⟨(by rw [HRR.out]; rfl), below_next B1.out HBW.out⟩
theorem refFree_ok (vf vh : Value) (c : Sc) (s o a b : Nat) (w : World) (hc : ScOk c) (hr : SRow w vf vh c) (hb : blkOk c.n s o) (hab : a < b) :
    Calls Try.prog 16 #[.agg #[.int .i64 (c.n : Nat), vf, vh], .agg #[.int .i64 (s : Nat), .int .i64 (o : Nat)], .int .i64 (a : Nat), .int .i64 (b : Nat)] w fun e w' => e = .returned (.bool (freeB c s o a b)) ∧ Below w.heap.size w w' := by
  have hgood : Good (c.n : Int) (nsI c.fl) (c.hl.map heZ) := ⟨c, hc, rfl, rfl, rfl⟩
  have hfm : (nsI c.fl).length ≤ maxLen := by rw [nsI_len]; have := fl_len hc; unfold maxLen; omega
  have hhm : (c.hl.map heZ).length ≤ maxLen := by rw [List.length_map]; have := hc.len; unfold maxLen; omega
  have hn2 := pow_1024 hc.n10
  have ho2 := two_pos o
  obtain ⟨hb1, hb2, hb3⟩ := hb
  refine refFree_core (c.n : Int) s o a b 0 true (freeB c s o a b) vf vh w (sl_cellG hr.f) (sl_cellH hr.h) (fun w1 h1 => ?_) (fun _ w1 => ?_) (fun _ _ _ _ w1 h1 => ?_) _ ?_
  · refine (refCheck_any (c.n : Int) vf vh _ _ w1 (hr.f.kept h1) (hr.h.kept h1) hfm hhm (good_w hc)).mono fun e w' ⟨er, he, hcd, hbl⟩ => ?_
    have := hcd.det (.inl ⟨rfl, hgood⟩)
    rw [this] at he; exact ⟨he, hbl⟩
  · exact refFits_any c.n vf vh s o w1 hc.n10 (one_cellG hr.f) (one_cellH hr.h) (by omega) true (by simp only [true_iff]; exact ⟨s, o, rfl, rfl, hb1, hb2, hb3⟩)
  · exact refOpen_any vf vh c s o a b w1 (hr.kept h1) (Nat.le_trans hb1 hc.n10) (by omega) (fl_len hc) (by have := hc.len; omega) (fun h hh => by
      have h1 := (hc.he h hh).1
      have h3 := two_pos h.2.1
      obtain ⟨g1, g2, g3⟩ := h1
      have := hc.n10
      exact ⟨by omega, by omega⟩)
  · have h1 : decide ((0 : Int) ≤ (a : Int)) = true := decide_eq_true (by omega)
    have h2 : decide ((a : Int) < (b : Int)) = true := decide_eq_true (by omega)
    rw [h1, h2]; simp
theorem refFree_no (N S O A T : Int) (vf vh : Value) (FL : List Int) (HL : List HeI) (w : World) (hf : GRow w vf FL) (hh : HRow w vh HL) (hfl : FL.length ≤ maxLen) (hhl : HL.length ≤ maxLen) (hHW : ∀ x ∈ HL, x.1 ≤ 9223372036854775807) (hS : S ≤ 9223372036854775807) (hno : ¬ (Good N FL HL ∧ blkI N.toNat S O ∧ 0 ≤ A ∧ A < T)) :
    Calls Try.prog 16 #[.agg #[.int .i64 N, vf, vh], .agg #[.int .i64 S, .int .i64 O], .int .i64 A, .int .i64 T] w fun e w' => e = .returned (.bool false) ∧ Below w.heap.size w w' := by
  obtain ⟨er, hcd⟩ : ∃ er, BfCode N FL HL er := by
    by_cases h : Good N FL HL
    · exact ⟨0, .inl ⟨rfl, h⟩⟩
    · exact ⟨2, .inr ⟨rfl, h⟩⟩
  have hgo : er = 0 → Good N FL HL := fun e => by
    rcases hcd with ⟨_, h⟩ | ⟨h, _⟩
    · exact h
    · omega
  refine refFree_core N S O A T er (blkB N.toNat S O) false vf vh w (sl_cellG hf) (sl_cellH hh) (fun w1 h1 => ?_) (fun he w1 => ?_) (fun he hb hA hT w1 h1 => ?_) _ ?_
  · refine (refCheck_any N vf vh _ _ w1 (hf.kept h1) (hh.kept h1) hfl hhl hHW).mono fun e w' ⟨er2, he, hcd2, hbl⟩ => ?_
    have := hcd2.det hcd
    rw [this] at he; exact ⟨he, hbl⟩
  · obtain ⟨h1, h2, _⟩ := good_n (hgo he)
    obtain ⟨n, rfl⟩ := Int.eq_ofNat_of_zero_le h1
    have e1 : ((n : Int).toNat) = n := by omega
    exact refFits_any n vf vh S O w1 (by omega) (one_cellG hf) (one_cellH hh) hS _ (by rw [blkB_iff, e1])
  · exact absurd ⟨hgo he, blkB_iff.1 hb, hA, hT⟩ hno
  · simp
set_option maxRecDepth 100000 in
set_option maxHeartbeats 8000000 in
theorem refAt_core (vf vh : Value) (n q : Nat) (A T : Int) (F : Nat → Bool) (r1 : Int) (r2 : Bool) (w : World) (hvf : ∃ a n c, vf = .slice a n c) (hvh : ∃ a n c, vh = .slice a n c) (hn10 : n ≤ 10) (hq : q ≤ n)
    (hc : ∀ w1, Below w.heap.size w w1 → Calls Try.prog 15 #[.agg #[.int .i64 (n : Nat), vf, vh]] w1 fun e w' => e = .returned (.int .i64 0) ∧ Below w1.heap.size w1 w')
    (hfr : ∀ i w1, i < 2 ^ (n - q) → Below w.heap.size w w1 → Calls Try.prog 16 #[.agg #[.int .i64 (n : Nat), vf, vh], .agg #[.int .i64 ((i * 2 ^ q : Nat) : Int), .int .i64 (q : Nat)], .int .i64 A, .int .i64 T] w1 fun e w' => e = .returned (.bool (F i)) ∧ Below w1.heap.size w1 w')
    (hhit : ∀ i, i < 2 ^ (n - q) → F i = true → (∀ j, j < i → F j = false) → r1 = ((i * 2 ^ q : Nat) : Int) ∧ r2 = true)
    (hnone : (∀ i, i < 2 ^ (n - q) → F i = false) → r1 = 0 ∧ r2 = false) :
    Calls Try.prog 14 #[.agg #[.int .i64 (n : Nat), vf, vh], .int .i64 (q : Nat), .int .i64 A, .int .i64 T] w fun e w' => e = .returned (.tuple #[.int .i64 r1, .bool r2]) ∧ Below w.heap.size w w' := by
  obtain ⟨fa, LF, fc, rfl⟩ := hvf
  obtain ⟨ha, LH, hc2, rfl⟩ := hvh
  have SZ : Hid (∀ (m : Nat) (w' : World), m ≤ 10 → Calls Try.prog 37 #[.int .i64 (m : Int)] w' fun e w'' => e = .returned (.int .i64 ((2 ^ m : Nat) : Int)) ∧ w'' = w') := fun m w' hm => rSize_any m hm w'
  obtain ⟨Z, hZ⟩ : ∃ Z, Z = 2 ^ q := ⟨_, rfl⟩
  obtain ⟨Y, hY⟩ : ∃ Y, Y = 2 ^ n := ⟨_, rfl⟩
  obtain ⟨B, hB⟩ : ∃ B, B = 2 ^ (n - q) := ⟨_, rfl⟩
  have hZ1 : 1 ≤ Z := by rw [hZ]; exact two_pos q
  have hY2 : Y ≤ 1024 := by rw [hY]; exact pow_1024 hn10
  have hBZ : Hid (B * Z = Y) := by unfold Hid; rw [hB, hZ, hY, ← Nat.pow_add]; congr 1; omega
  have SQ : Hid (∀ w', Calls Try.prog 37 #[.int .i64 (q : Int)] w' fun e w'' => e = .returned (.int .i64 (Z : Int)) ∧ w'' = w') := fun w' => by rw [hZ]; exact SZ.out q w' (by omega)
  have SN : Hid (∀ w', Calls Try.prog 37 #[.int .i64 (n : Int)] w' fun e w'' => e = .returned (.int .i64 (Y : Int)) ∧ w'' = w') := fun w' => by rw [hY]; exact SZ.out n w' hn10
  rw [← hZ, ← hB] at hfr hhit
  rw [← hB] at hnone
  have FR := Lib.hid hfr
  have HIT := Lib.hid hhit
  have NON := Lib.hid hnone
  obtain ⟨W, hW⟩ : ∃ W, W = w.alloc (.cells #[.int .i64 (n : Nat), .slice fa LF fc, .slice ha LH hc2] 25) := ⟨_, rfl⟩
  obtain ⟨gS, hgS⟩ : ∃ g, g = w.heap.size := ⟨_, rfl⟩
  have HBW : Hid (Below w.heap.size w W) := by unfold Hid; rw [hW]; exact (Below.refl _ _).alloc (Nat.le_refl _) _
  have HS : Hid (Blk W gS #[.int .i64 (n : Nat), .slice fa LF fc, .slice ha LH hc2] 25) := by unfold Hid; rw [hW, hgS]; exact Blk.new w _ _
  have CK := Lib.hid (hc W HBW.out)
  have d1 : decide ((q : Int) < 0) = false := decide_eq_false (by omega)
  have d2 : decide ((q : Int) > (n : Int)) = false := decide_eq_false (by omega)
  have d2' : decide ((n : Int) < (q : Int)) = false := decide_eq_false (by omega)
  have d2'' : decide (n < q) = false := decide_eq_false (by omega)
  have s0 := HS.out.cell 0
  have s1 := HS.out.cell 1
  have s2 := HS.out.cell 2
  simp at s0 s1 s2
  clear hc hfr hhit hnone SZ hZ hY hB hq
  go_enter Try.func14, Try.ntmps14
  go_upto_region 1 with fail
  rw [← hgS, ← hW]
  clear hgS hW
  go_wp2_with fail
  refine CK.out.mono ?_; rintro e w1 ⟨rfl, b1⟩
  have HB1 := Lib.hid b1
  replace s0 := cell_next b1 s0
  replace s1 := cell_next b1 s1
  replace s2 := cell_next b1 s2
  clear b1 CK
  go_wp2_with fail
  refine (SQ.out _).mono ?_; rintro e w2 ⟨rfl, hw2⟩
  replace hw2 := hw2.symm
  subst hw2
  clear d1 d2 d2' d2''
  go_wp2_with fail
  go_loopw [12] (fun wv wr => ∃ i : Nat, i ≤ B ∧ wv = .int .i64 ((i * Z : Nat) : Int) ∧ Hid (∀ j, j < i → F j = false) ∧ Hid (Below W.heap.size W wr)) (fun wv _ => Y - (RowKit.intOf wv).toNat)
  case atStart => exact ⟨0, Nat.zero_le _, by simp, fun j hj => absurd hj (Nat.not_lt_zero _), HB1⟩
  case round =>
    clear s0 s1 s2
    obtain ⟨i, hi, rfl, HN, HB⟩ := hrel
    have HBr : Hid (Below w.heap.size w wr) := below_next HB.out HBW.out
    have s0 := (HS.out.kept HB.out).cell 0
    have s1 := (HS.out.kept HB.out).cell 1
    have s2 := (HS.out.kept HB.out).cell 2
    simp at s0 s1 s2
    have hle : i * Z ≤ Y := by have := Nat.mul_le_mul_right Z hi; have := hBZ.out; omega
    by_cases hlt : i < B
    · have hX2 : i * Z + Z ≤ Y := by
        have h1 := Nat.mul_le_mul_right Z (show i + 1 ≤ B from hlt)
        rw [Nat.succ_mul] at h1
        have := hBZ.out
        omega
      have hmul : Hid ((i + 1) * Z = i * Z + Z) := Nat.succ_mul _ _
      have HF := Lib.hid (FR.out i wr hlt HBr.out)
      have HHIT : Hid (F i = true → r1 = ((i * Z : Nat) : Int) ∧ r2 = true) := fun hf => HIT.out i hlt hf HN.out
      have HNX : Hid (F i = false → ∀ j, j < i + 1 → F j = false) := fun hf j hj => by
        rcases Nat.lt_or_ge j i with h1 | h1
        · exact HN.out j h1
        · obtain rfl : j = i := by omega
          exact hf
      obtain ⟨G, hG⟩ : ∃ G, G = F i := ⟨_, rfl⟩
      rw [← hG] at HF HHIT HNX
      obtain ⟨X, hX⟩ : ∃ X, X = i * Z := ⟨_, rfl⟩
      rw [← hX] at HF HHIT hmul hX2 hle ⊢
      have k1 : decide (X < Y) = true := decide_eq_true (by omega)
      have k2 : decide ((X : Int) < (Y : Int)) = true := decide_eq_true (by omega)
      clear hG hX HN
      go_wp2_with fail
      refine (SN.out _).mono ?_; rintro e w2 ⟨rfl, hw2⟩
      replace hw2 := hw2.symm
      subst hw2
      go_wp2_with fail
      refine HF.out.mono ?_; rintro e w3 ⟨rfl, b3⟩
      have HB3 := Lib.hid (below_next b3 HB.out)
      have HB3w := Lib.hid (below_next b3 HBr.out)
      clear b3 HF s0 s1 s2
      cases G with
      | true =>
        have HEE := Lib.hid (HHIT.out rfl)
        clear HHIT HNX
        go_wp2_with fail
        go_ret2
        exact ⟨by (rw [HEE.out.1, HEE.out.2]; rfl), HB3w.out⟩
      | false =>
        have HNY := Lib.hid (HNX.out rfl)
        clear HHIT HNX
        go_wp2_with fail
        go_roundw
        case rel => exact ⟨i + 1, hlt, by (rw [hmul.out]; push_cast; rfl), HNY, HB3⟩
        case measure => simp [RowKit.intOf]; omega
    · have HFIN : Hid (r1 = 0 ∧ r2 = false) := NON.out fun j hj => HN.out j (by omega)
      have hiB : i = B := by omega
      have hXY : i * Z = Y := by rw [hiB]; exact hBZ.out
      clear hiB
      obtain ⟨X, hX⟩ : ∃ X, X = i * Z := ⟨_, rfl⟩
      rw [← hX] at hXY ⊢
      have k1 : decide (X < Y) = false := decide_eq_false (by omega)
      have k2 : decide ((X : Int) < (Y : Int)) = false := decide_eq_false (by omega)
      have HXY : Hid (X = Y) := hXY
      clear hX hXY hle HN hlt
      go_wp2_with fail
      refine (SN.out _).mono ?_; rintro e w2 ⟨rfl, hw2⟩
      replace hw2 := hw2.symm
      subst hw2
      go_wp2_with fail
      go_ret2
      exact ⟨by (rw [HFIN.out.1, HFIN.out.2]; rfl), HBr.out⟩
theorem refAt_ok (vf vh : Value) (c : Sc) (q a b : Nat) (w : World) (hc : ScOk c) (hr : SRow w vf vh c) (hq : q ≤ c.n) (hab : a < b) :
    Calls Try.prog 14 #[.agg #[.int .i64 (c.n : Nat), vf, vh], .int .i64 (q : Nat), .int .i64 (a : Nat), .int .i64 (b : Nat)] w fun e w' => e = .returned (.tuple #[.int .i64 (atV c q a b).1, .bool (atV c q a b).2]) ∧ Below w.heap.size w w' := by
  have hgood : Good (c.n : Int) (nsI c.fl) (c.hl.map heZ) := ⟨c, hc, rfl, rfl, rfl⟩
  have hfm : (nsI c.fl).length ≤ maxLen := by rw [nsI_len]; have := fl_len hc; unfold maxLen; omega
  have hhm : (c.hl.map heZ).length ≤ maxLen := by rw [List.length_map]; have := hc.len; unfold maxLen; omega
  refine refAt_core vf vh c.n q a b (fun i => freeB c (i * 2 ^ q) q a b) _ _ w (sl_cellG hr.f) (sl_cellH hr.h) hc.n10 hq (fun w1 h1 => ?_) (fun i w1 hi h1 => ?_) (fun i hi hf hno => ?_) (fun hno => ?_)
  · refine (refCheck_any (c.n : Int) vf vh _ _ w1 (hr.f.kept h1) (hr.h.kept h1) hfm hhm (good_w hc)).mono fun e w' ⟨er, he, hcd, hbl⟩ => ?_
    have := hcd.det (.inl ⟨rfl, hgood⟩)
    rw [this] at he; exact ⟨he, hbl⟩
  · exact refFree_ok vf vh c (i * 2 ^ q) q a b w1 hc (hr.kept h1) ⟨hq, by simp, by
      have h2 := Nat.mul_le_mul_right (2 ^ q) (show i + 1 ≤ 2 ^ (c.n - q) from hi)
      rw [Nat.succ_mul, ← Nat.pow_add] at h2
      have e : c.n - q + q = c.n := by omega
      rw [e] at h2; exact h2⟩ hab
  · unfold atV; rw [first_at hi hf hno]; exact ⟨rfl, rfl⟩
  · rw [atV_none (first_no hno)]; exact ⟨rfl, rfl⟩
set_option maxRecDepth 100000 in
set_option maxHeartbeats 8000000 in
theorem refAt_bad (vf vh : Value) (N Q A T er : Int) (w : World) (hvf : ∃ a n c, vf = .slice a n c) (hvh : ∃ a n c, vh = .slice a n c)
    (hc : ∀ w1, Below w.heap.size w w1 → Calls Try.prog 15 #[.agg #[.int .i64 N, vf, vh]] w1 fun e w' => e = .returned (.int .i64 er) ∧ Below w1.heap.size w1 w')
    (hbad : ¬ (er = 0 ∧ 0 ≤ Q ∧ Q ≤ N)) :
    Calls Try.prog 14 #[.agg #[.int .i64 N, vf, vh], .int .i64 Q, .int .i64 A, .int .i64 T] w fun e w' => e = .returned (.tuple #[.int .i64 0, .bool false]) ∧ Below w.heap.size w w' := by
  obtain ⟨fa, LF, fc, rfl⟩ := hvf
  obtain ⟨ha, LH, hc2, rfl⟩ := hvh
  obtain ⟨W, hW⟩ : ∃ W, W = w.alloc (.cells #[.int .i64 N, .slice fa LF fc, .slice ha LH hc2] 25) := ⟨_, rfl⟩
  obtain ⟨gS, hgS⟩ : ∃ g, g = w.heap.size := ⟨_, rfl⟩
  have HBW : Hid (Below w.heap.size w W) := by unfold Hid; rw [hW]; exact (Below.refl _ _).alloc (Nat.le_refl _) _
  have HS : Hid (Blk W gS #[.int .i64 N, .slice fa LF fc, .slice ha LH hc2] 25) := by unfold Hid; rw [hW, hgS]; exact Blk.new w _ _
  have CK := Lib.hid (hc W HBW.out)
  have s0 := HS.out.cell 0
  have s1 := HS.out.cell 1
  have s2 := HS.out.cell 2
  simp at s0 s1 s2
  clear hc
  by_cases he : er = 0
  · subst he
    by_cases h1 : Q < 0
    · have d1 : decide (Q < 0) = true := decide_eq_true h1
      clear hbad
      go_enter Try.func14, Try.ntmps14
      go_upto_region 1 with fail
      rw [← hgS, ← hW]
      clear hgS hW
      go_wp2_with fail
      refine CK.out.mono ?_; rintro e w1 ⟨rfl, b1⟩
      have HB1 := Lib.hid (below_next b1 HBW.out)
      replace s0 := cell_next b1 s0
      replace s1 := cell_next b1 s1
      replace s2 := cell_next b1 s2
      clear b1 CK HS
      go_wp2_with fail
      go_ret2
      exact ⟨rfl, HB1.out⟩
    · have d1 : decide (Q < 0) = false := decide_eq_false h1
      have h2 : N < Q := by omega
      have d2 : decide (Q > N) = true := decide_eq_true h2
      have d2' : decide (N < Q) = true := decide_eq_true h2
      clear hbad
      go_enter Try.func14, Try.ntmps14
      go_upto_region 1 with fail
      rw [← hgS, ← hW]
      clear hgS hW
      go_wp2_with fail
      refine CK.out.mono ?_; rintro e w1 ⟨rfl, b1⟩
      have HB1 := Lib.hid (below_next b1 HBW.out)
      replace s0 := cell_next b1 s0
      replace s1 := cell_next b1 s1
      replace s2 := cell_next b1 s2
      clear b1 CK HS
      go_wp2_with fail
      go_ret2
      exact ⟨rfl, HB1.out⟩
  · have d0 : (er == 0) = false := by simp; exact he
    have d0' : (er != 0) = true := by simp; exact he
    clear hbad
    go_enter Try.func14, Try.ntmps14
    go_upto_region 1 with fail
    rw [← hgS, ← hW]
    clear hgS hW
    go_wp2_with fail
    refine CK.out.mono ?_; rintro e w1 ⟨rfl, b1⟩
    have HB1 := Lib.hid (below_next b1 HBW.out)
    replace s0 := cell_next b1 s0
    replace s1 := cell_next b1 s1
    replace s2 := cell_next b1 s2
    clear b1 CK HS
    go_wp2_with fail
    go_ret2
    exact ⟨rfl, HB1.out⟩
theorem refAt_no (N Q A T : Int) (vf vh : Value) (FL : List Int) (HL : List HeI) (w : World) (hf : GRow w vf FL) (hh : HRow w vh HL) (hfl : FL.length ≤ maxLen) (hhl : HL.length ≤ maxLen) (hHW : ∀ x ∈ HL, x.1 ≤ 9223372036854775807) (hno : ¬ (Good N FL HL ∧ (0 ≤ Q ∧ Q ≤ N) ∧ 0 ≤ A ∧ A < T)) :
    Calls Try.prog 14 #[.agg #[.int .i64 N, vf, vh], .int .i64 Q, .int .i64 A, .int .i64 T] w fun e w' => e = .returned (.tuple #[.int .i64 0, .bool false]) ∧ Below w.heap.size w w' := by
  obtain ⟨er, hcd⟩ : ∃ er, BfCode N FL HL er := by
    by_cases h : Good N FL HL
    · exact ⟨0, .inl ⟨rfl, h⟩⟩
    · exact ⟨2, .inr ⟨rfl, h⟩⟩
  have hck : ∀ w1, Below w.heap.size w w1 → Calls Try.prog 15 #[.agg #[.int .i64 N, vf, vh]] w1 fun e w' => e = .returned (.int .i64 er) ∧ Below w1.heap.size w1 w' := fun w1 h1 => by
    refine (refCheck_any N vf vh _ _ w1 (hf.kept h1) (hh.kept h1) hfl hhl hHW).mono fun e w' ⟨er2, he, hcd2, hbl⟩ => ?_
    have := hcd2.det hcd
    rw [this] at he; exact ⟨he, hbl⟩
  by_cases h : er = 0 ∧ 0 ≤ Q ∧ Q ≤ N
  · obtain ⟨rfl, h1, h2⟩ := h
    have hg : Good N FL HL := by
      rcases hcd with ⟨_, h⟩ | ⟨h, _⟩
      · exact h
      · omega
    obtain ⟨c, hc, rfl, rfl, rfl⟩ := hg
    obtain ⟨q, rfl⟩ := Int.eq_ofNat_of_zero_le h1
    refine refAt_core vf vh c.n q A T (fun _ => false) 0 false w (sl_cellG hf) (sl_cellH hh) hc.n10 (by omega) hck (fun i w1 hi h1 => ?_) (fun i hi hf hno => by cases hf) (fun _ => ⟨rfl, rfl⟩)
    have h3 := Nat.mul_le_mul_right (2 ^ q) (show i + 1 ≤ 2 ^ (c.n - q) from hi)
    rw [Nat.succ_mul, ← Nat.pow_add] at h3
    have e : c.n - q + q = c.n := by omega
    rw [e] at h3
    have h4 := pow_1024 hc.n10
    have h6 := two_pos q
    have h5 : i * 2 ^ q ≤ 1024 := by omega
    exact refFree_no _ _ _ A T vf vh _ _ w1 (hf.kept h1) (hh.kept h1) hfl hhl hHW (by omega) (fun h => hno ⟨⟨c, hc, rfl, rfl, rfl⟩, ⟨by omega, h2⟩, h.2.2⟩)
  · exact refAt_bad vf vh N Q A T er w (sl_cellG hf) (sl_cellH hh) hck h
end Go.Proofs.Ytioeblljabohbaa
