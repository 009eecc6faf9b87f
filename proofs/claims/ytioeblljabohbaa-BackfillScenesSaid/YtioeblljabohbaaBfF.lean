/-
  backfill.Free: at any scene, block and ticks.
-/
import Derived.Test.YtioeblljabohbaaBfE
namespace Go.Proofs.Ytioeblljabohbaa
open Go Go.RowKit Go.Lib
set_option linter.unusedVariables false

theorem freeB_any (c : Sc) (s o a b : Nat) : freeB c s o a b = (!(c.fl.any fun x => meetB x 0 s o) && !(c.hl.any (askH s o a b))) := by
  unfold freeB askH
  rw [List.not_any_eq_all_not, List.not_any_eq_all_not]
theorem pow_1024 {n : Nat} (h : n ≤ 10) : 2 ^ n ≤ 1024 := Nat.le_trans (Nat.pow_le_pow_right (by omega) h) (by decide)
theorem ScOk.in_he {c : Sc} (h : ScOk c) : ∀ x ∈ c.hl, HeIn x := fun x hx => by
  obtain ⟨⟨h1, h2, h3⟩, _, _⟩ := h.he x hx
  have := pow_1024 h.n10
  have := two_pos x.2.1
  exact ⟨h2, by omega, by have := h.n10; omega⟩
theorem ScOk.in_fl {c : Sc} (h : ScOk c) : ∀ x ∈ c.fl, x < 4096 := fun x hx => by
  have := h.lt x hx
  have := pow_1024 h.n10
  omega
theorem blk_lt {n s o : Nat} (hn : n ≤ 10) (h : blkOk n s o) : s < 4096 ∧ o ≤ 10 := by
  have := pow_1024 hn
  have := two_pos o
  have := h.2.2
  have := h.1
  exact ⟨by omega, by omega⟩
noncomputable def blkB (n : Nat) (S O : Int) : Bool := @decide (blkI n S O) (Classical.propDecidable _)
theorem blkB_iff {n : Nat} {S O : Int} : blkB n S O = true ↔ blkI n S O := @decide_eq_true_iff _ (Classical.propDecidable _)
theorem blkB_no {n : Nat} {S O : Int} (h : ¬ blkI n S O) : blkB n S O = false := by rw [← Bool.not_eq_true, blkB_iff]; exact h
/-- A scene, and a row of it in the memory. -/
def SRaw (w : World) (N : Int) (vf vh : Value) (c : Sc) : Prop := ScOk c ∧ N = (c.n : Int) ∧ SRow w vf vh c
theorem fl_len {c : Sc} (h : ScOk c) : c.fl.length ≤ 1024 := by
  have h1 := h.inc
  have h2 := h.lt
  have h3 := pow_1024 h.n10
  have hi : ∀ i (h : i < c.fl.length), i ≤ c.fl[i] := by
    intro i
    induction i with
    | zero => intro h; omega
    | succ i ih =>
      intro h
      have a := ih (by omega)
      have b := (List.pairwise_iff_getElem.1 h1) i (i + 1) (by omega) h (by omega)
      omega
  rcases Nat.eq_zero_or_pos c.fl.length with h0 | h0
  · omega
  · have a := hi (c.fl.length - 1) (by omega)
    have b := h2 _ (List.getElem_mem (show c.fl.length - 1 < c.fl.length by omega))
    omega
set_option maxRecDepth 100000 in
set_option maxHeartbeats 4000000 in
theorem free_ok (vf vh : Value) (c : Sc) (s o a b : Nat) (w : World) (hc : ScOk c) (hr : SRow w vf vh c) (hb : blkOk c.n s o) (hab : a < b) :
    Calls Try.prog 12 #[.agg #[.int .i64 (c.n : Nat), vf, vh], .agg #[.int .i64 (s : Nat), .int .i64 (o : Nat)], .int .i64 (a : Nat), .int .i64 (b : Nat)] w fun e w' => e = .returned (.bool (freeB c s o a b)) ∧ Below w.heap.size w w' := by
  have hgood : Good (c.n : Int) (nsI c.fl) (c.hl.map heZ) := ⟨c, hc, rfl, rfl, rfl⟩
  have hfm : (nsI c.fl).length ≤ maxLen := by rw [nsI_len]; have := fl_len hc; unfold maxLen; omega
  have hhm : (c.hl.map heZ).length ≤ maxLen := by rw [List.length_map]; have := hc.len; unfold maxLen; omega
  have CK : Hid (∀ w1, Below w.heap.size w w1 → Calls Try.prog 11 #[.agg #[.int .i64 (c.n : Nat), vf, vh]] w1 fun e w' => e = .returned (.int .i64 0) ∧ Below w1.heap.size w1 w') := fun w1 h1 =>
    (check_any (c.n : Int) vf vh _ _ w1 (hr.f.kept h1) (hr.h.kept h1) hfm hhm).mono fun e w' ⟨er, he, hcd, hbl⟩ => by
      have := hcd.det (.inl ⟨rfl, hgood⟩)
      rw [this] at he; exact ⟨he, hbl⟩
  have hvf : vf.oneCell' = true := by obtain ⟨x, y, rfl⟩ := hr.f.slice; rfl
  have hvh : vh.oneCell' = true := by obtain ⟨x, y, rfl⟩ := hr.h.slice; rfl
  have HBk : Hid (∀ w1, Calls Try.prog 29 #[.agg #[.int .i64 (c.n : Nat), vf, vh], .agg #[.int .i64 (s : Nat), .int .i64 (o : Nat)]] w1 fun e w' => e = .returned (.bool true) ∧ Below w1.heap.size w1 w') := fun w1 =>
    (hasBlock_any c.n vf vh (s : Int) (o : Int) w1 hc.n10 hvf hvh).mono fun e w' ⟨r, he, hi, hbl⟩ => by
      rw [hi.2 ⟨s, o, rfl, rfl, hb⟩] at he; exact ⟨he, hbl⟩
  obtain ⟨hs4, ho10⟩ := blk_lt hc.n10 hb
  have HF : Hid (∀ w1 gB, Below w.heap.size w w1 → Blk w1 gB #[.int .i64 (s : Nat), .int .i64 (o : Nat)] 27 → Calls Try.prog 30 #[vf, .func (.func 31) #[] #[.pointer (some ⟨gB, 0, none⟩)]] w1 fun e w' => e = .returned (.bool (c.fl.any fun x : Nat => meetB x 0 s o)) ∧ Below w1.heap.size w1 w') := fun w1 gB h1 hB =>
    hasF_any vf gB s o c.fl hb.2.1 hs4 ho10 w1 (by have := fl_len hc; omega) hc.in_fl (hr.f.kept h1) hB
  have HH : Hid (∀ w1 gT gA gB, Below w.heap.size w w1 → Blk w1 gA #[.int .i64 (a : Nat)] 3 → Blk w1 gT #[.int .i64 (b : Nat)] 3 → Blk w1 gB #[.int .i64 (s : Nat), .int .i64 (o : Nat)] 27 →
    Calls Try.prog 33 #[vh, .func (.func 34) #[] #[.pointer (some ⟨gT, 0, none⟩), .pointer (some ⟨gA, 0, none⟩), .pointer (some ⟨gB, 0, none⟩)]] w1 fun e w' => e = .returned (.bool (c.hl.any (askH s o a b))) ∧ Below w1.heap.size w1 w') := fun w1 gT gA gB h1 hA hT hB =>
    hasH_any vh gT gA gB s o a b c.hl hb.2.1 hs4 ho10 w1 (by have := hc.len; omega) hc.in_he (hr.h.kept h1) hA hT hB
  rw [freeB_any]
  obtain ⟨P, hP⟩ : ∃ P, P = (c.fl.any fun x : Nat => meetB x 0 s o) := ⟨_, rfl⟩
  obtain ⟨Q, hQ⟩ : ∃ Q, Q = (c.hl.any (askH s o a b)) := ⟨_, rfl⟩
  rw [← hP] at HF ⊢
  rw [← hQ] at HH ⊢
  obtain ⟨fa, fc, rfl⟩ := hr.f.slice
  obtain ⟨ha, hc2, rfl⟩ := hr.h.slice
  obtain ⟨LF, hLF⟩ : ∃ n, n = (nsI c.fl).length := ⟨_, rfl⟩
  obtain ⟨LH, hLH⟩ : ∃ n, n = (c.hl.map heZ).length := ⟨_, rfl⟩
  rw [← hLF, ← hLH] at CK HBk
  rw [← hLF] at HF
  rw [← hLH] at HH
  rw [← hLF, ← hLH]
  obtain ⟨N, hN⟩ : ∃ n, n = c.n := ⟨_, rfl⟩
  rw [← hN] at CK HBk ⊢
  clear hgood hfm hhm hvf hvh hP hQ hLF hLH hN hr hb hc
  obtain ⟨gS, hgS⟩ : ∃ g, g = w.heap.size := ⟨_, rfl⟩
  obtain ⟨W, hW⟩ : ∃ W, W = (((w.alloc (.cells #[.int .i64 (N : Nat), .slice fa LF fc, .slice ha LH hc2] 25)).alloc (.cells #[.int .i64 (s : Nat), .int .i64 (o : Nat)] 27)).alloc (.cells #[.int .i64 (a : Nat)] 3)).alloc (.cells #[.int .i64 (b : Nat)] 3) := ⟨_, rfl⟩
  have HBW : Hid (Below w.heap.size w W) := by unfold Hid; rw [hW]; exact ((((Below.refl _ _).alloc (Nat.le_refl _) _).alloc (by simp) _).alloc (by simp; omega) _).alloc (by simp; omega) _
  have HS : Hid (Blk W gS #[.int .i64 (N : Nat), .slice fa LF fc, .slice ha LH hc2] 25) := by unfold Hid; rw [hW, hgS]; exact (((Blk.new w _ _).old _).old _).old _
  have HB : Hid (Blk W (gS + 1) #[.int .i64 (s : Nat), .int .i64 (o : Nat)] 27) := by
    unfold Hid; rw [hW, hgS]
    have h := Blk.new (w.alloc (.cells #[.int .i64 (N : Nat), .slice fa LF fc, .slice ha LH hc2] 25)) #[.int .i64 (s : Nat), .int .i64 (o : Nat)] 27
    have e : (w.alloc (.cells #[.int .i64 (N : Nat), .slice fa LF fc, .slice ha LH hc2] 25)).heap.size = w.heap.size + 1 := by simp
    rw [e] at h
    exact (h.old _).old _
  have HA : Hid (Blk W (gS + 1 + 1) #[.int .i64 (a : Nat)] 3) := by
    unfold Hid; rw [hW, hgS]
    have h := Blk.new ((w.alloc (.cells #[.int .i64 (N : Nat), .slice fa LF fc, .slice ha LH hc2] 25)).alloc (.cells #[.int .i64 (s : Nat), .int .i64 (o : Nat)] 27)) #[.int .i64 (a : Nat)] 3
    have e : ((w.alloc (.cells #[.int .i64 (N : Nat), .slice fa LF fc, .slice ha LH hc2] 25)).alloc (.cells #[.int .i64 (s : Nat), .int .i64 (o : Nat)] 27)).heap.size = w.heap.size + 1 + 1 := by simp
    rw [e] at h
    exact h.old _
  have HT : Hid (Blk W (gS + 1 + 1 + 1) #[.int .i64 (b : Nat)] 3) := by
    unfold Hid; rw [hW, hgS]
    have h := Blk.new (((w.alloc (.cells #[.int .i64 (N : Nat), .slice fa LF fc, .slice ha LH hc2] 25)).alloc (.cells #[.int .i64 (s : Nat), .int .i64 (o : Nat)] 27)).alloc (.cells #[.int .i64 (a : Nat)] 3)) #[.int .i64 (b : Nat)] 3
    have e : (((w.alloc (.cells #[.int .i64 (N : Nat), .slice fa LF fc, .slice ha LH hc2] 25)).alloc (.cells #[.int .i64 (s : Nat), .int .i64 (o : Nat)] 27)).alloc (.cells #[.int .i64 (a : Nat)] 3)).heap.size = w.heap.size + 1 + 1 + 1 := by simp
    rw [e] at h
    exact h
  have d1 : decide ((a : Int) < 0) = false := decide_eq_false (by omega)
  have d2 : decide ((b : Int) ≤ (a : Int)) = false := decide_eq_false (by omega)
  have d3 : decide (b ≤ a) = false := decide_eq_false (by omega)
  have FACTS : Hid (∀ w1, Below W.heap.size W w1 → (w1.cell? ⟨gS, 0, none⟩ = some (.int .i64 (N : Nat)) ∧ w1.cell? ⟨gS, 1, none⟩ = some (.slice fa LF fc) ∧ w1.cell? ⟨gS, 2, none⟩ = some (.slice ha LH hc2)) ∧ (w1.cell? ⟨gS + 1, 0, none⟩ = some (.int .i64 (s : Nat)) ∧ w1.cell? ⟨gS + 1, 1, none⟩ = some (.int .i64 (o : Nat))) ∧ w1.cell? ⟨gS + 1 + 1, 0, none⟩ = some (.int .i64 (a : Nat)) ∧ w1.cell? ⟨gS + 1 + 1 + 1, 0, none⟩ = some (.int .i64 (b : Nat))) := fun w1 h1 =>
    ⟨⟨cell_next h1 (HS.out.cell 0), cell_next h1 (HS.out.cell 1), cell_next h1 (HS.out.cell 2)⟩, ⟨cell_next h1 (HB.out.cell 0), cell_next h1 (HB.out.cell 1)⟩, cell_next h1 (HA.out.cell 0), cell_next h1 (HT.out.cell 0)⟩
  go_enter Try.func12, Try.ntmps12
  go_upto_region 1 with fail
  rw [← hW, ← hgS]
  clear hW hgS hs4 ho10 hab
  obtain ⟨⟨s0, s1, s2⟩, ⟨t0, t1⟩, a0, b0⟩ := FACTS.out W (Below.refl _ _)
  go_wp2_with fail
  refine (CK.out _ HBW.out).mono ?_; rintro e w1 ⟨rfl, b1⟩
  have B1 := Lib.hid b1
  clear b1 CK s0 s1 s2 t0 t1 a0 b0
  obtain ⟨⟨s0, s1, s2⟩, ⟨t0, t1⟩, a0, b0⟩ := FACTS.out w1 B1.out
  go_wp2_with fail
  refine (HBk.out _).mono ?_; rintro e w2 ⟨rfl, b2⟩
  have B2 := Lib.hid (below_next b2 B1.out)
  clear b2 HBk s0 s1 s2 t0 t1 a0 b0
  obtain ⟨⟨s0, s1, s2⟩, ⟨t0, t1⟩, a0, b0⟩ := FACTS.out w2 B2.out
  go_wp2_with fail
  refine (HF.out w2 (gS + 1) (below_next B2.out HBW.out) (HB.out.kept B2.out)).mono ?_; rintro e w3 ⟨rfl, b3⟩
  have B3 := Lib.hid (below_next b3 B2.out)
  clear b3 HF s0 s1 s2 t0 t1 a0 b0
  obtain ⟨⟨s0, s1, s2⟩, ⟨t0, t1⟩, a0, b0⟩ := FACTS.out w3 B3.out
  go_wp2_with fail
  refine (HH.out w3 (gS + 1 + 1 + 1) (gS + 1 + 1) (gS + 1) (below_next B3.out HBW.out) (HA.out.kept B3.out) (HT.out.kept B3.out) (HB.out.kept B3.out)).mono ?_; rintro e w4 ⟨rfl, b4⟩
  have B4 := Lib.hid (below_next (below_next b4 B3.out) HBW.out)
  clear b4 HH s0 s1 s2 t0 t1 a0 b0
  cases P
  · go_wp2_with fail
    go_ret
    exact ⟨by cases Q <;> rfl, B4.out⟩
  · go_wp2_with fail
    go_ret
    exact ⟨rfl, B4.out⟩
set_option maxRecDepth 100000 in
set_option maxHeartbeats 4000000 in
theorem free_no (N S O A T : Int) (vf vh : Value) (FL : List Int) (HL : List HeI) (w : World) (hf : GRow w vf FL) (hh : HRow w vh HL) (hfl : FL.length ≤ maxLen) (hhl : HL.length ≤ maxLen) (hno : ¬ (Good N FL HL ∧ blkI N.toNat S O ∧ 0 ≤ A ∧ A < T)) :
    Calls Try.prog 12 #[.agg #[.int .i64 N, vf, vh], .agg #[.int .i64 S, .int .i64 O], .int .i64 A, .int .i64 T] w fun e w' => e = .returned (.bool false) ∧ Below w.heap.size w w' := by
  obtain ⟨er, hcd⟩ : ∃ er, BfCode N FL HL er := by
    by_cases h : Good N FL HL
    · exact ⟨0, .inl ⟨rfl, h⟩⟩
    · exact ⟨2, .inr ⟨rfl, h⟩⟩
  have CK : Hid (∀ w1, Below w.heap.size w w1 → Calls Try.prog 11 #[.agg #[.int .i64 N, vf, vh]] w1 fun e w' => e = .returned (.int .i64 er) ∧ Below w1.heap.size w1 w') := fun w1 h1 =>
    (check_any N vf vh _ _ w1 (hf.kept h1) (hh.kept h1) hfl hhl).mono fun e w' ⟨er2, he, hcd2, hbl⟩ => by
      have := hcd2.det hcd
      rw [this] at he; exact ⟨he, hbl⟩
  have hvf : vf.oneCell' = true := by obtain ⟨x, y, rfl⟩ := hf.slice; rfl
  have hvh : vh.oneCell' = true := by obtain ⟨x, y, rfl⟩ := hh.slice; rfl
  have HBk : Hid (Good N FL HL → ∀ w1, Calls Try.prog 29 #[.agg #[.int .i64 N, vf, vh], .agg #[.int .i64 S, .int .i64 O]] w1 fun e w' => e = .returned (.bool (blkB N.toNat S O)) ∧ Below w1.heap.size w1 w') := fun hg w1 => by
    obtain ⟨h1, h2, _⟩ := good_n hg
    obtain ⟨n, rfl⟩ := Int.eq_ofNat_of_zero_le h1
    refine (hasBlock_any n vf vh S O w1 (by omega) hvf hvh).mono fun e w' ⟨r, he, hi, hbl⟩ => ?_
    have e1 : ((n : Int).toNat) = n := by omega
    have : r = blkB (n : Int).toNat S O := by rw [Bool.eq_iff_iff, hi, blkB_iff, e1]
    rw [← this]; exact ⟨he, hbl⟩
  obtain ⟨fa, fc, rfl⟩ := hf.slice
  obtain ⟨ha, hc2, rfl⟩ := hh.slice
  obtain ⟨LF, hLF⟩ : ∃ n, n = FL.length := ⟨_, rfl⟩
  obtain ⟨LH, hLH⟩ : ∃ n, n = HL.length := ⟨_, rfl⟩
  rw [← hLF, ← hLH] at CK HBk ⊢
  clear hvf hvh hLF hLH hf hh hfl hhl
  obtain ⟨gS, hgS⟩ : ∃ g, g = w.heap.size := ⟨_, rfl⟩
  obtain ⟨W, hW⟩ : ∃ W, W = (((w.alloc (.cells #[.int .i64 N, .slice fa LF fc, .slice ha LH hc2] 25)).alloc (.cells #[.int .i64 S, .int .i64 O] 27)).alloc (.cells #[.int .i64 A] 3)).alloc (.cells #[.int .i64 T] 3) := ⟨_, rfl⟩
  have HBW : Hid (Below w.heap.size w W) := by unfold Hid; rw [hW]; exact ((((Below.refl _ _).alloc (Nat.le_refl _) _).alloc (by simp) _).alloc (by simp; omega) _).alloc (by simp; omega) _
  have HS : Hid (Blk W gS #[.int .i64 N, .slice fa LF fc, .slice ha LH hc2] 25) := by unfold Hid; rw [hW, hgS]; exact (((Blk.new w _ _).old _).old _).old _
  have HB : Hid (Blk W (gS + 1) #[.int .i64 S, .int .i64 O] 27) := by
    unfold Hid; rw [hW, hgS]
    have h := Blk.new (w.alloc (.cells #[.int .i64 N, .slice fa LF fc, .slice ha LH hc2] 25)) #[.int .i64 S, .int .i64 O] 27
    have e : (w.alloc (.cells #[.int .i64 N, .slice fa LF fc, .slice ha LH hc2] 25)).heap.size = w.heap.size + 1 := by simp
    rw [e] at h
    exact (h.old _).old _
  have HA : Hid (Blk W (gS + 1 + 1) #[.int .i64 A] 3) := by
    unfold Hid; rw [hW, hgS]
    have h := Blk.new ((w.alloc (.cells #[.int .i64 N, .slice fa LF fc, .slice ha LH hc2] 25)).alloc (.cells #[.int .i64 S, .int .i64 O] 27)) #[.int .i64 A] 3
    have e : ((w.alloc (.cells #[.int .i64 N, .slice fa LF fc, .slice ha LH hc2] 25)).alloc (.cells #[.int .i64 S, .int .i64 O] 27)).heap.size = w.heap.size + 1 + 1 := by simp
    rw [e] at h
    exact h.old _
  have HT : Hid (Blk W (gS + 1 + 1 + 1) #[.int .i64 T] 3) := by
    unfold Hid; rw [hW, hgS]
    have h := Blk.new (((w.alloc (.cells #[.int .i64 N, .slice fa LF fc, .slice ha LH hc2] 25)).alloc (.cells #[.int .i64 S, .int .i64 O] 27)).alloc (.cells #[.int .i64 A] 3)) #[.int .i64 T] 3
    have e : (((w.alloc (.cells #[.int .i64 N, .slice fa LF fc, .slice ha LH hc2] 25)).alloc (.cells #[.int .i64 S, .int .i64 O] 27)).alloc (.cells #[.int .i64 A] 3)).heap.size = w.heap.size + 1 + 1 + 1 := by simp
    rw [e] at h
    exact h
  have FACTS : Hid (∀ w1, Below W.heap.size W w1 → (w1.cell? ⟨gS, 0, none⟩ = some (.int .i64 N) ∧ w1.cell? ⟨gS, 1, none⟩ = some (.slice fa LF fc) ∧ w1.cell? ⟨gS, 2, none⟩ = some (.slice ha LH hc2)) ∧ (w1.cell? ⟨gS + 1, 0, none⟩ = some (.int .i64 S) ∧ w1.cell? ⟨gS + 1, 1, none⟩ = some (.int .i64 O)) ∧ w1.cell? ⟨gS + 1 + 1, 0, none⟩ = some (.int .i64 A) ∧ w1.cell? ⟨gS + 1 + 1 + 1, 0, none⟩ = some (.int .i64 T)) := fun w1 h1 =>
    ⟨⟨cell_next h1 (HS.out.cell 0), cell_next h1 (HS.out.cell 1), cell_next h1 (HS.out.cell 2)⟩, ⟨cell_next h1 (HB.out.cell 0), cell_next h1 (HB.out.cell 1)⟩, cell_next h1 (HA.out.cell 0), cell_next h1 (HT.out.cell 0)⟩
  by_cases hg : Good N FL HL
  · have her : er = 0 := hcd.det (.inl ⟨rfl, hg⟩)
    subst her
    have HB2 := Lib.hid (HBk.out hg)
    clear HBk hcd
    by_cases hb : blkI N.toNat S O
    · rw [blkB_iff.2 hb] at HB2
      by_cases hA : A < 0
      · have d1 : decide (A < 0) = true := decide_eq_true hA
        clear hno hg hb
        go_enter Try.func12, Try.ntmps12
        go_upto_region 1 with fail
        rw [← hW, ← hgS]
        clear hW hgS
        obtain ⟨⟨s0, s1, s2⟩, ⟨t0, t1⟩, a0, b0⟩ := FACTS.out W (Below.refl _ _)
        go_wp2_with fail
        refine (CK.out _ HBW.out).mono ?_; rintro e w1 ⟨rfl, b1⟩
        have B1 := Lib.hid b1
        clear b1 CK s0 s1 s2 t0 t1 a0 b0
        obtain ⟨⟨s0, s1, s2⟩, ⟨t0, t1⟩, a0, b0⟩ := FACTS.out w1 B1.out
        go_wp2_with fail
        refine (HB2.out _).mono ?_; rintro e w2 ⟨rfl, b2⟩
        have B2 := Lib.hid (below_next b2 B1.out)
        clear b2 s0 s1 s2 t0 t1 a0 b0
        obtain ⟨⟨s0, s1, s2⟩, ⟨t0, t1⟩, a0, b0⟩ := FACTS.out w2 B2.out
        have B3 := Lib.hid (below_next B2.out HBW.out)
        go_wp2_with fail
        go_ret
        exact ⟨rfl, B3.out⟩
      · have d1 : decide (A < 0) = false := decide_eq_false hA
        have hT : T ≤ A := by
          apply Classical.byContradiction
          intro h
          exact hno ⟨hg, hb, by omega, by omega⟩
        have d2 : decide (T ≤ A) = true := decide_eq_true hT
        clear hno hg hb
        go_enter Try.func12, Try.ntmps12
        go_upto_region 1 with fail
        rw [← hW, ← hgS]
        clear hW hgS
        obtain ⟨⟨s0, s1, s2⟩, ⟨t0, t1⟩, a0, b0⟩ := FACTS.out W (Below.refl _ _)
        go_wp2_with fail
        refine (CK.out _ HBW.out).mono ?_; rintro e w1 ⟨rfl, b1⟩
        have B1 := Lib.hid b1
        clear b1 CK s0 s1 s2 t0 t1 a0 b0
        obtain ⟨⟨s0, s1, s2⟩, ⟨t0, t1⟩, a0, b0⟩ := FACTS.out w1 B1.out
        go_wp2_with fail
        refine (HB2.out _).mono ?_; rintro e w2 ⟨rfl, b2⟩
        have B2 := Lib.hid (below_next b2 B1.out)
        clear b2 s0 s1 s2 t0 t1 a0 b0
        obtain ⟨⟨s0, s1, s2⟩, ⟨t0, t1⟩, a0, b0⟩ := FACTS.out w2 B2.out
        have B3 := Lib.hid (below_next B2.out HBW.out)
        go_wp2_with fail
        go_ret
        exact ⟨rfl, B3.out⟩
    · rw [blkB_no hb] at HB2
      clear hno hg hb
      go_enter Try.func12, Try.ntmps12
      go_upto_region 1 with fail
      rw [← hW, ← hgS]
      clear hW hgS
      obtain ⟨⟨s0, s1, s2⟩, ⟨t0, t1⟩, a0, b0⟩ := FACTS.out W (Below.refl _ _)
      go_wp2_with fail
      refine (CK.out _ HBW.out).mono ?_; rintro e w1 ⟨rfl, b1⟩
      have B1 := Lib.hid b1
      clear b1 CK s0 s1 s2 t0 t1 a0 b0
      obtain ⟨⟨s0, s1, s2⟩, ⟨t0, t1⟩, a0, b0⟩ := FACTS.out w1 B1.out
      go_wp2_with fail
      refine (HB2.out _).mono ?_; rintro e w2 ⟨rfl, b2⟩
      have B2 := Lib.hid (below_next b2 B1.out)
      clear b2 s0 s1 s2 t0 t1 a0 b0
      obtain ⟨⟨s0, s1, s2⟩, ⟨t0, t1⟩, a0, b0⟩ := FACTS.out w2 B2.out
      have B3 := Lib.hid (below_next B2.out HBW.out)
      go_wp2_with fail
      go_ret
      exact ⟨rfl, B3.out⟩
  · have her : er = 2 := hcd.det (.inr ⟨rfl, hg⟩)
    subst her
    clear hno hg HBk hcd
    go_enter Try.func12, Try.ntmps12
    go_upto_region 1 with fail
    rw [← hW, ← hgS]
    clear hW hgS
    obtain ⟨⟨s0, s1, s2⟩, ⟨t0, t1⟩, a0, b0⟩ := FACTS.out W (Below.refl _ _)
    go_wp2_with fail
    refine (CK.out _ HBW.out).mono ?_; rintro e w1 ⟨rfl, b1⟩
    have B1 := Lib.hid b1
    clear b1 CK s0 s1 s2 t0 t1 a0 b0
    obtain ⟨⟨s0, s1, s2⟩, ⟨t0, t1⟩, a0, b0⟩ := FACTS.out w1 B1.out
    have B3 := Lib.hid (below_next B1.out HBW.out)
    go_wp2_with fail
    go_ret
    exact ⟨rfl, B3.out⟩
end Go.Proofs.Ytioeblljabohbaa
