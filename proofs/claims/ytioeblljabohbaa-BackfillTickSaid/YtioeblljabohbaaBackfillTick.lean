/-
  BackfillTick: the earliest tick is one from which on a block is free so long; at no tick ahead of it is one, as far as it was asked for; for less long, or less great, it is no later: so the law returns true for every input.
-/
import Derived.Test.YtioeblljabohbaaBfJj
import Derived.Test.YtioeblljabohbaaBfKnow
import Derived.Test.YtioeblljabohbaaBfMy
import Derived.Test.YtioeblljabohbaaBfAr
import Derived.Test.YtioeblljabohbaaLaw
import Derived.Test.YtioeblljabohbaaRows
import Derived.Test.YtioeblljabohbaaArgs2
namespace Go.Proofs.Ytioeblljabohbaa.backfillTick
open Go.ChangeShapes Go.WideShapes Go.ChangeAt Go.RowKit
set_option linter.unusedVariables false

theorem own : ownKnob Try.prog.godebug = none := by kernel_rfl

open Go Go.ChangeShapes Go.WideShapes Go.ChangeAt Go.RowKit Go.Lib
set_option maxRecDepth 100000 in
set_option maxHeartbeats 4000000 in
theorem no_ (N : Int) (vf : Value) (FL : List Int) (vh : Value) (HL : List HeI) (order fr len less back er : Int) (w : World) (hf : GRow w vf FL) (hh : HRow w vh HL) (hfl : FL.length ≤ maxLen) (hhl : HL.length ≤ maxLen) (her : er ≠ 0)
    (hE : ∀ w', Below w.heap.size w w' → Calls Try.prog 18 #[.agg #[.int .i64 N, vf, vh], .int .i64 order, .int .i64 fr, .int .i64 len] w' fun e w'' => e = .returned (.tuple #[.int .i64 0, .int .i64 0, .int .i64 er]) ∧ Below w'.heap.size w' w'') :
    Calls Try.prog 7 #[.agg #[.int .i64 N, vf, vh], .int .i64 order, .int .i64 fr, .int .i64 len, .int .i64 less, .int .i64 back] w fun e w' => e = .returned (.bool true) ∧ Below w.heap.size w w' := by
  have K : Hid (∀ w1, Calls Try.prog 9 #[] w1 fun e w' => e = .returned (.bool true) ∧ Below w1.heap.size w1 w') := known15_any
  obtain ⟨fa, fc, rfl⟩ := hf.slice
  obtain ⟨ha, hc, rfl⟩ := hh.slice
  generalize FL.length = LF at *
  generalize HL.length = LH at *
  have MN : Hid (∀ w1, Calls Try.prog 8 #[.agg #[.int .i64 N, .slice fa LF fc, .slice ha LH hc], .slice none 0 0] w1 fun e w' => e = .returned (.bool (manyB N LF LH 0)) ∧ Below w1.heap.size w1 w') := fun w1 => many_any N fa ha none LF LH 0 fc hc 0 w1 (by unfold maxLen at hfl; omega) (by unfold maxLen at hhl; omega) (by omega)
  obtain ⟨M, hM⟩ : ∃ M, M = manyB N LF LH 0 := ⟨_, rfl⟩
  rw [← hM] at MN
  have HE := Lib.hid hE
  obtain ⟨W, hW⟩ : ∃ W, W = w.alloc (.cells #[.int .i64 N, .slice fa LF fc, .slice ha LH hc] 25) := ⟨_, rfl⟩
  obtain ⟨gS, hgS⟩ : ∃ g, g = w.heap.size := ⟨_, rfl⟩
  have HBW : Hid (Below w.heap.size w W) := by unfold Hid; rw [hW]; exact (Below.refl _ _).alloc (Nat.le_refl _) _
  have HS : Hid (Blk W gS #[.int .i64 N, .slice fa LF fc, .slice ha LH hc] 25) := by unfold Hid; rw [hW, hgS]; exact Blk.new w _ _
  have s0 := HS.out.cell 0
  have s1 := HS.out.cell 1
  have s2 := HS.out.cell 2
  simp at s0 s1 s2
  have he2 : (er != 0) = true := by simpa using her
  have he3 : ¬ er = 0 := her
  clear hM hE hf hh hfl hhl her
  go_enter Try.func7, Try.ntmps7
  go_upto_region 1 with fail
  rw [← hgS, ← hW]
  clear hgS hW
  go_wp2_with fail
  refine (MN.out _).mono ?_; rintro e w1 ⟨rfl, b1⟩
  have HB1 := Lib.hid (below_next b1 HBW.out)
  have hS1 := HS.out.kept b1
  clear s0 s1 s2 b1 MN
  cases M with
  | true =>
    clear hS1
    go_wp2_with fail
    refine (K.out _).mono ?_; rintro e w2 ⟨rfl, b2⟩
    have HB2 := below_next b2 HB1.out
    clear b2
    go_wp2_with fail
    go_ret
    exact ⟨rfl, HB2⟩
  | false =>
    have s0 := hS1.cell 0
    have s1 := hS1.cell 1
    have s2 := hS1.cell 2
    simp at s0 s1 s2
    clear hS1
    go_wp2_with fail
    refine (HE.out _ HB1.out).mono ?_; rintro e w2 ⟨rfl, b2⟩
    have HB2 := Lib.hid (below_next b2 HB1.out)
    clear b2 s0 s1 s2
    go_wp2_with fail
    refine (K.out _).mono ?_; rintro e w3 ⟨rfl, b3⟩
    have HB3 := below_next b3 HB2.out
    clear b3
    go_wp2_with fail
    go_ret
    exact ⟨rfl, HB3⟩
set_option maxRecDepth 100000 in
set_option maxHeartbeats 8000000 in
theorem yes_ (c : Sc) (vf vh : Value) (q a len t s : Nat) (less back : Int) (w : World) (hr : SRow w vf vh c) (hc : ScOk c) (hq : q ≤ c.n) (ha : a ≤ 1099511627776) (h1 : 1 ≤ len) (hl : len ≤ 1099511627776) (he : earlyC c q a len = some (t, s)) :
    Calls Try.prog 7 #[.agg #[.int .i64 (c.n : Nat), vf, vh], .int .i64 (q : Nat), .int .i64 (a : Nat), .int .i64 (len : Nat), .int .i64 less, .int .i64 back] w fun e w' => e = .returned (.bool true) ∧ Below w.heap.size w w' := by
  have K : Hid (∀ w1, Calls Try.prog 9 #[] w1 fun e w' => e = .returned (.bool true) ∧ Below w1.heap.size w1 w') := known15_any
  obtain ⟨U, R, u1, u2, u3, u4, u5, u6⟩ := mod_pickL less len (by omega) (by omega)
  obtain ⟨V, m, v1, v2, v3, v4, v5, v6⟩ := mod_pickL back 50 (by omega) (by omega)
  obtain ⟨p1, p2⟩ := earlyC_some he
  obtain ⟨p3, p4⟩ := firstB_some p2 hq
  have ht := early_t hc ha he
  obtain ⟨t1, s1', x1, x2⟩ := early_less hq he (Nat.le_refl q) (show 1 + R ≤ len by omega)
  obtain ⟨q2, hq2⟩ : ∃ x, x = q - 1 := ⟨_, rfl⟩
  obtain ⟨t2, s2', y1, y2⟩ := early_less hq he (show q2 ≤ q by omega) (Nat.le_refl len)
  have HNOT : Hid (∀ u, a ≤ u → u < t → firstB c q u (u + len) = none) := fun u k1 k2 => earlyC_not hq he k1 k2
  have hEA : ∀ w1, Below w.heap.size w w1 → _ := fun w1 h => Earliest_ok vf vh c q a len w1 hc (hr.kept h) hq ha h1 hl
  have hEB : ∀ w1, Below w.heap.size w w1 → _ := fun w1 h => Earliest_ok vf vh c q a (1 + R) w1 hc (hr.kept h) hq ha (by omega) (by omega)
  have hEC : ∀ w1, Below w.heap.size w w1 → _ := fun w1 h => Earliest_ok vf vh c q2 a len w1 hc (hr.kept h) (by omega) ha h1 hl
  rw [earlyE_some he] at hEA
  rw [earlyE_some x1] at hEB
  rw [earlyE_some y1] at hEC
  have hFR : ∀ w1, Below w.heap.size w w1 → _ := fun w1 h => free_ok vf vh c s q t (t + len) w1 hc (hr.kept h) p3 (by omega)
  rw [p4] at hFR
  have hAT : ∀ u w1, a ≤ u → u < t → Below w.heap.size w w1 → Calls Try.prog 13 #[.agg #[.int .i64 (c.n : Nat), vf, vh], .int .i64 (q : Nat), .int .i64 (u : Nat), .int .i64 ((u + len : Nat) : Int)] w1 fun e w' => e = .returned (.tuple #[.int .i64 0, .bool false]) ∧ Below w1.heap.size w1 w' := fun u w1 k1 k2 h => by
    have := At_ok vf vh c q u (u + len) w1 hc (hr.kept h) hq (by omega) (by omega)
    rw [atV_none (HNOT.out u k1 k2)] at this
    exact this
  have HEA := Lib.hid hEA
  have HEB := Lib.hid hEB
  have HEC := Lib.hid hEC
  have HFR := Lib.hid hFR
  have HAT := Lib.hid hAT
  have hR : R < len := u3
  have HU : Hid (IntKind.u64.wrap less = (U : Int) ∧ (U : Int) % (len : Int) = (R : Int) ∧ ¬ (len : Int) = 0 ∧ IntKind.u64.wrap (len : Int) = (len : Int) ∧ (U : Int).tmod (len : Int) = (R : Int)) := ⟨u1, u2, u4, u5, u6⟩
  have HV : Hid (IntKind.u64.wrap back = (V : Int) ∧ (V : Int) % 50 = (m : Int) ∧ (V : Int).tmod 50 = (m : Int)) := ⟨v1, v2, v6⟩
  have hm50 : m < 50 := v3
  clear u1 u2 u3 u4 u5 u6 v1 v2 v3 v4 v5 v6
  obtain ⟨D, hD⟩ : ∃ x, x = 1 + R := ⟨_, rfl⟩
  rw [← hD] at HEB
  have hDi : 1 + (R : Int) = (D : Int) := by omega
  obtain ⟨E, hE⟩ : ∃ x, x = t + len := ⟨_, rfl⟩
  rw [← hE] at HFR
  have hEi : (t : Int) + (len : Int) = (E : Int) := by omega
  have hE44 : E ≤ 5497558138880 := by omega
  have hq10 : q ≤ 10 := Nat.le_trans hq hc.n10
  have hqi : max ((q : Int) - 1) 0 = (q2 : Int) := by omega
  have hfl := hr.f.slice
  have hhl := hr.h.slice
  obtain ⟨fa, fc, rfl⟩ := hfl
  obtain ⟨ha', hc', rfl⟩ := hhl
  obtain ⟨LF, hLF⟩ : ∃ x, x = (nsI c.fl).length := ⟨_, rfl⟩
  obtain ⟨LH, hLH⟩ : ∃ x, x = (c.hl.map heZ).length := ⟨_, rfl⟩
  rw [← hLF, ← hLH] at HEA HEB HEC HFR HAT ⊢
  have hLF4 : LF ≤ 1024 := by rw [hLF, nsI_len]; exact fl_len hc
  have hLH4 : LH ≤ 300 := by rw [hLH, List.length_map]; exact hc.len
  obtain ⟨n, hn⟩ : ∃ x, x = c.n := ⟨_, rfl⟩
  rw [← hn] at HEA HEB HEC HFR HAT ⊢
  have MN : Hid (∀ w1, Calls Try.prog 8 #[.agg #[.int .i64 (n : Nat), .slice fa LF fc, .slice ha' LH hc'], .slice none 0 0] w1 fun e w' => e = .returned (.bool (manyB (n : Int) LF LH 0)) ∧ Below w1.heap.size w1 w') := fun w1 => many_any (n : Int) fa ha' none LF LH 0 fc hc' 0 w1 (by omega) (by omega) (by omega)
  obtain ⟨M, hM⟩ : ∃ M, M = manyB (n : Int) LF LH 0 := ⟨_, rfl⟩
  rw [← hM] at MN
  obtain ⟨W, hW⟩ : ∃ W, W = w.alloc (.cells #[.int .i64 (n : Nat), .slice fa LF fc, .slice ha' LH hc'] 25) := ⟨_, rfl⟩
  obtain ⟨gS, hgS⟩ : ∃ g, g = w.heap.size := ⟨_, rfl⟩
  have HBW : Hid (Below w.heap.size w W) := by unfold Hid; rw [hW]; exact (Below.refl _ _).alloc (Nat.le_refl _) _
  have HS : Hid (Blk W gS #[.int .i64 (n : Nat), .slice fa LF fc, .slice ha' LH hc'] 25) := by unfold Hid; rw [hW, hgS]; exact Blk.new w _ _
  have s0 := HS.out.cell 0
  have s1 := HS.out.cell 1
  have s2 := HS.out.cell 2
  simp at s0 s1 s2
  clear hM hEA hEB hEC hFR hAT hr hc hq he p2 p3 p4 x1 y1 hLF hLH hn hD hE hq2 HNOT
  go_enter Try.func7, Try.ntmps7
  go_upto_region 1 with fail
  rw [← hgS, ← hW]
  clear hgS hW
  go_wp2_with fail
  refine (MN.out _).mono ?_; rintro e w1 ⟨rfl, b1⟩
  have HB1 := Lib.hid (below_next b1 HBW.out)
  have HS1 := Lib.hid (HS.out.kept b1)
  clear s0 s1 s2 b1 MN HS HBW
  cases M with
  | true =>
    clear HS1
    go_wp2_with fail
    refine (K.out _).mono ?_; rintro e w2 ⟨rfl, b2⟩
    have HB2 := below_next b2 HB1.out
    clear b2
    go_wp2_with fail
    go_ret
    exact ⟨rfl, HB2⟩
  | false =>
    have s0 := HS1.out.cell 0
    have s1 := HS1.out.cell 1
    have s2 := HS1.out.cell 2
    simp at s0 s1 s2
    go_wp2_with fail
    refine (HEA.out _ HB1.out).mono ?_; rintro e w2 ⟨rfl, b2⟩
    have HB2 := Lib.hid (below_next b2 HB1.out)
    have HS2 := Lib.hid (HS1.out.kept b2)
    clear b2 s0 s1 s2 HB1 HS1 HEA
    have s0 := HS2.out.cell 0
    have s1 := HS2.out.cell 1
    have s2 := HS2.out.cell 2
    simp at s0 s1 s2
    have g1 : decide ((t : Int) < (a : Int)) = false := decide_eq_false (by omega)
    have g1' : decide (t < a) = false := decide_eq_false (by omega)
    dsimp only
    go_wp2_with fail
    refine (HFR.out _ HB2.out).mono ?_; rintro e w3 ⟨rfl, b3⟩
    have HB3 := Lib.hid (below_next b3 HB2.out)
    have HS3 := Lib.hid (HS2.out.kept b3)
    clear b3 s0 s1 s2 HB2 HS2 HFR g1 g1'
    go_wp2_with fail
    go_loopw [16] (fun iv wr => ∃ k : Nat, k ≤ 3 ∧ iv = .int .i64 k ∧ Hid (Below w.heap.size w wr) ∧ Hid (Below w3.heap.size w3 wr)) (fun iv _ => 3 - (RowKit.intOf iv).toNat)
    case atStart => exact ⟨0, Nat.zero_le _, rfl, HB3, Below.refl _ _⟩
    case round =>
      obtain ⟨k, hk, rfl, HB, HBr⟩ := hrel
      have hSr := HS3.out.kept HBr.out
      have s0 := hSr.cell 0
      have s1 := hSr.cell 1
      have s2 := hSr.cell 2
      simp at s0 s1 s2
      clear hSr
      by_cases hlt : k < 3
      · have hd : decide ((k : Int) < 3) = true := decide_eq_true (by omega)
        have hd' : decide (k < 3) = true := decide_eq_true hlt
        have hkm : k * m ≤ 100 := Nat.le_trans (Nat.mul_le_mul (show k ≤ 2 by omega) (show m ≤ 49 by omega)) (by omega)
        obtain ⟨P, hP⟩ : ∃ x, x = k * m := ⟨_, rfl⟩
        rw [← hP] at hkm
        have hPi : (k : Int) * (m : Int) = (P : Int) := by rw [hP]; push_cast; rfl
        clear hP
        obtain ⟨v1, v2, v6⟩ := HV.out
        by_cases hge : a + 1 + P ≤ t
        · obtain ⟨u, hu⟩ : ∃ u, u = t - 1 - P := ⟨_, rfl⟩
          have hui : (t : Int) - 1 - (P : Int) = (u : Int) := by omega
          have hut : u < t := by omega
          have hau : a ≤ u := by omega
          have g1 : decide ((u : Int) ≥ (a : Int)) = true := decide_eq_true (by omega)
          have g2 : decide ((a : Int) ≤ (u : Int)) = true := decide_eq_true (by omega)
          have g3 : decide (a ≤ u) = true := decide_eq_true (by omega)
          have HAU := Lib.hid (HAT.out u wr hau hut HB.out)
          obtain ⟨F, hF⟩ : ∃ x, x = u + len := ⟨_, rfl⟩
          rw [← hF] at HAU
          have hFi : (u : Int) + (len : Int) = (F : Int) := by omega
          have hF44 : F ≤ 5497558138880 := by omega
          clear hu hF
          go_upto_region 12 with fail
          clear v1 v2 v6 hui hPi
          go_wp2_with fail
          refine HAU.out.mono ?_; rintro e w4 ⟨rfl, b4⟩
          have HB4 := Lib.hid (below_next b4 HB.out)
          have HBr4 := Lib.hid (below_next b4 HBr.out)
          clear b4 HAU s0 s1 s2
          go_wp2_with fail
          go_roundw
          case rel => exact ⟨k + 1, hlt, by go_num, HB4, HBr4⟩
          case measure => simp [RowKit.intOf]; omega
        · have hui : IntKind.i64.wrap ((t : Int) - 1 - (P : Int)) = (t : Int) - 1 - (P : Int) := by rw [IntKind.wrap_i64]; omega
          have g1 : decide ((t : Int) - 1 - (P : Int) ≥ (a : Int)) = false := decide_eq_false (by omega)
          have g2 : decide ((a : Int) ≤ (t : Int) - 1 - (P : Int)) = false := decide_eq_false (by omega)
          clear s0 s1 s2
          go_upto_region 12 with fail
          clear v1 v2 v6 hui hPi
          go_wp2_with fail
          go_roundw
          case rel => exact ⟨k + 1, hlt, by go_num, HB, HBr⟩
          case measure => simp [RowKit.intOf]; omega
      · obtain rfl : k = 3 := by omega
        clear hk hlt
        go_upto_region 16 with fail
        obtain ⟨u1, u2, u4, u5, u6⟩ := HU.out
        have hwr : (D : Int) = IntKind.i64.wrap (1 + IntKind.i64.wrap (R : Int)) := by
          have e1 : IntKind.i64.wrap (R : Int) = (R : Int) := by rw [IntKind.wrap_i64]; omega
          rw [e1, IntKind.wrap_i64]; omega
        rw [hwr] at HEB
        have hl0 : ¬ len = 0 := by omega
        clear hwr hDi
        go_cut [20, 22] (fun va vb wx => va = .int .i64 t1 ∧ vb = .int .i64 0 ∧ Hid (Below wr.heap.size wr wx))
        case first =>
          go_region_held3 (fun w' => w'.cell? ⟨gS, 0, none⟩ = some (.int .i64 (n : Nat)) ∧ w'.cell? ⟨gS, 1, none⟩ = some (.slice fa LF fc) ∧ w'.cell? ⟨gS, 2, none⟩ = some (.slice ha' LH hc') ∧ Below wr.heap.size wr w')
            (first
              | exact ⟨s0, s1, s2, Below.refl _ _⟩
              | exact ⟨s0, s1, s2, (Below.refl _ _).drew⟩
              | (rcases ‹_ ∧ _ ∧ _ ∧ Below wr.heap.size _ _› with ⟨q0, q1, q2, q5⟩; exact ⟨cell_next (by assumption) q0, cell_next (by assumption) q1, cell_next (by assumption) q2, below_next (by assumption) q5⟩))
            (first
              | (go_at_call 18; ((with_reducible refine (HEB.out _ (below_next (‹_ ∧ _ ∧ _ ∧ Below wr.heap.size wr _›).2.2.2 HB.out)).mono ?_); rintro e w5 ⟨rfl, b5⟩)))
          go_wp2_with fail
          go_meet
          exact ⟨rfl, rfl, (‹_ ∧ _ ∧ _ ∧ Below wr.heap.size wr _›).2.2.2⟩
        case rest =>
          obtain ⟨rfl, rfl, HB5⟩ := hcut
          have hSr := HS3.out.kept (below_next HB5.out HBr.out)
          clear s0 s1 s2
          have s0 := hSr.cell 0
          have s1 := hSr.cell 1
          have s2 := hSr.cell 2
          simp at s0 s1 s2
          have HB6 := Lib.hid (below_next HB5.out HB.out)
          have g1 : decide (t1 ≤ t) = true := decide_eq_true x2
          have g2 : decide (t2 ≤ t) = true := decide_eq_true y2
          clear hSr u1 u2 u4 u5 u6 HB5
          go_wp2_with fail
          refine (HEC.out _ HB6.out).mono ?_; rintro e w6 ⟨rfl, b6⟩
          have HB7 := Lib.hid (below_next b6 HB6.out)
          clear b6 s0 s1 s2
          dsimp only
          go_wp2_with fail
          refine (K.out _).mono ?_; rintro e w7 ⟨rfl, b7⟩
          have HB8 := below_next b7 HB7.out
          clear b7
          go_wp2_with fail
          go_ret
          exact ⟨rfl, HB8⟩
theorem walk (N : Int) (vf : Value) (FL : List Int) (vh : Value) (HL : List HeI) (order fr len less back : Int) (w : World) (_ : (Lit.int .i64 N).wf = true) (hF : GRow w vf FL ∧ FL.length ≤ maxLen ∧ ∀ x ∈ FL, (Lit.int .i64 x).wf = true) (hH : HeArg w vh HL)
    (_ : (Lit.int .i64 order).wf = true) (_ : (Lit.int .i64 fr).wf = true) (_ : (Lit.int .i64 len).wf = true) (_ : (Lit.int .i64 less).wf = true) (_ : (Lit.int .i64 back).wf = true) :
    Calls Try.prog 7 #[.agg #[.int .i64 N, vf, vh], .int .i64 order, .int .i64 fr, .int .i64 len, .int .i64 less, .int .i64 back] w fun e w' => e = .returned (.bool true) ∧ Below w.heap.size w w' := by
  by_cases hA : AskE N order fr len FL HL
  · obtain ⟨c, q, a, l, rfl, rfl, rfl, rfl, rfl, rfl, hc, hq, ha, h1, hl⟩ := askE_nat hA
    have hr : SRow w vf vh c := ⟨hF.1, hH.1⟩
    cases he : earlyC c q a l with
    | none =>
      refine no_ _ vf _ vh _ _ _ _ less back 5 w hF.1 hH.1 hF.2.1 hH.2.1 (by decide) fun w' hb => ?_
      have h := Earliest_ok vf vh c q a l w' hc (hr.kept hb) hq ha h1 hl
      rw [earlyE_none he] at h
      exact h
    | some p => exact yes_ c vf vh q a l p.1 p.2 less back w hr hc hq ha h1 hl he
  · exact no_ N vf FL vh HL order fr len less back 2 w hF.1 hH.1 hF.2.1 hH.2.1 (by decide) fun w' hb => Earliest_no N order fr len vf vh FL HL w' (hF.1.kept hb) (hH.1.kept hb) hF.2.1 hH.2.1 hA


set_option maxRecDepth 100000 in
theorem lifted (os : Os) (started : os.Started) (H : Type) (enc : TypeId × Value → H) :
    ReturnsInHanded {} Try.checked os 7 .any (Rows.backfillTickSpec.pre6 enc Try.prog Try.f7 Rows.backfillTickRow.domain false) (Rows.backfillTickSpec.post enc Try.prog Try.f7 false true false false) := by
  refine returnsInHanded_of_change (C := Try.checked) own started (by kernel_rfl) Try.func7
    (ChangeSpec.witness6 (enc := enc) (C := Try.checked) false ⟨#[], #[.agg #[.int .i64 0, .slice none 0 0, .slice none 0 0], .int .i64 0, .int .i64 0, .int .i64 0, .int .i64 0, .int .i64 0], []⟩ 8 (by kernel_rfl) (by kernel_rfl) (by kernel_rfl) (by kernel_rfl)) ?_
  intro W base args ds gs before hval0 hW _ _
  have hval : ∀ (j : Nat) t v, Try.f7.params[j]? = some t → args[j]? = some v → Value.okWide Try.prog W .any base t v := hval0
  have hW' := hW
  obtain ⟨p, q, hA0, hV, rfl, hfz, hnd⟩ := hW
  have hA : DataW.TrodAll enc Try.prog W 0 (fun _ => true) true Try.f7.params.toList args.toList ds p := hA0
  rw [Try.params7] at hA hval
  obtain ⟨v0, vs0, d0, ds0, p0, q0, hargs, rfl, rfl, h0, r0⟩ := trodAll_cons hA
  obtain ⟨v1, vs1, d1, ds1, p1, q1, rfl, rfl, rfl, h1, r1⟩ := trodAll_cons r0
  obtain ⟨v2, vs2, d2, ds2, p2, q2, rfl, rfl, rfl, h2, r2⟩ := trodAll_cons r1
  obtain ⟨v3, vs3, d3, ds3, p3, q3, rfl, rfl, rfl, h3, r3⟩ := trodAll_cons r2
  obtain ⟨v4, vs4, d4, ds4, p4, q4, rfl, rfl, rfl, h4, r4⟩ := trodAll_cons r3
  obtain ⟨v5, vs5, d5, ds5, p5, q5, rfl, rfl, rfl, h5, r5⟩ := trodAll_cons r4
  obtain ⟨rfl, rfl, rfl⟩ := trodAll_nil r5
  obtain rfl : args = #[v0, v1, v2, v3, v4, v5] := by cases args; simp_all
  obtain ⟨cs0, rfl, hs0, hf0⟩ := open_plain_struct Try.underlying25 (by kernel_rfl) (by kernel_rfl) (hval 0 25 v0 rfl rfl) h0
  obtain ⟨c0_0, y0_0, n0_0, e0_0, t0_0⟩ := hf0 0 _ rfl
  obtain ⟨N, rfl, w0_0⟩ := field_int Try.underlying3 t0_0
  obtain ⟨c0_1, y0_1, n0_1, e0_1, t0_1⟩ := hf0 1 _ rfl
  obtain ⟨FL, w0_1⟩ := field_growG Try.underlying22 Try.underlying3 (by kernel_rfl) t0_1
  obtain ⟨c0_2, y0_2, n0_2, e0_2, t0_2⟩ := hf0 2 _ rfl
  obtain ⟨HL, w0_2⟩ := field_helds t0_2
  obtain rfl : cs0 = #[.int .i64 N, c0_1, c0_2] := arr_of cs0 [.int .i64 N, c0_1, c0_2] hs0 (fun j hj => by match j, hj with | 0, _ => exact e0_0 | 1, _ => exact e0_1 | 2, _ => exact e0_2 | j + 3, hj => exact absurd hj (by simp))
  obtain ⟨order, rfl, rfl, rfl, w1⟩ := open_int Try.underlying3 (hval 1 3 v1 rfl rfl) h1
  obtain ⟨fr, rfl, rfl, rfl, w2⟩ := open_int Try.underlying3 (hval 2 3 v2 rfl rfl) h2
  obtain ⟨len, rfl, rfl, rfl, w3⟩ := open_int Try.underlying3 (hval 3 3 v3 rfl rfl) h3
  obtain ⟨less, rfl, rfl, rfl, w4⟩ := open_int Try.underlying3 (hval 4 3 v4 rfl rfl) h4
  obtain ⟨back, rfl, rfl, rfl, w5⟩ := open_int Try.underlying3 (hval 5 3 v5 rfl rfl) h5
  clear hA0 hval0
  refine (walk N c0_1 FL c0_2 HL order fr len less back W w0_0 w0_1 w0_2 w1 w2 w3 w4 w5).mono fun e W' ⟨he, hb⟩ => ?_
  subst he
  exact ⟨_, rfl, law_post (by kernel_rfl) (by kernel_rfl) rfl Try.underlying4 rfl hW' rfl hb⟩

theorem over : Rows.backfillTickRow.holds Try.pinned (OpenSpec.ofChange Rows.backfillTickSpec) :=
  OpenClaim.holds_of_wide 7 Try.f7 rfl rfl rfl rfl rfl rfl rfl ⟨rfl, rfl, rfl, rfl, rfl⟩ rfl rfl rfl rfl rfl (by kernel_rfl) Try.func7 (by kernel_rfl)
    (of_decide_eq_true (by kernel_rfl)) (by unfold Func.isWrapper; first | (rw [if_pos (by decide +kernel)]; kernel_rfl) | (rw [if_neg (by decide +kernel)]; exact ⟨rfl, rfl⟩))
    (fun os started H enc _ => lifted os started H enc)

theorem proved : Rows.BackfillTickSaid :=
  over
#print axioms proved
end Go.Proofs.Ytioeblljabohbaa.backfillTick
