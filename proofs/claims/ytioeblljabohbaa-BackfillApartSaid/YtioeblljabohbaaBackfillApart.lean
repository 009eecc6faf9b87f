/-
  BackfillApart: under each policy, laid into the scene one by one, each slot's block is free for as long as its job is: no worker is held twice, none that failed is held; nobody starts ahead of now: so the law returns true for every input.
-/
import Derived.Test.YtioeblljabohbaaBfAx
import Derived.Test.YtioeblljabohbaaBfKnow
import Derived.Test.YtioeblljabohbaaBfMy
import Derived.Test.YtioeblljabohbaaBfAr
import Derived.Test.YtioeblljabohbaaLaw
import Derived.Test.YtioeblljabohbaaRows
import Derived.Test.YtioeblljabohbaaArgs2
namespace Go.Proofs.Ytioeblljabohbaa.backfillApart
open Go.ChangeShapes Go.WideShapes Go.ChangeAt Go.RowKit
set_option linter.unusedVariables false

theorem own : ownKnob Try.prog.godebug = none := by kernel_rfl

open Go Go.ChangeShapes Go.WideShapes Go.ChangeAt Go.RowKit Go.Lib Go.Sort
set_option maxRecDepth 100000 in
set_option maxHeartbeats 8000000 in
theorem long_ (N : Int) (vf : Value) (FL : List Int) (vh : Value) (HL : List HeI) (vw : Value) (WL : List WaI) (now : Int) (policy : Int) (w : World) (hf : GRow w vf FL) (hh : HRow w vh HL) (hw : WRow w vw WL) (hfl : FL.length ≤ maxLen) (hhl : HL.length ≤ maxLen) (hwl : WL.length ≤ 5864062014634) (hlo : 1000 < WL.length) :
    Calls Try.prog 5 #[.agg #[.int .i64 N, vf, vh], vw, .int .i64 now, .int .i64 policy] w fun e w' => e = .returned (.bool true) ∧ Below w.heap.size w w' := by
  have K : Hid (∀ w1, Calls Try.prog 9 #[] w1 fun e w' => e = .returned (.bool true) ∧ Below w1.heap.size w1 w') := known15_any
  have NM : Hid (∀ w1, Below w.heap.size w w1 → Calls Try.prog 20 #[vw] w1 fun e w' => ∃ a c, e = .returned (.slice a WL.length c) ∧ Below w1.heap.size w1 w') := fun w1 h => named_big vw WL w1 (hw.kept h) hwl
  obtain ⟨fa, fc, rfl⟩ := hf.slice
  obtain ⟨ha, hc, rfl⟩ := hh.slice
  generalize WL.length = LW at *
  generalize FL.length = LF at *
  generalize HL.length = LH at *
  unfold maxLen at hfl hhl
  have MN : Hid (∀ w1 a1 c1, Calls Try.prog 8 #[.agg #[.int .i64 N, .slice fa LF fc, .slice ha LH hc], .slice a1 LW c1] w1 fun e w' => e = .returned (.bool true) ∧ Below w1.heap.size w1 w') := fun w1 a1 c1 => by
    have h := many_any N fa ha a1 LF LH LW fc hc c1 w1 (by omega) (by omega) (by omega)
    rwa [show manyB N LF LH LW = true from decide_eq_true (by omega)] at h
  obtain ⟨W, hW⟩ : ∃ W, W = w.alloc (.cells #[.int .i64 N, .slice fa LF fc, .slice ha LH hc] 25) := ⟨_, rfl⟩
  obtain ⟨gS, hgS⟩ : ∃ g, g = w.heap.size := ⟨_, rfl⟩
  have HBW : Hid (Below w.heap.size w W) := by unfold Hid; rw [hW]; exact (Below.refl _ _).alloc (Nat.le_refl _) _
  have HS : Hid (Blk W gS #[.int .i64 N, .slice fa LF fc, .slice ha LH hc] 25) := by unfold Hid; rw [hW, hgS]; exact Blk.new w _ _
  clear hf hh hw
  go_enter Try.func5, Try.ntmps5
  go_upto_region 1 with fail
  rw [← hgS, ← hW]
  clear hgS hW
  go_wp2_with fail
  refine (NM.out _ HBW.out).mono ?_; rintro e w1 ⟨a1, c1, rfl, b1⟩
  have HB1 := Lib.hid (below_next b1 HBW.out)
  have hS1 := HS.out.kept b1
  have s0 := hS1.cell 0
  have s1 := hS1.cell 1
  have s2 := hS1.cell 2
  simp at s0 s1 s2
  clear b1 NM HS HBW hS1
  go_wp2_with fail
  refine (MN.out _ _ _).mono ?_; rintro e w2 ⟨rfl, b2⟩
  have HB2 := Lib.hid (below_next b2 HB1.out)
  clear b2 MN HB1 s0 s1 s2
  go_wp2_with fail
  refine (K.out _).mono ?_; rintro e w9 ⟨rfl, b9⟩
  have HB9 := below_next b9 HB2.out
  clear b9
  go_wp2_with fail
  go_ret
  exact ⟨rfl, HB9⟩
set_option maxRecDepth 100000 in
set_option maxHeartbeats 8000000 in
theorem no_ (N : Int) (vf : Value) (FL : List Int) (vh : Value) (HL : List HeI) (vw : Value) (WL : List WaI) (now : Int) (policy : Int) (w : World) (hf : GRow w vf FL) (hh : HRow w vh HL) (hw : WRow w vw WL) (hfl : FL.length ≤ maxLen) (hhl : HL.length ≤ maxLen) (hwl : WL.length ≤ 1000)
    (PL : Hid (∀ w1 v1, Below w.heap.size w w1 → WRow w1 v1 (namedL WL) → Calls Try.prog 22 #[.agg #[.int .i64 N, vf, vh], v1, .int .i64 now, .int .i64 policy] w1 fun e w' => PlanTo w1.heap.size 2 [] w1 e w')) :
    Calls Try.prog 5 #[.agg #[.int .i64 N, vf, vh], vw, .int .i64 now, .int .i64 policy] w fun e w' => e = .returned (.bool true) ∧ Below w.heap.size w w' := by
  have K : Hid (∀ w1, Calls Try.prog 9 #[] w1 fun e w' => e = .returned (.bool true) ∧ Below w1.heap.size w1 w') := known15_any
  obtain ⟨LW, hLW⟩ : ∃ n, n = WL.length := ⟨_, rfl⟩
  have NM : Hid (∀ w1, Below w.heap.size w w1 → Calls Try.prog 20 #[vw] w1 fun e w' => ∃ a c, e = .returned (.slice a LW c) ∧ WRow w' (.slice a LW c) (namedL WL) ∧ Below w1.heap.size w1 w') := fun w1 h => (named_any vw WL w1 (hw.kept h) hwl).mono fun e w' ⟨v, he, ho, hb⟩ => by
    have R := rowG_of_own (base := w1.heap.size) (e := 51) (s := 3) (enc := waI) (fun x => rfl) ho
    obtain ⟨a, c, rfl⟩ := own_slice ho
    rw [namedL_len, ← hLW] at he R
    exact ⟨a, c, he, R, hb⟩
  have FR : Hid (HL.length ≤ 1048576 → ∀ w1 v1, Below w.heap.size w w1 → WRow w1 v1 (namedL WL) → Calls Try.prog 21 #[.agg #[.int .i64 N, vf, vh], v1, .int .i64 now] w1 fun e w' => e = .returned (.bool (farB HL (namedL WL) now)) ∧ Below w1.heap.size w1 w') := fun hh4 w1 v1 h hr => far_any N now vf vh v1 FL HL (namedL WL) w1 (hf.kept h) (hh.kept h) hr hh4 (by rw [namedL_len]; omega)
  have HF := Lib.hid hf
  have HH := Lib.hid hh
  obtain ⟨fa, fc, rfl⟩ := hf.slice
  obtain ⟨ha, hc, rfl⟩ := hh.slice
  obtain ⟨LF, hLF⟩ : ∃ n, n = FL.length := ⟨_, rfl⟩
  obtain ⟨LH, hLH⟩ : ∃ n, n = HL.length := ⟨_, rfl⟩
  rw [← hLF] at FR HF PL hfl ⊢
  rw [← hLH] at FR HH PL hhl ⊢
  rw [← hLW] at hwl
  obtain ⟨FAR, hFAR⟩ : ∃ b, b = farB HL (namedL WL) now := ⟨_, rfl⟩
  rw [← hFAR] at FR
  have HFAR := Lib.hid hFAR
  have HLE : Hid (LF = FL.length ∧ LH = HL.length ∧ LW = WL.length) := ⟨hLF, hLH, hLW⟩
  unfold maxLen at hfl hhl
  have MN : Hid (∀ w1 a1 c1, Calls Try.prog 8 #[.agg #[.int .i64 N, .slice fa LF fc, .slice ha LH hc], .slice a1 LW c1] w1 fun e w' => e = .returned (.bool (manyB N LF LH LW)) ∧ Below w1.heap.size w1 w') := fun w1 a1 c1 => many_any N fa ha a1 LF LH LW fc hc c1 w1 (by omega) (by omega) (by omega)
  obtain ⟨M, hM⟩ : ∃ M, M = manyB N LF LH LW := ⟨_, rfl⟩
  rw [← hM] at MN
  have HM : Hid (M = manyB N LF LH LW) := hM
  obtain ⟨W, hW⟩ : ∃ W, W = w.alloc (.cells #[.int .i64 N, .slice fa LF fc, .slice ha LH hc] 25) := ⟨_, rfl⟩
  obtain ⟨gS, hgS⟩ : ∃ g, g = w.heap.size := ⟨_, rfl⟩
  have HBW : Hid (Below w.heap.size w W) := by unfold Hid; rw [hW]; exact (Below.refl _ _).alloc (Nat.le_refl _) _
  have HS : Hid (Blk W gS #[.int .i64 N, .slice fa LF fc, .slice ha LH hc] 25) := by unfold Hid; rw [hW, hgS]; exact Blk.new w _ _
  obtain ⟨LS, hLS⟩ : ∃ x, x = LH + LW := ⟨_, rfl⟩
  have hLSi : Hid ((LH : Int) + (LW : Int) = (LS : Int)) := by unfold Hid; omega
  clear hf hh hw hLF hLH hLW hFAR hM
  go_enter Try.func5, Try.ntmps5
  go_upto_region 1 with fail
  rw [← hgS, ← hW]
  clear hgS hW
  go_wp2_with fail
  refine (NM.out _ HBW.out).mono ?_; rintro e w1 ⟨aw, cw, rfl, ro1, b1⟩
  have HB1 := Lib.hid (below_next b1 HBW.out)
  have HS1 := Lib.hid (HS.out.kept b1)
  have RO1 := Lib.hid ro1
  clear ro1 b1 NM HS HBW
  have s0 := HS1.out.cell 0
  have s1 := HS1.out.cell 1
  have s2 := HS1.out.cell 2
  simp at s0 s1 s2
  go_wp2_with fail
  refine (MN.out _ _ _).mono ?_; rintro e w2 ⟨rfl, b2⟩
  have HB2 := Lib.hid (below_next b2 HB1.out)
  have HS2 := Lib.hid (HS1.out.kept b2)
  have RO2 := Lib.hid (RO1.out.kept b2)
  clear b2 MN RO1 HS1 HB1 s0 s1 s2
  have s0 := HS2.out.cell 0
  have s1 := HS2.out.cell 1
  have s2 := HS2.out.cell 2
  simp at s0 s1 s2
  cases M with
  | true =>
    go_wp2_with fail
    refine (K.out _).mono ?_; rintro e w9 ⟨rfl, b9⟩
    have HB9 := below_next b9 HB2.out
    clear b9
    go_wp2_with fail
    go_ret
    exact ⟨rfl, HB9⟩
  | false =>
    obtain ⟨hm1, hm2, hm3⟩ : LF ≤ 1100 ∧ LH ≤ 500 ∧ LW ≤ 500 := by
      have h := HM.out
      unfold manyB at h
      have h2 := of_decide_eq_false h.symm
      omega
    have hLSb : LS ≤ 1000 := by omega
    have hw1 : IntKind.i64.wrap ((LH : Int) + (LW : Int)) = (LS : Int) := by rw [hLSi.out, IntKind.wrap_i64]; omega
    have hw2 : wrap64 ((LH : Int) + (LW : Int)) = (LS : Int) := by rw [hLSi.out]; unfold wrap64; omega
    have FR2 := Lib.hid (FR.out (by have := HLE.out.2.1; omega) w2 _ HB2.out RO2.out)
    clear FR
    by_cases hg : 300 < LS
    · have g1 : decide ((LS : Int) > 300) = true := decide_eq_true (by omega)
      have g2 : decide ((300 : Int) < (LS : Int)) = true := decide_eq_true (by omega)
      have g3 : decide (300 < LS) = true := decide_eq_true hg
      go_wp2_with fail
      refine (K.out _).mono ?_; rintro e w9 ⟨rfl, b9⟩
      have HB9 := below_next b9 HB2.out
      clear b9
      go_wp2_with fail
      go_ret
      exact ⟨rfl, HB9⟩
    · have g1 : decide ((LS : Int) > 300) = false := decide_eq_false (by omega)
      have g2 : decide ((300 : Int) < (LS : Int)) = false := decide_eq_false (by omega)
      have g3 : decide (300 < LS) = false := decide_eq_false hg
      go_wp2_with fail
      refine FR2.out.mono ?_; rintro e w3 ⟨rfl, b3⟩
      have HB3 := Lib.hid (below_next b3 HB2.out)
      have HS3 := Lib.hid (HS2.out.kept b3)
      have RO3 := Lib.hid (RO2.out.kept b3)
      clear b3 RO2 HS2 HB2 FR2 s0 s1 s2
      cases FAR with
      | true =>
        go_wp2_with fail
        refine (K.out _).mono ?_; rintro e w9 ⟨rfl, b9⟩
        have HB9 := below_next b9 HB3.out
        clear b9
        go_wp2_with fail
        go_ret
        exact ⟨rfl, HB9⟩
      | false =>
        have s0 := HS3.out.cell 0
        have s1 := HS3.out.cell 1
        have s2 := HS3.out.cell 2
        simp at s0 s1 s2
        have HPL := Lib.hid (PL.out w3 _ HB3.out RO3.out)
        clear PL g1 g2 g3 hw1 hw2
        go_wp2_with fail
        refine HPL.out.mono ?_; rintro e w4 ⟨v, rfl, ho, b4⟩
        obtain ⟨a4, c4, rfl⟩ := own_slice ho
        have HB4 := Lib.hid (below_next b4 HB3.out)
        clear ho b4 s0 s1 s2
        dsimp only [List.length]
        go_wp2_with fail
        refine (K.out _).mono ?_; rintro e w9 ⟨rfl, b9⟩
        have HB9 := below_next b9 HB4.out
        clear b9
        go_wp2_with fail
        go_ret
        exact ⟨rfl, HB9⟩
set_option maxRecDepth 100000 in
set_option maxHeartbeats 8000000 in
theorem yes_ (n : Nat) (fl : List Nat) (hl : List HeT) (vf vh vw : Value) (WL : List WaI) (WS : List (Nat × Nat × Nat)) (nw : Nat) (policy : Int) (w : World) (hr : SRow w vf vh ⟨n, fl, hl⟩) (hw : WRow w vw WL) (hcc : ScOk ⟨n, fl, hl⟩) (hwl : WL.length ≤ 1000) (hWS : namedL WL = WS.map waN) (hw3 : WS.length ≤ 300) (hnw : nw ≤ 1099511627776) (hjj : ∀ x ∈ WS, 1 ≤ x.2.2 ∧ x.2.2 ≤ 1099511627776) :
    Calls Try.prog 5 #[.agg #[.int .i64 (n : Int), vf, vh], vw, .int .i64 (nw : Int), .int .i64 policy] w fun e w' => e = .returned (.bool true) ∧ Below w.heap.size w w' := by
  obtain ⟨U, m, u1, u2, u3, u4, u5, u6⟩ := mod_pickL policy 3 (by omega) (by omega)
  obtain ⟨S, hS⟩ : ∃ S, S = planL n fl nw (polM m).2.1 (polM m).2.2 WS hl (polM m).1 false := ⟨_, rfl⟩
  have PL : Hid (∀ w1 v1, Below w.heap.size w w1 → WRow w1 v1 (namedL WL) → Calls Try.prog 22 #[.agg #[.int .i64 (n : Int), vf, vh], v1, .int .i64 (nw : Int), .int .i64 policy] w1 fun e w' => PlanTo w1.heap.size 0 S w1 e w') := fun w1 v1 h hv =>
    plans_of (n : Int) (nw : Int) policy vf vh v1 m 0 S w1 U u1 u2 u6 u3 (one_of_grow hr.f) (one_of_row hr.h) fun w' hb => by
      have P : PlanIn w' vf vh v1 n fl hl WS nw := ⟨(hr.kept h).kept hb, by rw [← hWS]; exact hv.kept hb, hcc, hw3, hnw, hjj⟩
      rcases (by omega : m = 0 ∨ m = 1 ∨ m = 2) with rfl | rfl | rfl
      · rw [if_pos rfl, hS]; exact P.fifo
      · rw [if_neg (by decide), if_pos rfl, hS]; exact P.easy
      · rw [if_neg (by decide), if_neg (by decide), hS]; exact P.cons
  have HAP : Hid (farB (hl.map heZ) (namedL WL) (nw : Int) = false → hl.length + WS.length ≤ 300 → ApOk n fl hl WS nw S) := fun hf hl3 => by
    obtain ⟨M, h1, h2, h3⟩ := far_end hf hWS hjj (fun h hh => (hcc.he h hh).2.2) hnw
    rw [hS]; exact ap_of (ws_named hWS) hl3 hjj h1 h2 h3
  have PLX : True := trivial
  clear u1 u2 u3 u4 u5 u6 hS
  have HNM := Lib.hid (ws_named hWS)
  have HWE : Hid (namedL WL = WS.map waN) := hWS
  have HC := Lib.hid hcc
  have HJ := Lib.hid hjj
  have hf := hr.f
  have hh := hr.h
  obtain ⟨FL, hFL⟩ : ∃ x, x = nsI fl := ⟨_, rfl⟩
  obtain ⟨HL, hHL⟩ : ∃ x, x = hl.map heZ := ⟨_, rfl⟩
  have hfl : FL.length ≤ maxLen := by rw [hFL, nsI_len]; have := fl_len hcc; dsimp only at this; unfold maxLen; omega
  have hhl : HL.length ≤ maxLen := by rw [hHL, List.length_map]; have := hcc.len; dsimp only at this; unfold maxLen; omega
  dsimp only at hf hh
  rw [← hFL] at hf
  rw [← hHL] at hh HAP
  have HFE : Hid (FL = nsI fl ∧ HL = hl.map heZ) := ⟨hFL, hHL⟩
  have hn10 : n ≤ 10 := hcc.n10
  clear hr hcc hWS hFL hHL hjj
  have K : Hid (∀ w1, Calls Try.prog 9 #[] w1 fun e w' => e = .returned (.bool true) ∧ Below w1.heap.size w1 w') := known15_any
  obtain ⟨LW, hLW⟩ : ∃ n, n = WL.length := ⟨_, rfl⟩
  have NM : Hid (∀ w1, Below w.heap.size w w1 → Calls Try.prog 20 #[vw] w1 fun e w' => ∃ a c, e = .returned (.slice a LW c) ∧ WRow w' (.slice a LW c) (namedL WL) ∧ Below w1.heap.size w1 w') := fun w1 h => (named_any vw WL w1 (hw.kept h) hwl).mono fun e w' ⟨v, he, ho, hb⟩ => by
    have R := rowG_of_own (base := w1.heap.size) (e := 51) (s := 3) (enc := waI) (fun x => rfl) ho
    obtain ⟨a, c, rfl⟩ := own_slice ho
    rw [namedL_len, ← hLW] at he R
    exact ⟨a, c, he, R, hb⟩
  have FR : Hid (HL.length ≤ 1048576 → ∀ w1 v1, Below w.heap.size w w1 → WRow w1 v1 (namedL WL) → Calls Try.prog 21 #[.agg #[.int .i64 (n : Int), vf, vh], v1, .int .i64 (nw : Int)] w1 fun e w' => e = .returned (.bool (farB HL (namedL WL) (nw : Int))) ∧ Below w1.heap.size w1 w') := fun hh4 w1 v1 h hr => far_any (n : Int) (nw : Int) vf vh v1 FL HL (namedL WL) w1 (hf.kept h) (hh.kept h) hr hh4 (by rw [namedL_len]; omega)
  have HF := Lib.hid hf
  have HH := Lib.hid hh
  obtain ⟨fa, fc, rfl⟩ := hf.slice
  obtain ⟨ha, hc', rfl⟩ := hh.slice
  obtain ⟨LF, hLF⟩ : ∃ n, n = FL.length := ⟨_, rfl⟩
  obtain ⟨LH, hLH⟩ : ∃ n, n = HL.length := ⟨_, rfl⟩
  rw [← hLF] at FR HF PL hfl ⊢
  rw [← hLH] at FR HH PL hhl ⊢
  rw [← hLW] at hwl
  obtain ⟨FAR, hFAR⟩ : ∃ b, b = farB HL (namedL WL) (nw : Int) := ⟨_, rfl⟩
  rw [← hFAR] at FR
  have HFAR := Lib.hid hFAR
  have HLE : Hid (LF = FL.length ∧ LH = HL.length ∧ LW = WL.length) := ⟨hLF, hLH, hLW⟩
  unfold maxLen at hfl hhl
  have MN : Hid (∀ w1 a1 c1, Calls Try.prog 8 #[.agg #[.int .i64 (n : Int), .slice fa LF fc, .slice ha LH hc'], .slice a1 LW c1] w1 fun e w' => e = .returned (.bool (manyB (n : Int) LF LH LW)) ∧ Below w1.heap.size w1 w') := fun w1 a1 c1 => many_any (n : Int) fa ha a1 LF LH LW fc hc' c1 w1 (by omega) (by omega) (by omega)
  obtain ⟨M, hM⟩ : ∃ M, M = manyB (n : Int) LF LH LW := ⟨_, rfl⟩
  rw [← hM] at MN
  have HM : Hid (M = manyB (n : Int) LF LH LW) := hM
  obtain ⟨W, hW⟩ : ∃ W, W = w.alloc (.cells #[.int .i64 (n : Int), .slice fa LF fc, .slice ha LH hc'] 25) := ⟨_, rfl⟩
  obtain ⟨gS, hgS⟩ : ∃ g, g = w.heap.size := ⟨_, rfl⟩
  have HBW : Hid (Below w.heap.size w W) := by unfold Hid; rw [hW]; exact (Below.refl _ _).alloc (Nat.le_refl _) _
  have HS : Hid (Blk W gS #[.int .i64 (n : Int), .slice fa LF fc, .slice ha LH hc'] 25) := by unfold Hid; rw [hW, hgS]; exact Blk.new w _ _
  obtain ⟨LS, hLS⟩ : ∃ x, x = LH + LW := ⟨_, rfl⟩
  have hLSi : Hid ((LH : Int) + (LW : Int) = (LS : Int)) := by unfold Hid; omega
  clear hf hh hw hLF hLH hLW hFAR hM
  go_enter Try.func5, Try.ntmps5
  go_upto_region 1 with fail
  rw [← hgS, ← hW]
  clear hgS hW
  go_wp2_with fail
  refine (NM.out _ HBW.out).mono ?_; rintro e w1 ⟨aw, cw, rfl, ro1, b1⟩
  have HB1 := Lib.hid (below_next b1 HBW.out)
  have HS1 := Lib.hid (HS.out.kept b1)
  have RO1 := Lib.hid ro1
  clear ro1 b1 NM HS HBW
  have s0 := HS1.out.cell 0
  have s1 := HS1.out.cell 1
  have s2 := HS1.out.cell 2
  simp at s0 s1 s2
  go_wp2_with fail
  refine (MN.out _ _ _).mono ?_; rintro e w2 ⟨rfl, b2⟩
  have HB2 := Lib.hid (below_next b2 HB1.out)
  have HS2 := Lib.hid (HS1.out.kept b2)
  have RO2 := Lib.hid (RO1.out.kept b2)
  clear b2 MN RO1 HS1 HB1 s0 s1 s2
  have s0 := HS2.out.cell 0
  have s1 := HS2.out.cell 1
  have s2 := HS2.out.cell 2
  simp at s0 s1 s2
  cases M with
  | true =>
    go_wp2_with fail
    refine (K.out _).mono ?_; rintro e w9 ⟨rfl, b9⟩
    have HB9 := below_next b9 HB2.out
    clear b9
    go_wp2_with fail
    go_ret
    exact ⟨rfl, HB9⟩
  | false =>
    obtain ⟨hm1, hm2, hm3⟩ : LF ≤ 1100 ∧ LH ≤ 500 ∧ LW ≤ 500 := by
      have h := HM.out
      unfold manyB at h
      have h2 := of_decide_eq_false h.symm
      omega
    have hLSb : LS ≤ 1000 := by omega
    have hw1 : IntKind.i64.wrap ((LH : Int) + (LW : Int)) = (LS : Int) := by rw [hLSi.out, IntKind.wrap_i64]; omega
    have hw2 : wrap64 ((LH : Int) + (LW : Int)) = (LS : Int) := by rw [hLSi.out]; unfold wrap64; omega
    have FR2 := Lib.hid (FR.out (by have := HLE.out.2.1; omega) w2 _ HB2.out RO2.out)
    clear FR
    by_cases hg : 300 < LS
    · have g1 : decide ((LS : Int) > 300) = true := decide_eq_true (by omega)
      have g2 : decide ((300 : Int) < (LS : Int)) = true := decide_eq_true (by omega)
      have g3 : decide (300 < LS) = true := decide_eq_true hg
      go_wp2_with fail
      refine (K.out _).mono ?_; rintro e w9 ⟨rfl, b9⟩
      have HB9 := below_next b9 HB2.out
      clear b9
      go_wp2_with fail
      go_ret
      exact ⟨rfl, HB9⟩
    · have g1 : decide ((LS : Int) > 300) = false := decide_eq_false (by omega)
      have g2 : decide ((300 : Int) < (LS : Int)) = false := decide_eq_false (by omega)
      have g3 : decide (300 < LS) = false := decide_eq_false hg
      go_wp2_with fail
      refine FR2.out.mono ?_; rintro e w3 ⟨rfl, b3⟩
      have HB3 := Lib.hid (below_next b3 HB2.out)
      have HS3 := Lib.hid (HS2.out.kept b3)
      have RO3 := Lib.hid (RO2.out.kept b3)
      clear b3 RO2 HS2 HB2 FR2 s0 s1 s2
      cases FAR with
      | true =>
        go_wp2_with fail
        refine (K.out _).mono ?_; rintro e w9 ⟨rfl, b9⟩
        have HB9 := below_next b9 HB3.out
        clear b9
        go_wp2_with fail
        go_ret
        exact ⟨rfl, HB9⟩
      | false =>
        have s0 := HS3.out.cell 0
        have s1 := HS3.out.cell 1
        have s2 := HS3.out.cell 2
        simp at s0 s1 s2
        have HPL := Lib.hid (PL.out w3 _ HB3.out RO3.out)
        clear PL g1 g2 g3 hw1 hw2
        go_wp2_with fail
        refine HPL.out.mono ?_; rintro e w4 ⟨v, rfl, ho, b4⟩
        obtain ⟨aS, cS, rfl⟩ := own_slice ho
        have HB4 := Lib.hid (below_next b4 HB3.out)
        have HS4 := Lib.hid (HS3.out.kept b4)
        have RO4 : Hid (WRow w4 (.slice aw LW cw) (WS.map waN)) := by
          have h := RO3.out.kept b4
          rw [HWE.out] at h
          exact h
        have RS4 := Lib.hid (srow_of_own ho)
        obtain ⟨LL, hLL⟩ : ∃ x, x = S.length := ⟨_, rfl⟩
        rw [← hLL] at RS4 ⊢
        have HLL := Lib.hid hLL
        have AP := Lib.hid (HAP.out HFAR.out.symm (by have h1 := HLE.out.2.1; have h2 := HLE.out.2.2; have h3 := congrArg List.length HWE.out; rw [namedL_len, List.length_map] at h3; have h4 := HFE.out.2; rw [h4, List.length_map] at h1; omega))
        have hLL3 : LL ≤ 300 := by have := AP.out.len; have := HLL.out; omega
        have CP : Hid (Calls Try.prog 10 #[.agg #[.int .i64 (n : Int), .slice fa LF fc, .slice ha LH hc']] w4 fun e w' => ∃ aF cF aH cH, e = .returned (.agg #[.int .i64 (n : Int), .slice aF LF cF, .slice aH LH cH]) ∧ w'.ownsRow w4.heap.size 3 1 (.slice aF LF cF) LF (numsL FL) ∧ w'.ownsRow w4.heap.size 57 4 (.slice aH LH cH) LH (HL.flatMap heI) ∧ Below w4.heap.size w4 w') := by
          refine (copied_any (n : Int) _ _ FL HL w4 (HF.out.kept HB4.out) (HH.out.kept HB4.out) (by have := HLE.out.1; omega) (by have := HLE.out.2.1; omega)).mono ?_
          rintro e w' ⟨vF, vH, rfl, oF, oH, _, hb⟩
          obtain ⟨aF, cF, rfl⟩ := own_slice oF
          obtain ⟨aH, cH, rfl⟩ := own_slice oH
          dsimp only [NOwn, HOwnI] at oF oH
          rw [← HLE.out.1] at oF
          rw [← HLE.out.2.1] at oH
          exact ⟨aF, cF, aH, cH, by rw [← HLE.out.1, ← HLE.out.2.1], oF, oH, hb⟩
        clear ho b4 s0 s1 s2 HPL HB3 HS3 RO3 hLL HAP PLX
        have s0 := HS4.out.cell 0
        have s1 := HS4.out.cell 1
        have s2 := HS4.out.cell 2
        simp at s0 s1 s2
        go_wp2_with fail
        refine CP.out.mono ?_; rintro e w5 ⟨aF, cF, aH, cH, rfl, oF, oH, b5⟩
        obtain ⟨gX, hgX⟩ : ∃ g, g = w5.heap.size := ⟨_, rfl⟩
        obtain ⟨W6, hW6⟩ : ∃ x, x = w5.alloc (.cells #[.int .i64 (n : Int), .slice aF LF cF, .slice aH LH cH] 25) := ⟨_, rfl⟩
        have HXA : Hid (XAt w4 W6 gX n (.slice aF LF cF) fl aH cH (LH + 0) (hl ++ (S.take 0).map heOf)) := by
          have hb6 : Below w5.heap.size w5 W6 := by rw [hW6]; exact (Below.refl _ _).alloc (Nat.le_refl _) _
          have e : hl ++ (S.take 0).map heOf = hl := by rw [List.take_zero]; simp
          have e1 := HLE.out.1
          have e2 := HLE.out.2.1
          have e3 := HFE.out.1
          have e4 := HFE.out.2
          have eF : LF = fl.length := by rw [e1, e3, nsI_len]
          have eH : heF hl = HL.flatMap heI := by rw [e4]; rfl
          refine ⟨by rw [hW6, hgX]; exact Blk.new _ _ _, ?_, ?_, fun e => by have := (own_ge oF e).2; omega, fun e => by have := (own_ge oH e).2; omega, by rw [hgX]; exact b5.size, below_next hb6 b5, by rw [e, e2, e4, List.length_map]; rfl⟩
          · have h := own_older oF hb6
            rw [e3] at h
            rw [← eF]; exact h
          · rw [e, eH]; exact own_older oH hb6
        have HP0 : Hid (∀ j (h : j < S.length), 0 ≤ j → 0 < S[j].1) := fun j h _ => AP.out.pos h
        clear b5 oF oH CP s0 s1 s2 HS4
        go_upto_region 8 with fail
        rw [← hW6, ← hgX]
        clear hW6 hgX
        go_wp2_with fail
        go_loopw [12, 13] (fun lv iv wr => ∃ (k last : Nat) (a : Option Addr) (c : Nat), k ≤ LL ∧ iv = .int .i64 k ∧ lv = .int .u32 last ∧ Hid (XAt w4 wr gX n (.slice aF LF cF) fl a c (LH + k) (hl ++ (S.take k).map heOf)) ∧ Hid (∀ j (h : j < S.length), k ≤ j → last < S[j].1)) (fun _ iv _ => LL - (RowKit.intOf iv).toNat)
        case atStart => exact ⟨0, 0, aH, cH, Nat.zero_le _, rfl, rfl, HXA, HP0⟩
        case round =>
          clear HXA HP0
          obtain ⟨k, last, aX, cX, hk, rfl, rfl, HX, HP⟩ := hrel
          have HBw : Hid (Below w.heap.size w wr) := below_next HX.out.b HB4.out
          by_cases hlt : k < LL
          · have hd : decide (k < LL) = true := decide_eq_true hlt
            have hki : (k : Int) < (LL : Int) := by omega
            have hkl : k < S.length := by rw [← HLL.out]; exact hlt
            cases aS with
            | none => have h := rowG_nil RS4.out; have h2 := congrArg List.length h; rw [List.length_map] at h2; simp at h2; rw [h2] at hkl; simp at hkl
            | some A =>
            obtain ⟨bb, off, rfl⟩ := srow_some RS4.out (by rw [List.length_map]; omega)
            obtain ⟨c0, c1, c2, c3⟩ := slI_cells RS4.out (by rw [List.length_map]; exact hkl) HX.out.b
            rw [List.getElem_map] at c0 c1 c2 c3
            have hbb := World.block_lt_of_cell? w4 _ (slI_cells RS4.out (by rw [List.length_map]; exact hkl) (Below.refl _ _)).1
            dsimp only at hbb
            obtain ⟨j, hj1, hj2⟩ := AP.out.want HNM.out hkl
            have HWT := want_any (.slice aw LW cw) (WS.map waN) j (waN (jobOf S[k])) (S[k].1 : Nat) (S[k].2.1 : Nat) (S[k].2.2.1 : Nat) (S[k].2.2.2.1 : Nat) wr (RO4.out.kept HX.out.b) (by rw [List.length_map]; omega) hj1 rfl rfl hj2
            have HFR := AP.out.free _ (List.getElem_mem hkl)
            have HFN := AP.out.fin _ (List.getElem_mem hkl)
            have HTK := AP.out.take hkl
            have hlast := HP.out k hkl (Nat.le_refl _)
            have HPN : Hid (∀ j (h : j < S.length), k + 1 ≤ j → S[k].1 < S[j].1) := fun j h h2 => AP.out.last hkl h h2
            have HTN := Lib.hid (hl_take (hl := hl) hkl)
            have HSC := Lib.hid (AP.out.sc HC.out (T := S.take k) (fun x hx => List.mem_of_mem_take hx) (by rw [List.length_take]; omega))
            obtain ⟨x, hx⟩ : ∃ x, x = S[k] := ⟨_, rfl⟩
            rw [← hx] at c0 c1 c2 c3 HWT HFR HFN HTK hlast HPN HTN
            clear hx hkl hj1 hj2
            obtain ⟨id, s, q0, t, len⟩ := x
            unfold slZ at c0 c1 c2 c3
            dsimp only [jobOf, waN, heOf] at c0 c1 c2 c3 HWT HFR HFN HTK hlast HPN HTN
            have HW7 := Lib.hid HWT
            have hend : t + len ≤ 4398046511104 := HFN.1
            have FREE : Hid (∀ w', Below wr.heap.size wr w' → Calls Try.prog 12 #[.agg #[.int .i64 (n : Int), .slice aF LF cF, .slice aX (LH + k) cX], .agg #[.int .i64 (s : Nat), .int .i64 (q0 : Nat)], .int .i64 (t : Nat), .int .i64 (IntKind.i64.wrap ((t : Int) + (len : Int)))] w' fun e w'' => e = .returned (.bool true) ∧ Below w'.heap.size w' w'') := fun w' hb => (HX.out.kept hb).free HSC.out HFR.1 HFN.2 hend HTK
            have hnt := HFR.2.1
            clear HWT HFN HTK HFR HSC
            go_wp2_with fail
            refine HW7.out.mono ?_; rintro e w7 ⟨rfl, b7⟩
            obtain ⟨gT, hgT⟩ : ∃ g, g = w7.heap.size := ⟨_, rfl⟩
            obtain ⟨W8, hW8⟩ : ∃ x, x = w7.alloc (.cells #[.int .u32 (id : Nat), .int .i64 (q0 : Nat), .int .i64 (len : Nat)] 51) := ⟨_, rfl⟩
            have hb8 : Below wr.heap.size wr W8 := by rw [hW8]; exact b7.alloc b7.size _
            have HT8 : Hid (Blk W8 gT #[.int .u32 (id : Nat), .int .i64 (q0 : Nat), .int .i64 (len : Nat)] 51) := by unfold Hid; rw [hW8, hgT]; exact Blk.new _ _ _
            have HX8 := Lib.hid (HX.out.kept hb8)
            have HGT : Hid (gX ≠ gT ∧ ∀ g, (Value.slice aX (LH + k) cX).ownBlock = some g → g ≠ gT) := by
              have h1 := HX.out.x.lt
              have h2 := b7.size
              refine ⟨by omega, fun g hg => ?_⟩
              have := (own_ge HX.out.h hg).2
              omega
            have FREE8 : Hid (∀ w', Below W8.heap.size W8 w' → _) := fun w' h => FREE.out w' (below_next h hb8)
            replace c0 := cell_next hb8 c0
            replace c1 := cell_next hb8 c1
            replace c2 := cell_next hb8 c2
            replace c3 := cell_next hb8 c3
            dsimp only
            clear b7 HW7 HX FREE
            go_upto_region 13 with fail
            rw [← hW8, ← hgT]
            clear hW8 hgT hb8
            have g1 : decide ((id : Int) ≤ (last : Int)) = false := decide_eq_false (by omega)
            have g1' : decide (id ≤ last) = false := decide_eq_false (by omega)
            have g2 : decide ((t : Int) < (nw : Int)) = false := decide_eq_false (by omega)
            have g2' : decide (t < nw) = false := decide_eq_false (by omega)
            have x0 := HX8.out.x.cell 0
            have x1 := HX8.out.x.cell 1
            have x2 := HX8.out.x.cell 2
            have t2 := HT8.out.cell 2
            simp at x0 x1 x2 t2
            go_cut [112] from 55 to 141 (fun bv wx => bv = .bool false ∧ Hid (Below W8.heap.size W8 wx))
            case first =>
              go_region_held3 (fun w' => w'.cell? ⟨bb, off + k * 4, none⟩ = some (.int .u32 (id : Nat)) ∧ w'.cell? ⟨bb, off + k * 4 + 1, none⟩ = some (.int .i64 (s : Nat)) ∧ w'.cell? ⟨bb, off + k * 4 + 2, none⟩ = some (.int .i64 (q0 : Nat)) ∧ w'.cell? ⟨bb, off + k * 4 + 3, none⟩ = some (.int .i64 (t : Nat)) ∧ w'.cell? ⟨gX, 0, none⟩ = some (.int .i64 (n : Int)) ∧ w'.cell? ⟨gX, 1, none⟩ = some (.slice aF LF cF) ∧ w'.cell? ⟨gX, 2, none⟩ = some (.slice aX (LH + k) cX) ∧ w'.cell? ⟨gT, 2, none⟩ = some (.int .i64 (len : Nat)) ∧ Below W8.heap.size W8 w')
                (first
                  | exact ⟨c0, c1, c2, c3, x0, x1, x2, t2, Below.refl _ _⟩
                  | exact ⟨c0, c1, c2, c3, x0, x1, x2, t2, (Below.refl _ _).drew⟩
                  | (rcases ‹_ ∧ _ ∧ _ ∧ _ ∧ _ ∧ _ ∧ _ ∧ _ ∧ Below W8.heap.size _ _› with ⟨q0, q1, q2, q3, q4, q5, q6, q7, q8⟩; exact ⟨cell_next (by assumption) q0, cell_next (by assumption) q1, cell_next (by assumption) q2, cell_next (by assumption) q3, cell_next (by assumption) q4, cell_next (by assumption) q5, cell_next (by assumption) q6, cell_next (by assumption) q7, below_next (by assumption) q8⟩))
                (first
                  | (go_at_call 12; ((with_reducible refine (FREE8.out _ (‹_ ∧ _ ∧ _ ∧ _ ∧ _ ∧ _ ∧ _ ∧ _ ∧ Below W8.heap.size W8 _›).2.2.2.2.2.2.2.2).mono ?_); rintro e w5 ⟨rfl, b5⟩)))
              go_wp2_with fail
              go_meet
              exact ⟨rfl, (‹_ ∧ _ ∧ _ ∧ _ ∧ _ ∧ _ ∧ _ ∧ _ ∧ Below W8.heap.size W8 _›).2.2.2.2.2.2.2.2⟩
            case rest =>
              obtain ⟨rfl, hbw⟩ := hcut
              replace hbw := hbw.out
              replace c0 := cell_next hbw c0
              replace c1 := cell_next hbw c1
              replace c2 := cell_next hbw c2
              replace c3 := cell_next hbw c3
              replace x2 := cell_next hbw x2
              replace t2 := cell_next hbw t2
              have HXc := Lib.hid (HX8.out.kept hbw)
              have HBB : Hid (bb < w4.heap.size) := hbb
              clear x0 x1 g1 g1' g2 g2' FREE8 HX8 HT8 hbw hbb hnt hlast
              have hEi : (t : Int) + (len : Int) = ((t + len : Nat) : Int) := by push_cast; rfl
              obtain ⟨E, hE⟩ : ∃ x, x = t + len := ⟨_, rfl⟩
              rw [← hE] at HTN hEi hend
              clear hE
              go_upto_region 16 with fail
              obtain ⟨i1, hi1, hy0, hy1, hy2⟩ := info_parts Try.infoIHeld
              have hal : ∀ q C ty, Below wc.heap.size wc ((wc.drewN q).alloc (.cells C ty)) := fun q C ty => (below_drewN (Below.refl _ _) q).alloc (Nat.le_refl _) _
              have hbl1 : ∀ q C ty, ((wc.drewN q).alloc (.cells C ty)).cell? ⟨bb, off + k * 4 + 1, none⟩ = some (.int .i64 (s : Nat)) := fun q C ty => cell_next (w2 := (wc.drewN q).alloc (.cells C ty)) (hal q C ty) c1
              have hbl2 : ∀ q C ty, ((wc.drewN q).alloc (.cells C ty)).cell? ⟨bb, off + k * 4 + 2, none⟩ = some (.int .i64 (q0 : Nat)) := fun q C ty => cell_next (w2 := (wc.drewN q).alloc (.cells C ty)) (hal q C ty) c2
              have hbl3 : ∀ q C ty, ((wc.drewN q).alloc (.cells C ty)).cell? ⟨bb, off + k * 4 + 3, none⟩ = some (.int .i64 (t : Nat)) := fun q C ty => cell_next (w2 := (wc.drewN q).alloc (.cells C ty)) (hal q C ty) c3
              have hbl4 : ∀ q C ty, ((wc.drewN q).alloc (.cells C ty)).cell? ⟨gT, 2, none⟩ = some (.int .i64 (len : Nat)) := fun q C ty => cell_next (w2 := (wc.drewN q).alloc (.cells C ty)) (hal q C ty) t2
              have hbl5 : ∀ q C ty, ((wc.drewN q).alloc (.cells C ty)).cell? ⟨gX, 2, none⟩ = some (.slice aX (LH + k) cX) := fun q C ty => cell_next (w2 := (wc.drewN q).alloc (.cells C ty)) (hal q C ty) x2
              have hbl6 : ∀ C ty, (wc.alloc (.cells C ty)).cell? ⟨gX, 2, none⟩ = some (.slice aX (LH + k) cX) := fun C ty => hbl5 0 C ty
              have hEw : IntKind.i64.wrap (E : Int) = (E : Int) := by rw [IntKind.wrap_i64]; omega
              have hne1 : gX ≠ bb := fun e => by have h1 := HBB.out; have h2 := HXc.out.lo; rw [e] at h2; exact Nat.lt_irrefl _ (Nat.lt_of_lt_of_le h1 h2)
              have hne2 : gX ≠ gT := HGT.out.1
              have hOX := HXc.out.h
              have hw4c := HXc.out.b.size
              have hLHk : LH + k ≤ 800 := by omega
              have APP : Hid (∀ (X w8 : World) (g8 cap8 : Nat), Below wc.heap.size wc X → wc.heap.size < X.heap.size → w8.ownsRow w4.heap.size 57 4 (.slice (some ⟨g8, 0, none⟩) (LH + k + 1) cap8) (LH + k + 1) (heF (hl ++ (S.take k).map heOf) ++ heI (heZ (s, q0, t, E))) → X.grownBy w8 (Value.slice aX (LH + k) cX).ownBlock → ((Value.slice aX (LH + k) cX).ownBlock = some g8 ∨ g8 = wc.heap.size + 1) →
                  (w8.cell? ⟨bb, off + k * 4 + 1, none⟩ = some (.int .i64 (s : Nat)) ∧ w8.cell? ⟨bb, off + k * 4 + 2, none⟩ = some (.int .i64 (q0 : Nat)) ∧ w8.cell? ⟨bb, off + k * 4 + 3, none⟩ = some (.int .i64 (t : Nat)) ∧ w8.cell? ⟨gT, 2, none⟩ = some (.int .i64 (len : Nat))) ∧ (w8.cell? ⟨gX, 2, none⟩ = some (.slice aX (LH + k) cX) ∧ w8.frozen? ⟨gX, 2, none⟩ = false) ∧
                  Hid (XAt w4 (w8.setCell ⟨gX, 2, none⟩ (.slice (some ⟨g8, 0, none⟩) (LH + k + 1) cap8)) gX n (.slice aF LF cF) fl (some ⟨g8, 0, none⟩) cap8 (LH + k + 1) (hl ++ (S.take k).map heOf ++ [(s, q0, t, E)]))) := fun X w8 g8 cap8 h1 h2 h3 h4 h5 =>
                ⟨⟨HXc.out.far h1 h4 c1 (HXc.out.old HBB.out), HXc.out.far h1 h4 c2 (HXc.out.old HBB.out), HXc.out.far h1 h4 c3 (HXc.out.old HBB.out), HXc.out.far h1 h4 t2 HGT.out.2⟩, HXc.out.app h1 h2 h3 h4 h5⟩
              refine wp_region_held_drew (S := (fun w' => w'.cell? ⟨bb, off + k * 4 + 1, none⟩ = some (.int .i64 (s : Nat)) ∧ w'.cell? ⟨bb, off + k * 4 + 2, none⟩ = some (.int .i64 (q0 : Nat)) ∧ w'.cell? ⟨bb, off + k * 4 + 3, none⟩ = some (.int .i64 (t : Nat)) ∧ w'.cell? ⟨gT, 2, none⟩ = some (.int .i64 (len : Nat)))) (by kernel_rfl) (by
                first
                  | exact ⟨c1, c2, c3, t2⟩
                  | exact ⟨hbl1 _ _ _, hbl2 _ _ _, hbl3 _ _ _, hbl4 _ _ _⟩
                  | exact ⟨hbl1 0 _ _, hbl2 0 _ _, hbl3 0 _ _, hbl4 0 _ _⟩
                  | exact ⟨hbl1 1 _ _, hbl2 1 _ _, hbl3 1 _ _, hbl4 1 _ _⟩
                  | exact ⟨by assumption, by assumption, by assumption, by assumption⟩
                  | exact ⟨(World.cell?_setCell_far _ _ _ _ hne1).trans (by assumption), (World.cell?_setCell_far _ _ _ _ hne1).trans (by assumption), (World.cell?_setCell_far _ _ _ _ hne1).trans (by assumption), (World.cell?_setCell_far _ _ _ _ hne2).trans (by assumption)⟩
                ) (fun hHeld => ?_)
              refine wpAnyH_take (i := 0) (oi := { dst := some 118, op := Op.fieldAddr 25 (Operand.tmp 11) 2, type := 0, pos := "law.go:158", after := #[], guard := none }) (v := ?_) rfl (by kernel_rfl) (by kernel_rfl) (by kernel_rfl) (fun _ _ _ h => h) (Or.inl ⟨by kernel_rfl, ?_⟩) (by assumption) ?_
              rotate_left
              · (intro w hSw; (try dsimp only at hSw); go_simp; try with_reducible rfl)
              try simp only [Act.put, List.setIfInBounds_toArray, List.set_cons_zero, List.set_cons_succ]
              refine wpAnyH_take (i := 2) (oi := { dst := some 120, op := Op.move (Operand.tmp 9), type := 46, pos := "law.go:158", after := #[], guard := none }) (v := ?_) rfl (by kernel_rfl) (by kernel_rfl) (by kernel_rfl) (fun _ _ _ h => h) (Or.inl ⟨by kernel_rfl, ?_⟩) (by assumption) ?_
              rotate_left
              · (intro w hSw; (try dsimp only at hSw); go_simp; try with_reducible rfl)
              try simp only [Act.put, List.setIfInBounds_toArray, List.set_cons_zero, List.set_cons_succ]
              refine wpAnyH_take (i := 3) (oi := { dst := some 121, op := Op.move (Operand.tmp 13), type := 3, pos := "law.go:158", after := #[], guard := none }) (v := ?_) rfl (by kernel_rfl) (by kernel_rfl) (by kernel_rfl) (fun _ _ _ h => h) (Or.inl ⟨by kernel_rfl, ?_⟩) (by assumption) ?_
              rotate_left
              · (intro w hSw; (try dsimp only at hSw); go_simp; try with_reducible rfl)
              try simp only [Act.put, List.setIfInBounds_toArray, List.set_cons_zero, List.set_cons_succ]
              refine wpAnyH_take (i := 4) (oi := { dst := some 122, op := Op.indexAddr 46 (Operand.tmp 120) (Operand.tmp 121), type := 0, pos := "law.go:158", after := #[{ on := 2, ground := Ground.data }, { on := 3, ground := Ground.data }], guard := none }) (v := ?_) rfl (by kernel_rfl) (by kernel_rfl) (by kernel_rfl) (fun _ _ _ h => h) (Or.inl ⟨by kernel_rfl, ?_⟩) (by assumption) ?_
              rotate_left
              · (intro w hSw; (try dsimp only at hSw); go_simp; try with_reducible rfl)
              try simp only [Act.put, List.setIfInBounds_toArray, List.set_cons_zero, List.set_cons_succ]
              refine wpAnyH_take (i := 5) (oi := { dst := some 123, op := Op.fieldAddr 55 (Operand.tmp 122) 1, type := 0, pos := "law.go:158", after := #[{ on := 4, ground := Ground.data }], guard := none }) (v := ?_) rfl (by kernel_rfl) (by kernel_rfl) (by kernel_rfl) (fun _ _ _ h => h) (Or.inl ⟨by kernel_rfl, ?_⟩) (by assumption) ?_
              rotate_left
              · (intro w hSw; (try dsimp only at hSw); go_simp; try with_reducible rfl)
              try simp only [Act.put, List.setIfInBounds_toArray, List.set_cons_zero, List.set_cons_succ]
              refine wpAnyH_take (i := 6) (oi := { dst := some 124, op := Op.load 27 (Operand.tmp 123), type := 27, pos := "law.go:158", after := #[{ on := 5, ground := Ground.data }], guard := none }) (v := ?_) rfl (by kernel_rfl) (by kernel_rfl) (by kernel_rfl) (fun _ _ _ h => h) (Or.inl ⟨by kernel_rfl, ?_⟩) (by assumption) ?_
              rotate_left
              · (intro w hSw; (try dsimp only at hSw); go_simp; try with_reducible rfl)
              try simp only [Act.put, List.setIfInBounds_toArray, List.set_cons_zero, List.set_cons_succ]
              refine wpAnyH_take (i := 7) (oi := { dst := some 125, op := Op.move (Operand.tmp 9), type := 46, pos := "law.go:158", after := #[], guard := none }) (v := ?_) rfl (by kernel_rfl) (by kernel_rfl) (by kernel_rfl) (fun _ _ _ h => h) (Or.inl ⟨by kernel_rfl, ?_⟩) (by assumption) ?_
              rotate_left
              · (intro w hSw; (try dsimp only at hSw); go_simp; try with_reducible rfl)
              try simp only [Act.put, List.setIfInBounds_toArray, List.set_cons_zero, List.set_cons_succ]
              refine wpAnyH_take (i := 8) (oi := { dst := some 126, op := Op.move (Operand.tmp 13), type := 3, pos := "law.go:158", after := #[], guard := none }) (v := ?_) rfl (by kernel_rfl) (by kernel_rfl) (by kernel_rfl) (fun _ _ _ h => h) (Or.inl ⟨by kernel_rfl, ?_⟩) (by assumption) ?_
              rotate_left
              · (intro w hSw; (try dsimp only at hSw); go_simp; try with_reducible rfl)
              try simp only [Act.put, List.setIfInBounds_toArray, List.set_cons_zero, List.set_cons_succ]
              refine wpAnyH_take (i := 9) (oi := { dst := some 127, op := Op.indexAddr 46 (Operand.tmp 125) (Operand.tmp 126), type := 0, pos := "law.go:158", after := #[{ on := 7, ground := Ground.data }, { on := 8, ground := Ground.data }], guard := none }) (v := ?_) rfl (by kernel_rfl) (by kernel_rfl) (by kernel_rfl) (fun _ _ _ h => h) (Or.inl ⟨by kernel_rfl, ?_⟩) (by assumption) ?_
              rotate_left
              · (intro w hSw; (try dsimp only at hSw); go_simp; try with_reducible rfl)
              try simp only [Act.put, List.setIfInBounds_toArray, List.set_cons_zero, List.set_cons_succ]
              refine wpAnyH_take (i := 10) (oi := { dst := some 128, op := Op.fieldAddr 55 (Operand.tmp 127) 2, type := 0, pos := "law.go:158", after := #[{ on := 9, ground := Ground.data }], guard := none }) (v := ?_) rfl (by kernel_rfl) (by kernel_rfl) (by kernel_rfl) (fun _ _ _ h => h) (Or.inl ⟨by kernel_rfl, ?_⟩) (by assumption) ?_
              rotate_left
              · (intro w hSw; (try dsimp only at hSw); go_simp; try with_reducible rfl)
              try simp only [Act.put, List.setIfInBounds_toArray, List.set_cons_zero, List.set_cons_succ]
              refine wpAnyH_take (i := 11) (oi := { dst := some 129, op := Op.load 3 (Operand.tmp 128), type := 3, pos := "law.go:158", after := #[{ on := 10, ground := Ground.data }], guard := none }) (v := ?_) rfl (by kernel_rfl) (by kernel_rfl) (by kernel_rfl) (fun _ _ _ h => h) (Or.inl ⟨by kernel_rfl, ?_⟩) (by assumption) ?_
              rotate_left
              · (intro w hSw; (try dsimp only at hSw); go_simp; try with_reducible rfl)
              try simp only [Act.put, List.setIfInBounds_toArray, List.set_cons_zero, List.set_cons_succ]
              refine wpAnyH_take (i := 12) (oi := { dst := some 130, op := Op.move (Operand.tmp 9), type := 46, pos := "law.go:158", after := #[], guard := none }) (v := ?_) rfl (by kernel_rfl) (by kernel_rfl) (by kernel_rfl) (fun _ _ _ h => h) (Or.inl ⟨by kernel_rfl, ?_⟩) (by assumption) ?_
              rotate_left
              · (intro w hSw; (try dsimp only at hSw); go_simp; try with_reducible rfl)
              try simp only [Act.put, List.setIfInBounds_toArray, List.set_cons_zero, List.set_cons_succ]
              refine wpAnyH_take (i := 13) (oi := { dst := some 131, op := Op.move (Operand.tmp 13), type := 3, pos := "law.go:158", after := #[], guard := none }) (v := ?_) rfl (by kernel_rfl) (by kernel_rfl) (by kernel_rfl) (fun _ _ _ h => h) (Or.inl ⟨by kernel_rfl, ?_⟩) (by assumption) ?_
              rotate_left
              · (intro w hSw; (try dsimp only at hSw); go_simp; try with_reducible rfl)
              try simp only [Act.put, List.setIfInBounds_toArray, List.set_cons_zero, List.set_cons_succ]
              refine wpAnyH_take (i := 14) (oi := { dst := some 132, op := Op.indexAddr 46 (Operand.tmp 130) (Operand.tmp 131), type := 0, pos := "law.go:158", after := #[{ on := 12, ground := Ground.data }, { on := 13, ground := Ground.data }], guard := none }) (v := ?_) rfl (by kernel_rfl) (by kernel_rfl) (by kernel_rfl) (fun _ _ _ h => h) (Or.inl ⟨by kernel_rfl, ?_⟩) (by assumption) ?_
              rotate_left
              · (intro w hSw; (try dsimp only at hSw); go_simp; try with_reducible rfl)
              try simp only [Act.put, List.setIfInBounds_toArray, List.set_cons_zero, List.set_cons_succ]
              refine wpAnyH_take (i := 15) (oi := { dst := some 133, op := Op.fieldAddr 55 (Operand.tmp 132) 2, type := 0, pos := "law.go:158", after := #[{ on := 14, ground := Ground.data }], guard := none }) (v := ?_) rfl (by kernel_rfl) (by kernel_rfl) (by kernel_rfl) (fun _ _ _ h => h) (Or.inl ⟨by kernel_rfl, ?_⟩) (by assumption) ?_
              rotate_left
              · (intro w hSw; (try dsimp only at hSw); go_simp; try with_reducible rfl)
              try simp only [Act.put, List.setIfInBounds_toArray, List.set_cons_zero, List.set_cons_succ]
              refine wpAnyH_take (i := 16) (oi := { dst := some 134, op := Op.load 3 (Operand.tmp 133), type := 3, pos := "law.go:158", after := #[{ on := 15, ground := Ground.data }], guard := none }) (v := ?_) rfl (by kernel_rfl) (by kernel_rfl) (by kernel_rfl) (fun _ _ _ h => h) (Or.inl ⟨by kernel_rfl, ?_⟩) (by assumption) ?_
              rotate_left
              · (intro w hSw; (try dsimp only at hSw); go_simp; try with_reducible rfl)
              try simp only [Act.put, List.setIfInBounds_toArray, List.set_cons_zero, List.set_cons_succ]
              refine wpAnyH_take (i := 17) (oi := { dst := some 135, op := Op.fieldAddr 51 (Operand.tmp 14) 2, type := 0, pos := "law.go:158", after := #[], guard := none }) (v := ?_) rfl (by kernel_rfl) (by kernel_rfl) (by kernel_rfl) (fun _ _ _ h => h) (Or.inl ⟨by kernel_rfl, ?_⟩) (by assumption) ?_
              rotate_left
              · (intro w hSw; (try dsimp only at hSw); go_simp; try with_reducible rfl)
              try simp only [Act.put, List.setIfInBounds_toArray, List.set_cons_zero, List.set_cons_succ]
              refine wpAnyH_take (i := 18) (oi := { dst := some 136, op := Op.load 3 (Operand.tmp 135), type := 3, pos := "law.go:158", after := #[{ on := 17, ground := Ground.data }], guard := none }) (v := ?_) rfl (by kernel_rfl) (by kernel_rfl) (by kernel_rfl) (fun _ _ _ h => h) (Or.inl ⟨by kernel_rfl, ?_⟩) (by assumption) ?_
              rotate_left
              · (intro w hSw; (try dsimp only at hSw); go_simp; try with_reducible rfl)
              try simp only [Act.put, List.setIfInBounds_toArray, List.set_cons_zero, List.set_cons_succ]
              refine wpAnyH_take (i := 19) (oi := { dst := some 137, op := Op.binOp BinOp.add 3 (Operand.tmp 134) (Operand.tmp 136) 3, type := 3, pos := "law.go:158", after := #[{ on := 16, ground := Ground.data }, { on := 18, ground := Ground.data }], guard := none }) (v := ?_) rfl (by kernel_rfl) (by kernel_rfl) (by kernel_rfl) (fun _ _ _ h => h) (Or.inl ⟨by kernel_rfl, ?_⟩) (by assumption) ?_
              rotate_left
              · (intro w hSw; (try dsimp only at hSw); go_simp; try with_reducible rfl)
              try simp only [Act.put, List.setIfInBounds_toArray, List.set_cons_zero, List.set_cons_succ]
              refine wpAnyH_take (i := 20) (oi := { dst := some 138, op := Op.build 57 #[(0, Operand.tmp 124), (1, Operand.tmp 129), (2, Operand.tmp 137)], type := 57, pos := "law.go:158", after := #[{ on := 6, ground := Ground.data }, { on := 11, ground := Ground.data }, { on := 19, ground := Ground.data }], guard := none }) (v := ?_) rfl (by kernel_rfl) (by kernel_rfl) (by kernel_rfl) (fun _ _ _ h => h) (Or.inl ⟨by kernel_rfl, ?_⟩) (by assumption) ?_
              rotate_left
              · (intro w hSw; (try dsimp only at hSw); go_simp; try with_reducible rfl)
              try simp only [Act.put, List.setIfInBounds_toArray, List.set_cons_zero, List.set_cons_succ]
              refine wpAnyH_ready (rs := [1, 21]) (by kernel_rfl) (by simp) ?_
              refine AllReadyH.cons (o := { dst := some 119, op := Op.load 23 (Operand.tmp 118), type := 23, pos := "law.go:158", after := #[{ on := 0, ground := Ground.data }], guard := none }) rfl (fun K hK => ?_) (AllReadyH.cons (o := { dst := some 139, op := Op.buildSlice 23 1 #[(0, Operand.tmp 138)], type := 23, pos := "law.go:158", after := #[{ on := 20, ground := Ground.data }], guard := none }) rfl (fun K hK => ?_) AllReadyH.nil)
              rotate_left
              · go_simp
                refine hK.out _ _ ?_ (fun hHeld => ?_)
                · first
                    | exact ⟨c1, c2, c3, t2⟩
                    | exact ⟨hbl1 _ _ _, hbl2 _ _ _, hbl3 _ _ _, hbl4 _ _ _⟩
                    | exact ⟨hbl1 0 _ _, hbl2 0 _ _, hbl3 0 _ _, hbl4 0 _ _⟩
                    | exact ⟨hbl1 1 _ _, hbl2 1 _ _, hbl3 1 _ _, hbl4 1 _ _⟩
                    | exact ⟨by assumption, by assumption, by assumption, by assumption⟩
                    | exact ⟨(World.cell?_setCell_far _ _ _ _ hne1).trans (by assumption), (World.cell?_setCell_far _ _ _ _ hne1).trans (by assumption), (World.cell?_setCell_far _ _ _ _ hne1).trans (by assumption), (World.cell?_setCell_far _ _ _ _ hne2).trans (by assumption)⟩
                clear hK K
                try simp only [Act.put, List.setIfInBounds_toArray, List.set_cons_zero, List.set_cons_succ]
                refine wpAnyH_ready (rs := [1]) (by kernel_rfl) (by simp) ?_
                refine AllReadyH.cons (o := { dst := some 119, op := Op.load 23 (Operand.tmp 118), type := 23, pos := "law.go:158", after := #[{ on := 0, ground := Ground.data }], guard := none }) rfl (fun K hK => ?_) AllReadyH.nil
                go_simp
                refine hK.out _ _ ?_ (fun hHeld => ?_)
                · first
                    | exact ⟨c1, c2, c3, t2⟩
                    | exact ⟨hbl1 _ _ _, hbl2 _ _ _, hbl3 _ _ _, hbl4 _ _ _⟩
                    | exact ⟨hbl1 0 _ _, hbl2 0 _ _, hbl3 0 _ _, hbl4 0 _ _⟩
                    | exact ⟨hbl1 1 _ _, hbl2 1 _ _, hbl3 1 _ _, hbl4 1 _ _⟩
                    | exact ⟨by assumption, by assumption, by assumption, by assumption⟩
                    | exact ⟨(World.cell?_setCell_far _ _ _ _ hne1).trans (by assumption), (World.cell?_setCell_far _ _ _ _ hne1).trans (by assumption), (World.cell?_setCell_far _ _ _ _ hne1).trans (by assumption), (World.cell?_setCell_far _ _ _ _ hne2).trans (by assumption)⟩
                clear hK K
                try simp only [Act.put, List.setIfInBounds_toArray, List.set_cons_zero, List.set_cons_succ]
                refine wpAnyH_ready (rs := [22]) (by kernel_rfl) (by simp) ?_
                refine AllReadyH.cons (o := { dst := some 140, op := Op.call { callee := Callee.builtin Builtin.append, args := #[Operand.tmp 119, Operand.tmp 139], argTypes := #[23, 23] }, type := 23, pos := "law.go:158", after := #[{ on := 1, ground := Ground.data }, { on := 21, ground := Ground.data }], guard := none }) rfl (fun K hK => ?_) AllReadyH.nil
                (refine step_append_lies _ (by rfl) _ _ 23 (by rfl) w4.heap.size 57 i1 _ 4 32 Try.underlying23 hi1 hy0 hy1 hy2 rfl (by decide) (.slice aX (LH + k) cX) (LH + k) (heF (hl ++ (S.take k).map heOf)) (by rfl) (World.ownsRow.alloc hOX _) ⟨wc.heap.size, 0, none⟩ 1 1 (heI (heZ (s, q0, t, E))) (by rfl) (by rfl) (news_alloc _ [.int .i64 (s : Nat), .int .i64 (q0 : Nat), .int .i64 (t : Nat), .int .i64 (E : Nat)] _) (by intro u hu; simp [heI, heZ] at hu; rcases hu with rfl | rfl | rfl | rfl <;> rfl) (by decide) (by unfold maxLen; omega) (by omega) (by simp; omega) (wc.heap.size + 1) (by simp) ?_; intro g8 cap8 w8 hown8 hgrow8 hat8 hlt8; obtain ⟨⟨d1, d2, d3, d4⟩, ⟨d5, d6⟩, hfin⟩ := APP.out _ w8 g8 cap8 (hal 1 _ _) (by simp) hown8 hgrow8 hat8; go_simp)
                refine hK.out _ _ ?_ (fun hHeld => ?_)
                · first
                    | exact ⟨c1, c2, c3, t2⟩
                    | exact ⟨hbl1 _ _ _, hbl2 _ _ _, hbl3 _ _ _, hbl4 _ _ _⟩
                    | exact ⟨hbl1 0 _ _, hbl2 0 _ _, hbl3 0 _ _, hbl4 0 _ _⟩
                    | exact ⟨hbl1 1 _ _, hbl2 1 _ _, hbl3 1 _ _, hbl4 1 _ _⟩
                    | exact ⟨by assumption, by assumption, by assumption, by assumption⟩
                    | exact ⟨(World.cell?_setCell_far _ _ _ _ hne1).trans (by assumption), (World.cell?_setCell_far _ _ _ _ hne1).trans (by assumption), (World.cell?_setCell_far _ _ _ _ hne1).trans (by assumption), (World.cell?_setCell_far _ _ _ _ hne2).trans (by assumption)⟩
                clear hK K
                try simp only [Act.put, List.setIfInBounds_toArray, List.set_cons_zero, List.set_cons_succ]
                refine wpAnyH_take (i := 23) (oi := { dst := some 141, op := Op.fieldAddr 25 (Operand.tmp 11) 2, type := 0, pos := "law.go:158", after := #[{ on := 0, ground := Ground.phase }, { on := 1, ground := Ground.phase }, { on := 2, ground := Ground.phase }, { on := 3, ground := Ground.phase }, { on := 4, ground := Ground.phase }, { on := 5, ground := Ground.phase }, { on := 6, ground := Ground.phase }, { on := 7, ground := Ground.phase }, { on := 8, ground := Ground.phase }, { on := 9, ground := Ground.phase }, { on := 10, ground := Ground.phase }, { on := 11, ground := Ground.phase }, { on := 12, ground := Ground.phase }, { on := 13, ground := Ground.phase }, { on := 14, ground := Ground.phase }, { on := 15, ground := Ground.phase }, { on := 16, ground := Ground.phase }, { on := 17, ground := Ground.phase }, { on := 18, ground := Ground.phase }, { on := 19, ground := Ground.phase }, { on := 20, ground := Ground.phase }, { on := 21, ground := Ground.phase }, { on := 22, ground := Ground.phase }], guard := none }) (v := ?_) rfl (by kernel_rfl) (by kernel_rfl) (by kernel_rfl) (fun _ _ _ h => h) (Or.inl ⟨by kernel_rfl, ?_⟩) (by assumption) ?_
                rotate_left
                · (intro w hSw; (try dsimp only at hSw); go_simp; try with_reducible rfl)
                try simp only [Act.put, List.setIfInBounds_toArray, List.set_cons_zero, List.set_cons_succ]
                refine wpAnyH_ready (rs := [24]) (by kernel_rfl) (by simp) ?_
                refine AllReadyH.cons (o := { dst := none, op := Op.store 23 (Operand.tmp 141) (Operand.tmp 140), type := 0, pos := "law.go:158", after := #[{ on := 23, ground := Ground.data }, { on := 22, ground := Ground.data }, { on := 22, ground := Ground.chain }, { on := 0, ground := Ground.phase }, { on := 1, ground := Ground.phase }, { on := 2, ground := Ground.phase }, { on := 3, ground := Ground.phase }, { on := 4, ground := Ground.phase }, { on := 5, ground := Ground.phase }, { on := 6, ground := Ground.phase }, { on := 7, ground := Ground.phase }, { on := 8, ground := Ground.phase }, { on := 9, ground := Ground.phase }, { on := 10, ground := Ground.phase }, { on := 11, ground := Ground.phase }, { on := 12, ground := Ground.phase }, { on := 13, ground := Ground.phase }, { on := 14, ground := Ground.phase }, { on := 15, ground := Ground.phase }, { on := 16, ground := Ground.phase }, { on := 17, ground := Ground.phase }, { on := 18, ground := Ground.phase }, { on := 19, ground := Ground.phase }, { on := 20, ground := Ground.phase }, { on := 21, ground := Ground.phase }, { on := 22, ground := Ground.phase }], guard := none }) rfl (fun K hK => ?_) AllReadyH.nil
                go_simp
                refine hK.out _ _ ?_ (fun hHeld => ?_)
                · first
                    | exact ⟨c1, c2, c3, t2⟩
                    | exact ⟨hbl1 _ _ _, hbl2 _ _ _, hbl3 _ _ _, hbl4 _ _ _⟩
                    | exact ⟨hbl1 0 _ _, hbl2 0 _ _, hbl3 0 _ _, hbl4 0 _ _⟩
                    | exact ⟨hbl1 1 _ _, hbl2 1 _ _, hbl3 1 _ _, hbl4 1 _ _⟩
                    | exact ⟨by assumption, by assumption, by assumption, by assumption⟩
                    | exact ⟨(World.cell?_setCell_far _ _ _ _ hne1).trans (by assumption), (World.cell?_setCell_far _ _ _ _ hne1).trans (by assumption), (World.cell?_setCell_far _ _ _ _ hne1).trans (by assumption), (World.cell?_setCell_far _ _ _ _ hne2).trans (by assumption)⟩
                clear hK K
                try simp only [Act.put, List.setIfInBounds_toArray, List.set_cons_zero, List.set_cons_succ]
                refine wpAnyH_done (by kernel_rfl) ?_ _
                go_wp2_with fail
                go_roundw
                case rel => exact ⟨k + 1, id, some ⟨g8, 0, none⟩, cap8, hlt, by go_num, rfl, by (rw [HTN.out]; exact hfin), HPN⟩
                case measure => simp [RowKit.intOf]; omega
              · go_simp
                refine hK.out _ _ ?_ (fun hHeld => ?_)
                · first
                    | exact ⟨c1, c2, c3, t2⟩
                    | exact ⟨hbl1 _ _ _, hbl2 _ _ _, hbl3 _ _ _, hbl4 _ _ _⟩
                    | exact ⟨hbl1 0 _ _, hbl2 0 _ _, hbl3 0 _ _, hbl4 0 _ _⟩
                    | exact ⟨hbl1 1 _ _, hbl2 1 _ _, hbl3 1 _ _, hbl4 1 _ _⟩
                    | exact ⟨by assumption, by assumption, by assumption, by assumption⟩
                    | exact ⟨(World.cell?_setCell_far _ _ _ _ hne1).trans (by assumption), (World.cell?_setCell_far _ _ _ _ hne1).trans (by assumption), (World.cell?_setCell_far _ _ _ _ hne1).trans (by assumption), (World.cell?_setCell_far _ _ _ _ hne2).trans (by assumption)⟩
                clear hK K
                try simp only [Act.put, List.setIfInBounds_toArray, List.set_cons_zero, List.set_cons_succ]
                refine wpAnyH_ready (rs := [21]) (by kernel_rfl) (by simp) ?_
                refine AllReadyH.cons (o := { dst := some 139, op := Op.buildSlice 23 1 #[(0, Operand.tmp 138)], type := 23, pos := "law.go:158", after := #[{ on := 20, ground := Ground.data }], guard := none }) rfl (fun K hK => ?_) AllReadyH.nil
                go_simp
                refine hK.out _ _ ?_ (fun hHeld => ?_)
                · first
                    | exact ⟨c1, c2, c3, t2⟩
                    | exact ⟨hbl1 _ _ _, hbl2 _ _ _, hbl3 _ _ _, hbl4 _ _ _⟩
                    | exact ⟨hbl1 0 _ _, hbl2 0 _ _, hbl3 0 _ _, hbl4 0 _ _⟩
                    | exact ⟨hbl1 1 _ _, hbl2 1 _ _, hbl3 1 _ _, hbl4 1 _ _⟩
                    | exact ⟨by assumption, by assumption, by assumption, by assumption⟩
                    | exact ⟨(World.cell?_setCell_far _ _ _ _ hne1).trans (by assumption), (World.cell?_setCell_far _ _ _ _ hne1).trans (by assumption), (World.cell?_setCell_far _ _ _ _ hne1).trans (by assumption), (World.cell?_setCell_far _ _ _ _ hne2).trans (by assumption)⟩
                clear hK K
                try simp only [Act.put, List.setIfInBounds_toArray, List.set_cons_zero, List.set_cons_succ]
                refine wpAnyH_ready (rs := [22]) (by kernel_rfl) (by simp) ?_
                refine AllReadyH.cons (o := { dst := some 140, op := Op.call { callee := Callee.builtin Builtin.append, args := #[Operand.tmp 119, Operand.tmp 139], argTypes := #[23, 23] }, type := 23, pos := "law.go:158", after := #[{ on := 1, ground := Ground.data }, { on := 21, ground := Ground.data }], guard := none }) rfl (fun K hK => ?_) AllReadyH.nil
                (refine step_append_lies _ (by rfl) _ _ 23 (by rfl) w4.heap.size 57 i1 _ 4 32 Try.underlying23 hi1 hy0 hy1 hy2 rfl (by decide) (.slice aX (LH + k) cX) (LH + k) (heF (hl ++ (S.take k).map heOf)) (by rfl) (World.ownsRow.alloc hOX _) ⟨wc.heap.size, 0, none⟩ 1 1 (heI (heZ (s, q0, t, E))) (by rfl) (by rfl) (news_alloc _ [.int .i64 (s : Nat), .int .i64 (q0 : Nat), .int .i64 (t : Nat), .int .i64 (E : Nat)] _) (by intro u hu; simp [heI, heZ] at hu; rcases hu with rfl | rfl | rfl | rfl <;> rfl) (by decide) (by unfold maxLen; omega) (by omega) (by simp; omega) (wc.heap.size + 1) (by simp) ?_; intro g8 cap8 w8 hown8 hgrow8 hat8 hlt8; obtain ⟨⟨d1, d2, d3, d4⟩, ⟨d5, d6⟩, hfin⟩ := APP.out _ w8 g8 cap8 (hal 1 _ _) (by simp) hown8 hgrow8 hat8; go_simp)
                refine hK.out _ _ ?_ (fun hHeld => ?_)
                · first
                    | exact ⟨c1, c2, c3, t2⟩
                    | exact ⟨hbl1 _ _ _, hbl2 _ _ _, hbl3 _ _ _, hbl4 _ _ _⟩
                    | exact ⟨hbl1 0 _ _, hbl2 0 _ _, hbl3 0 _ _, hbl4 0 _ _⟩
                    | exact ⟨hbl1 1 _ _, hbl2 1 _ _, hbl3 1 _ _, hbl4 1 _ _⟩
                    | exact ⟨by assumption, by assumption, by assumption, by assumption⟩
                    | exact ⟨(World.cell?_setCell_far _ _ _ _ hne1).trans (by assumption), (World.cell?_setCell_far _ _ _ _ hne1).trans (by assumption), (World.cell?_setCell_far _ _ _ _ hne1).trans (by assumption), (World.cell?_setCell_far _ _ _ _ hne2).trans (by assumption)⟩
                clear hK K
                try simp only [Act.put, List.setIfInBounds_toArray, List.set_cons_zero, List.set_cons_succ]
                refine wpAnyH_take (i := 23) (oi := { dst := some 141, op := Op.fieldAddr 25 (Operand.tmp 11) 2, type := 0, pos := "law.go:158", after := #[{ on := 0, ground := Ground.phase }, { on := 1, ground := Ground.phase }, { on := 2, ground := Ground.phase }, { on := 3, ground := Ground.phase }, { on := 4, ground := Ground.phase }, { on := 5, ground := Ground.phase }, { on := 6, ground := Ground.phase }, { on := 7, ground := Ground.phase }, { on := 8, ground := Ground.phase }, { on := 9, ground := Ground.phase }, { on := 10, ground := Ground.phase }, { on := 11, ground := Ground.phase }, { on := 12, ground := Ground.phase }, { on := 13, ground := Ground.phase }, { on := 14, ground := Ground.phase }, { on := 15, ground := Ground.phase }, { on := 16, ground := Ground.phase }, { on := 17, ground := Ground.phase }, { on := 18, ground := Ground.phase }, { on := 19, ground := Ground.phase }, { on := 20, ground := Ground.phase }, { on := 21, ground := Ground.phase }, { on := 22, ground := Ground.phase }], guard := none }) (v := ?_) rfl (by kernel_rfl) (by kernel_rfl) (by kernel_rfl) (fun _ _ _ h => h) (Or.inl ⟨by kernel_rfl, ?_⟩) (by assumption) ?_
                rotate_left
                · (intro w hSw; (try dsimp only at hSw); go_simp; try with_reducible rfl)
                try simp only [Act.put, List.setIfInBounds_toArray, List.set_cons_zero, List.set_cons_succ]
                refine wpAnyH_ready (rs := [24]) (by kernel_rfl) (by simp) ?_
                refine AllReadyH.cons (o := { dst := none, op := Op.store 23 (Operand.tmp 141) (Operand.tmp 140), type := 0, pos := "law.go:158", after := #[{ on := 23, ground := Ground.data }, { on := 22, ground := Ground.data }, { on := 22, ground := Ground.chain }, { on := 0, ground := Ground.phase }, { on := 1, ground := Ground.phase }, { on := 2, ground := Ground.phase }, { on := 3, ground := Ground.phase }, { on := 4, ground := Ground.phase }, { on := 5, ground := Ground.phase }, { on := 6, ground := Ground.phase }, { on := 7, ground := Ground.phase }, { on := 8, ground := Ground.phase }, { on := 9, ground := Ground.phase }, { on := 10, ground := Ground.phase }, { on := 11, ground := Ground.phase }, { on := 12, ground := Ground.phase }, { on := 13, ground := Ground.phase }, { on := 14, ground := Ground.phase }, { on := 15, ground := Ground.phase }, { on := 16, ground := Ground.phase }, { on := 17, ground := Ground.phase }, { on := 18, ground := Ground.phase }, { on := 19, ground := Ground.phase }, { on := 20, ground := Ground.phase }, { on := 21, ground := Ground.phase }, { on := 22, ground := Ground.phase }], guard := none }) rfl (fun K hK => ?_) AllReadyH.nil
                go_simp
                refine hK.out _ _ ?_ (fun hHeld => ?_)
                · first
                    | exact ⟨c1, c2, c3, t2⟩
                    | exact ⟨hbl1 _ _ _, hbl2 _ _ _, hbl3 _ _ _, hbl4 _ _ _⟩
                    | exact ⟨hbl1 0 _ _, hbl2 0 _ _, hbl3 0 _ _, hbl4 0 _ _⟩
                    | exact ⟨hbl1 1 _ _, hbl2 1 _ _, hbl3 1 _ _, hbl4 1 _ _⟩
                    | exact ⟨by assumption, by assumption, by assumption, by assumption⟩
                    | exact ⟨(World.cell?_setCell_far _ _ _ _ hne1).trans (by assumption), (World.cell?_setCell_far _ _ _ _ hne1).trans (by assumption), (World.cell?_setCell_far _ _ _ _ hne1).trans (by assumption), (World.cell?_setCell_far _ _ _ _ hne2).trans (by assumption)⟩
                clear hK K
                try simp only [Act.put, List.setIfInBounds_toArray, List.set_cons_zero, List.set_cons_succ]
                refine wpAnyH_done (by kernel_rfl) ?_ _
                go_wp2_with fail
                go_roundw
                case rel => exact ⟨k + 1, id, some ⟨g8, 0, none⟩, cap8, hlt, by go_num, rfl, by (rw [HTN.out]; exact hfin), HPN⟩
                case measure => simp [RowKit.intOf]; omega
          · have hd : decide (k < LL) = false := decide_eq_false hlt
            have hki : ¬ (k : Int) < (LL : Int) := by omega
            clear HX HP
            go_wp2_with fail
            refine (K.out _).mono ?_; rintro e w9 ⟨rfl, b9⟩
            have HB9 := below_next b9 HBw.out
            clear b9
            go_wp2_with fail
            go_ret
            exact ⟨rfl, HB9⟩
theorem named_ids (WL : List WaI) : ∀ x ∈ namedL WL, 0 ≤ x.1 := by
  intro x hx
  obtain ⟨i, hi, rfl⟩ := List.getElem_of_mem hx
  have hj : i < WL.length := by rw [namedL_len] at hi; exact hi
  have h := namedF_get WL 0 i hj
  have e : (namedL WL)[i]? = some (namedL WL)[i] := List.getElem?_eq_getElem hi
  unfold namedL at e ⊢
  rw [h] at e
  rw [← Option.some.inj e]
  dsimp only
  omega
theorem walk (N : Int) (vf : Value) (FL : List Int) (vh : Value) (HL : List HeI) (vw : Value) (WL : List WaI) (now policy : Int) (w : World) (_ : (Lit.int .i64 N).wf = true) (hF : GRow w vf FL ∧ FL.length ≤ maxLen ∧ ∀ x ∈ FL, (Lit.int .i64 x).wf = true) (hH : HeArg w vh HL) (hW : WaArg w vw WL ∧ WL.length ≤ 5864062014634)
    (_ : (Lit.int .i64 now).wf = true) (_ : (Lit.int .i64 policy).wf = true) :
    Calls Try.prog 5 #[.agg #[.int .i64 N, vf, vh], vw, .int .i64 now, .int .i64 policy] w fun e w' => e = .returned (.bool true) ∧ Below w.heap.size w w' := by
  by_cases hlo : 1000 < WL.length
  · exact long_ N vf FL vh HL vw WL now policy w hF.1 hH.1 hW.1.1 hF.2.1 hH.2.1 hW.2 hlo
  · have hwl : WL.length ≤ 1000 := by omega
    by_cases hA : Ask N FL HL (namedL WL) now
    · obtain ⟨n, nw, fl, hl, WS, rfl, rfl, rfl, rfl, hWS, hc, h3, hnw, hj⟩ := ask_nat hA (named_ids WL)
      exact yes_ n fl hl vf vh vw WL WS nw policy w ⟨hF.1, hH.1⟩ hW.1.1 hc hwl hWS h3 hnw hj
    · refine no_ N vf FL vh HL vw WL now policy w hF.1 hH.1 hW.1.1 hF.2.1 hH.2.1 hwl ?_
      obtain ⟨U, m, u1, u2, u3, u4, u5, u6⟩ := mod_pickL policy 3 (by omega) (by omega)
      intro w1 v1 hb hv
      refine plans_of N now policy vf vh v1 m 2 [] w1 U u1 u2 u6 u3 (one_of_grow hF.1) (one_of_row hH.1) fun w' hb' => ?_
      have k1 := (hF.1.kept hb).kept hb'
      have k2 := (hH.1.kept hb).kept hb'
      have k3 := hv.kept hb'
      have k4 : (namedL WL).length ≤ maxLen := by rw [namedL_len]; unfold maxLen; omega
      rcases (by omega : m = 0 ∨ m = 1 ∨ m = 2) with rfl | rfl | rfl
      · rw [if_pos rfl]; exact fifo_no k1 k2 k3 hF.2.1 hH.2.1 k4 hA
      · rw [if_neg (by decide), if_pos rfl]; exact easy_no k1 k2 k3 hF.2.1 hH.2.1 k4 hA
      · rw [if_neg (by decide), if_neg (by decide)]; exact cons_no k1 k2 k3 hF.2.1 hH.2.1 k4 hA


set_option maxRecDepth 100000 in
theorem lifted (os : Os) (started : os.Started) (H : Type) (enc : TypeId × Value → H) :
    ReturnsInHanded {} Try.checked os 5 .any (Rows.backfillApartSpec.pre6 enc Try.prog Try.f5 Rows.backfillApartRow.domain false) (Rows.backfillApartSpec.post enc Try.prog Try.f5 false true false false) := by
  refine returnsInHanded_of_change_sized (C := Try.checked) own started (by kernel_rfl) Try.func5
    (ChangeSpec.witness6 (enc := enc) (C := Try.checked) false ⟨#[], #[.agg #[.int .i64 0, .slice none 0 0, .slice none 0 0], .slice none 0 0, .int .i64 0, .int .i64 0], []⟩ 8 (by kernel_rfl) (by kernel_rfl) (by kernel_rfl) (by kernel_rfl)) ?_
  intro W base args ds gs before hval0 hW _ hsz0 _
  have hval : ∀ (j : Nat) t v, Try.f5.params[j]? = some t → args[j]? = some v → Value.okWide Try.prog W .any base t v := hval0
  have hW' := hW
  obtain ⟨p, q, hA0, hV, rfl, hfz, hnd⟩ := hW
  have hA : DataW.TrodAll enc Try.prog W 0 (fun _ => true) true Try.f5.params.toList args.toList ds p := hA0
  rw [Try.params5] at hA hval
  obtain ⟨v0, vs0, d0, ds0, p0, q0, hargs, rfl, rfl, h0, r0⟩ := trodAll_cons hA
  obtain ⟨v1, vs1, d1, ds1, p1, q1, rfl, rfl, rfl, h1, r1⟩ := trodAll_cons r0
  obtain ⟨v2, vs2, d2, ds2, p2, q2, rfl, rfl, rfl, h2, r2⟩ := trodAll_cons r1
  obtain ⟨v3, vs3, d3, ds3, p3, q3, rfl, rfl, rfl, h3, r3⟩ := trodAll_cons r2
  obtain ⟨rfl, rfl, rfl⟩ := trodAll_nil r3
  obtain rfl : args = #[v0, v1, v2, v3] := by cases args; simp_all
  obtain ⟨cs0, rfl, hs0, hf0⟩ := open_plain_struct Try.underlying25 (by kernel_rfl) (by kernel_rfl) (hval 0 25 v0 rfl rfl) h0
  obtain ⟨c0_0, y0_0, n0_0, e0_0, t0_0⟩ := hf0 0 _ rfl
  obtain ⟨N, rfl, w0_0⟩ := field_int Try.underlying3 t0_0
  obtain ⟨c0_1, y0_1, n0_1, e0_1, t0_1⟩ := hf0 1 _ rfl
  obtain ⟨FL, w0_1⟩ := field_growG Try.underlying22 Try.underlying3 (by kernel_rfl) t0_1
  obtain ⟨c0_2, y0_2, n0_2, e0_2, t0_2⟩ := hf0 2 _ rfl
  obtain ⟨HL, w0_2⟩ := field_helds t0_2
  obtain rfl : cs0 = #[.int .i64 N, c0_1, c0_2] := arr_of cs0 [.int .i64 N, c0_1, c0_2] hs0 (fun j hj => by match j, hj with | 0, _ => exact e0_0 | 1, _ => exact e0_1 | 2, _ => exact e0_2 | j + 3, hj => exact absurd hj (by simp))
  have hz1 : ∀ k ∈ d1.weights Try.prog 43, k ≤ reachBytes := fun k hk => by
    have := List.all_eq_true.1 hsz0 k (DataW.weights_mem_each (j := 1) (t := 43) (d := d1) rfl rfl k hk)
    simpa using this
  obtain ⟨WL, w1⟩ := open_wantsZ hz1 h1 (okWide_slice Try.underlying43 (hval 1 43 v1 rfl rfl))
  obtain ⟨now, rfl, rfl, rfl, w2⟩ := open_int Try.underlying3 (hval 2 3 v2 rfl rfl) h2
  obtain ⟨policy, rfl, rfl, rfl, w3⟩ := open_int Try.underlying3 (hval 3 3 v3 rfl rfl) h3
  clear hA0 hval0
  refine (walk N c0_1 FL c0_2 HL v1 WL now policy W w0_0 w0_1 w0_2 w1 w2 w3).mono fun e W' ⟨he, hb⟩ => ?_
  subst he
  exact ⟨_, rfl, law_post (by kernel_rfl) (by kernel_rfl) rfl Try.underlying4 rfl hW' rfl hb⟩

theorem over : Rows.backfillApartRow.holds Try.pinned (OpenSpec.ofChange Rows.backfillApartSpec) :=
  OpenClaim.holds_of_wide 5 Try.f5 rfl rfl rfl rfl rfl rfl rfl ⟨rfl, rfl, rfl, rfl, rfl⟩ rfl rfl rfl rfl rfl (by kernel_rfl) Try.func5 (by kernel_rfl)
    (of_decide_eq_true (by kernel_rfl)) (by unfold Func.isWrapper; first | (rw [if_pos (by decide +kernel)]; kernel_rfl) | (rw [if_neg (by decide +kernel)]; exact ⟨rfl, rfl⟩))
    (fun os started H enc _ => lifted os started H enc)

theorem proved : Rows.BackfillApartSaid :=
  over
#print axioms proved
end Go.Proofs.Ytioeblljabohbaa.backfillApart
