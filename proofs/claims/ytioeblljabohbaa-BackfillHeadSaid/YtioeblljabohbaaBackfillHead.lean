/-
  BackfillHead: under Easy the first job that waits is promised the tick and the block that it is told of when nobody comes behind it; laid into the scene, all who start now leave that block to it; and its earliest tick is then no later: so the law returns true for every input.
-/
import Derived.Test.YtioeblljabohbaaBfHx
import Derived.Test.YtioeblljabohbaaBfKnow
import Derived.Test.YtioeblljabohbaaBfMy
import Derived.Test.YtioeblljabohbaaBfAr
import Derived.Test.YtioeblljabohbaaLaw
import Derived.Test.YtioeblljabohbaaRows
import Derived.Test.YtioeblljabohbaaArgs2
namespace Go.Proofs.Ytioeblljabohbaa.backfillHead
open Go.ChangeShapes Go.WideShapes Go.ChangeAt Go.RowKit
set_option linter.unusedVariables false

theorem own : ownKnob Try.prog.godebug = none := by kernel_rfl

open Go Go.ChangeShapes Go.WideShapes Go.ChangeAt Go.RowKit Go.Lib Go.Sort
set_option maxRecDepth 100000 in
set_option maxHeartbeats 8000000 in
theorem long_ (N : Int) (vf : Value) (FL : List Int) (vh : Value) (HL : List HeI) (vw : Value) (WL : List WaI) (now : Int) (w : World) (hf : GRow w vf FL) (hh : HRow w vh HL) (hw : WRow w vw WL) (hfl : FL.length ≤ maxLen) (hhl : HL.length ≤ maxLen) (hwl : WL.length ≤ 5864062014634) (hlo : 1000 < WL.length) :
    Calls Try.prog 6 #[.agg #[.int .i64 N, vf, vh], vw, .int .i64 now] w fun e w' => e = .returned (.bool true) ∧ Below w.heap.size w w' := by
  have K : Hid (∀ w1, Calls Try.prog 9 #[] w1 fun e w' => e = .returned (.bool true) ∧ Below w1.heap.size w1 w') := known15_any
  have NM : Hid (∀ w1, Below w.heap.size w w1 → Calls Try.prog 20 #[vw] w1 fun e w' => ∃ a c, e = .returned (.slice a WL.length c) ∧ Below w1.heap.size w1 w') := fun w1 h => named_big vw WL w1 (hw.kept h) hwl
  obtain ⟨fa, fc, rfl⟩ := hf.slice
  obtain ⟨ha, hc, rfl⟩ := hh.slice
  generalize WL.length = LW at *
  generalize FL.length = LF at *
  generalize HL.length = LH at *
  unfold maxLen at hfl hhl
  have MN : Hid (∀ w1 a1 c1, Calls Try.prog 8 #[.agg #[.int .i64 N, .slice fa LF fc, .slice ha LH hc], .slice a1 LW c1] w1 fun e w' => e = .returned (.bool true) ∧ Below w1.heap.size w1 w') := fun w1 a1 c1 => by
    have h := many_any N fa ha a1 LF LH LW fc hc c1 w1 (by omega) (by omega) (by omega)
    rwa [show manyB N LF LH LW = true from decide_eq_true (by omega)] at h
  obtain ⟨W, hW⟩ : ∃ W, W = w.alloc (.cells #[.int .i64 N, .slice fa LF fc, .slice ha LH hc] 25) := ⟨_, rfl⟩
  obtain ⟨gS, hgS⟩ : ∃ g, g = w.heap.size := ⟨_, rfl⟩
  have HBW : Hid (Below w.heap.size w W) := by unfold Hid; rw [hW]; exact (Below.refl _ _).alloc (Nat.le_refl _) _
  have HS : Hid (Blk W gS #[.int .i64 N, .slice fa LF fc, .slice ha LH hc] 25) := by unfold Hid; rw [hW, hgS]; exact Blk.new w _ _
  clear hf hh hw
  go_enter Try.func6, Try.ntmps6
  go_upto_region 1 with fail
  rw [← hgS, ← hW]
  clear hgS hW
  go_wp2_with fail
  refine (NM.out _ HBW.out).mono ?_; rintro e w1 ⟨a1, c1, rfl, b1⟩
  have HB1 := Lib.hid (below_next b1 HBW.out)
  have hS1 := HS.out.kept b1
  have s0 := hS1.cell 0
  have s1 := hS1.cell 1
  have s2 := hS1.cell 2
  simp at s0 s1 s2
  clear b1 NM HS HBW hS1
  go_wp2_with fail
  refine (MN.out _ _ _).mono ?_; rintro e w2 ⟨rfl, b2⟩
  have HB2 := Lib.hid (below_next b2 HB1.out)
  clear b2 MN HB1 s0 s1 s2
  go_wp2_with fail
  refine (K.out _).mono ?_; rintro e w9 ⟨rfl, b9⟩
  have HB9 := below_next b9 HB2.out
  clear b9
  go_wp2_with fail
  go_ret
  exact ⟨rfl, HB9⟩
set_option maxRecDepth 100000 in
set_option maxHeartbeats 8000000 in
theorem no_ (N : Int) (vf : Value) (FL : List Int) (vh : Value) (HL : List HeI) (vw : Value) (WL : List WaI) (now : Int) (w : World) (hf : GRow w vf FL) (hh : HRow w vh HL) (hw : WRow w vw WL) (hfl : FL.length ≤ maxLen) (hhl : HL.length ≤ maxLen) (hwl : WL.length ≤ 1000)
    (PL : Hid (∀ w1 v1, Below w.heap.size w w1 → WRow w1 v1 (namedL WL) → Calls Try.prog 24 #[.agg #[.int .i64 N, vf, vh], v1, .int .i64 now] w1 fun e w' => PlanTo w1.heap.size 2 [] w1 e w')) :
    Calls Try.prog 6 #[.agg #[.int .i64 N, vf, vh], vw, .int .i64 now] w fun e w' => e = .returned (.bool true) ∧ Below w.heap.size w w' := by
  have K : Hid (∀ w1, Calls Try.prog 9 #[] w1 fun e w' => e = .returned (.bool true) ∧ Below w1.heap.size w1 w') := known15_any
  obtain ⟨LW, hLW⟩ : ∃ n, n = WL.length := ⟨_, rfl⟩
  have NM : Hid (∀ w1, Below w.heap.size w w1 → Calls Try.prog 20 #[vw] w1 fun e w' => ∃ a c, e = .returned (.slice a LW c) ∧ LW ≤ c ∧ WRow w' (.slice a LW c) (namedL WL) ∧ Below w1.heap.size w1 w') := fun w1 h => (named_any vw WL w1 (hw.kept h) hwl).mono fun e w' ⟨v, he, ho, hb⟩ => by
    have R := rowG_of_own (base := w1.heap.size) (e := 51) (s := 3) (enc := waI) (fun x => rfl) ho
    obtain ⟨a, c, rfl⟩ := own_slice ho
    have hcap := own_cap2 ho
    rw [namedL_len, ← hLW] at he R hcap
    exact ⟨a, c, he, hcap, R, hb⟩
  have FR : Hid (HL.length ≤ 1048576 → ∀ w1 v1, Below w.heap.size w w1 → WRow w1 v1 (namedL WL) → Calls Try.prog 21 #[.agg #[.int .i64 N, vf, vh], v1, .int .i64 now] w1 fun e w' => e = .returned (.bool (farB HL (namedL WL) now)) ∧ Below w1.heap.size w1 w') := fun hh4 w1 v1 h hr => far_any N now vf vh v1 FL HL (namedL WL) w1 (hf.kept h) (hh.kept h) hr hh4 (by rw [namedL_len]; omega)
  have HF := Lib.hid hf
  have HH := Lib.hid hh
  obtain ⟨fa, fc, rfl⟩ := hf.slice
  obtain ⟨ha, hc, rfl⟩ := hh.slice
  obtain ⟨LF, hLF⟩ : ∃ n, n = FL.length := ⟨_, rfl⟩
  obtain ⟨LH, hLH⟩ : ∃ n, n = HL.length := ⟨_, rfl⟩
  rw [← hLF] at FR HF PL hfl ⊢
  rw [← hLH] at FR HH PL hhl ⊢
  rw [← hLW] at hwl
  obtain ⟨FAR, hFAR⟩ : ∃ b, b = farB HL (namedL WL) now := ⟨_, rfl⟩
  rw [← hFAR] at FR
  have HFAR := Lib.hid hFAR
  have HLE : Hid (LF = FL.length ∧ LH = HL.length ∧ LW = WL.length) := ⟨hLF, hLH, hLW⟩
  unfold maxLen at hfl hhl
  have MN : Hid (∀ w1 a1 c1, Calls Try.prog 8 #[.agg #[.int .i64 N, .slice fa LF fc, .slice ha LH hc], .slice a1 LW c1] w1 fun e w' => e = .returned (.bool (manyB N LF LH LW)) ∧ Below w1.heap.size w1 w') := fun w1 a1 c1 => many_any N fa ha a1 LF LH LW fc hc c1 w1 (by omega) (by omega) (by omega)
  obtain ⟨M, hM⟩ : ∃ M, M = manyB N LF LH LW := ⟨_, rfl⟩
  rw [← hM] at MN
  have HM : Hid (M = manyB N LF LH LW) := hM
  obtain ⟨W, hW⟩ : ∃ W, W = w.alloc (.cells #[.int .i64 N, .slice fa LF fc, .slice ha LH hc] 25) := ⟨_, rfl⟩
  obtain ⟨gS, hgS⟩ : ∃ g, g = w.heap.size := ⟨_, rfl⟩
  have HBW : Hid (Below w.heap.size w W) := by unfold Hid; rw [hW]; exact (Below.refl _ _).alloc (Nat.le_refl _) _
  have HS : Hid (Blk W gS #[.int .i64 N, .slice fa LF fc, .slice ha LH hc] 25) := by unfold Hid; rw [hW, hgS]; exact Blk.new w _ _
  obtain ⟨LS, hLS⟩ : ∃ x, x = LH + LW := ⟨_, rfl⟩
  have hLSi : Hid ((LH : Int) + (LW : Int) = (LS : Int)) := by unfold Hid; omega
  clear hf hh hw hLF hLH hLW hFAR hM
  go_enter Try.func6, Try.ntmps6
  go_upto_region 1 with fail
  rw [← hgS, ← hW]
  clear hgS hW
  go_wp2_with fail
  refine (NM.out _ HBW.out).mono ?_; rintro e w1 ⟨aw, cw, rfl, hcw, ro1, b1⟩
  have HCW := Lib.hid hcw
  clear hcw
  have HB1 := Lib.hid (below_next b1 HBW.out)
  have HS1 := Lib.hid (HS.out.kept b1)
  have RO1 := Lib.hid ro1
  clear ro1 b1 NM HS HBW
  have s0 := HS1.out.cell 0
  have s1 := HS1.out.cell 1
  have s2 := HS1.out.cell 2
  simp at s0 s1 s2
  go_wp2_with fail
  refine (MN.out _ _ _).mono ?_; rintro e w2 ⟨rfl, b2⟩
  have HB2 := Lib.hid (below_next b2 HB1.out)
  have HS2 := Lib.hid (HS1.out.kept b2)
  have RO2 := Lib.hid (RO1.out.kept b2)
  clear b2 MN RO1 HS1 HB1 s0 s1 s2
  have s0 := HS2.out.cell 0
  have s1 := HS2.out.cell 1
  have s2 := HS2.out.cell 2
  simp at s0 s1 s2
  cases M with
  | true =>
    go_wp2_with fail
    refine (K.out _).mono ?_; rintro e w9 ⟨rfl, b9⟩
    have HB9 := below_next b9 HB2.out
    clear b9
    go_wp2_with fail
    go_ret
    exact ⟨rfl, HB9⟩
  | false =>
    obtain ⟨hm1, hm2, hm3⟩ : LF ≤ 1100 ∧ LH ≤ 500 ∧ LW ≤ 500 := by
      have h := HM.out
      unfold manyB at h
      have h2 := of_decide_eq_false h.symm
      omega
    have hLSb : LS ≤ 1000 := by omega
    have hw1 : IntKind.i64.wrap ((LH : Int) + (LW : Int)) = (LS : Int) := by rw [hLSi.out, IntKind.wrap_i64]; omega
    have hw2 : wrap64 ((LH : Int) + (LW : Int)) = (LS : Int) := by rw [hLSi.out]; unfold wrap64; omega
    have FR2 := Lib.hid (FR.out (by have := HLE.out.2.1; omega) w2 _ HB2.out RO2.out)
    clear FR
    by_cases hg : 300 < LS
    · have g1 : decide ((LS : Int) > 300) = true := decide_eq_true (by omega)
      have g2 : decide ((300 : Int) < (LS : Int)) = true := decide_eq_true (by omega)
      have g3 : decide (300 < LS) = true := decide_eq_true hg
      go_wp2_with fail
      refine (K.out _).mono ?_; rintro e w9 ⟨rfl, b9⟩
      have HB9 := below_next b9 HB2.out
      clear b9
      go_wp2_with fail
      go_ret
      exact ⟨rfl, HB9⟩
    · have g1 : decide ((LS : Int) > 300) = false := decide_eq_false (by omega)
      have g2 : decide ((300 : Int) < (LS : Int)) = false := decide_eq_false (by omega)
      have g3 : decide (300 < LS) = false := decide_eq_false hg
      go_wp2_with fail
      refine FR2.out.mono ?_; rintro e w3 ⟨rfl, b3⟩
      have HB3 := Lib.hid (below_next b3 HB2.out)
      have HS3 := Lib.hid (HS2.out.kept b3)
      have RO3 := Lib.hid (RO2.out.kept b3)
      clear b3 RO2 HS2 HB2 FR2 s0 s1 s2
      cases FAR with
      | true =>
        go_wp2_with fail
        refine (K.out _).mono ?_; rintro e w9 ⟨rfl, b9⟩
        have HB9 := below_next b9 HB3.out
        clear b9
        go_wp2_with fail
        go_ret
        exact ⟨rfl, HB9⟩
      | false =>
        have s0 := HS3.out.cell 0
        have s1 := HS3.out.cell 1
        have s2 := HS3.out.cell 2
        simp at s0 s1 s2
        have HPL := Lib.hid (PL.out w3 _ HB3.out RO3.out)
        clear PL g1 g2 g3 hw1 hw2
        go_wp2_with fail
        refine HPL.out.mono ?_; rintro e w4 ⟨v, rfl, ho, b4⟩
        obtain ⟨a4, c4, rfl⟩ := own_slice ho
        have HB4 := Lib.hid (below_next b4 HB3.out)
        clear ho b4 s0 s1 s2
        dsimp only [List.length]
        go_wp2_with fail
        refine (K.out _).mono ?_; rintro e w9 ⟨rfl, b9⟩
        have HB9 := below_next b9 HB4.out
        clear b9
        go_wp2_with fail
        go_ret
        exact ⟨rfl, HB9⟩
set_option maxRecDepth 100000 in
set_option maxHeartbeats 8000000 in
theorem yes_ (n : Nat) (fl : List Nat) (hl : List HeT) (vf vh vw : Value) (WL : List WaI) (WS : List (Nat × Nat × Nat)) (nw : Nat) (w : World) (hr : SRow w vf vh ⟨n, fl, hl⟩) (hw : WRow w vw WL) (hcc : ScOk ⟨n, fl, hl⟩) (hwl : WL.length ≤ 1000) (hWS : namedL WL = WS.map waN) (hw3 : WS.length ≤ 300) (hnw : nw ≤ 1099511627776) (hjj : ∀ x ∈ WS, 1 ≤ x.2.2 ∧ x.2.2 ≤ 1099511627776) :
    Calls Try.prog 6 #[.agg #[.int .i64 (n : Int), vf, vh], vw, .int .i64 (nw : Int)] w fun e w' => e = .returned (.bool true) ∧ Below w.heap.size w w' := by
  obtain ⟨S, hS⟩ : ∃ S, S = planL n fl nw 2 1 WS hl 1 false := ⟨_, rfl⟩
  have PL : Hid (∀ w1 v1, Below w.heap.size w w1 → WRow w1 v1 (namedL WL) → Calls Try.prog 24 #[.agg #[.int .i64 (n : Int), vf, vh], v1, .int .i64 (nw : Int)] w1 fun e w' => PlanTo w1.heap.size 0 S w1 e w') := fun w1 v1 h hv => by
    have P : PlanIn w1 vf vh v1 n fl hl WS nw := ⟨hr.kept h, by rw [← hWS]; exact hv, hcc, hw3, hnw, hjj⟩
    rw [hS]; exact P.easy
  have HPE : Hid (∀ m w1 v1, Below w.heap.size w w1 → WRow w1 v1 ((WS.take m).map waN) → Calls Try.prog 24 #[.agg #[.int .i64 (n : Int), vf, vh], v1, .int .i64 (nw : Int)] w1 fun e w' => PlanTo w1.heap.size 0 (planL n fl nw 2 1 (WS.take m) hl 1 false) w1 e w') := fun m w1 v1 h hv => by
    have P : PlanIn w1 vf vh v1 n fl hl (WS.take m) nw := ⟨hr.kept h, hv, hcc, by rw [List.length_take]; omega, hnw, fun x hx => hjj x (List.mem_of_mem_take hx)⟩
    exact P.easy
  have HAP : Hid (farB (hl.map heZ) (namedL WL) (nw : Int) = false → hl.length + WS.length ≤ 300 → ApOk n fl hl WS nw S) := fun hf hl3 => by
    obtain ⟨M, h1, h2, h3⟩ := far_end hf hWS hjj (fun h hh => (hcc.he h hh).2.2) hnw
    rw [hS]; exact ap_of (ws_named hWS) hl3 hjj h1 h2 h3
  obtain ⟨P, hP⟩ := head_of hS (ws_named hWS) (fun x hx => by rw [hS] at hx; exact ((planL_free n fl nw 2 1 WS hl 1 false).1 x hx).2.1)
  have HP := Lib.hid hP
  have HEO : Hid (∀ (c : Sc) (vf' vh' : Value) (q len t' s' : Nat) (w1 : World), ScOk c → SRow w1 vf' vh' c → q ≤ c.n → 1 ≤ len → len ≤ 1099511627776 → earlyC c q nw len = some (t', s') → Calls Try.prog 18 #[.agg #[.int .i64 (c.n : Int), vf', vh'], .int .i64 (q : Nat), .int .i64 (nw : Int), .int .i64 (len : Nat)] w1 fun e w' => e = .returned (.tuple #[.int .i64 (t' : Nat), .int .i64 (s' : Nat), .int .i64 0]) ∧ Below w1.heap.size w1 w') := fun c vf' vh' q len t' s' w1 h1 h2 h3 h4 h5 h6 => by
    have h := Earliest_ok vf' vh' c q nw len w1 h1 h2 h3 hnw h4 h5
    rw [earlyE_some h6] at h
    exact h
  have PLX : True := trivial
  clear hS hP
  have HNM := Lib.hid (ws_named hWS)
  have HWE : Hid (namedL WL = WS.map waN) := hWS
  have HC := Lib.hid hcc
  have HJ := Lib.hid hjj
  have hf := hr.f
  have hh := hr.h
  obtain ⟨FL, hFL⟩ : ∃ x, x = nsI fl := ⟨_, rfl⟩
  obtain ⟨HL, hHL⟩ : ∃ x, x = hl.map heZ := ⟨_, rfl⟩
  have hfl : FL.length ≤ maxLen := by rw [hFL, nsI_len]; have := fl_len hcc; dsimp only at this; unfold maxLen; omega
  have hhl : HL.length ≤ maxLen := by rw [hHL, List.length_map]; have := hcc.len; dsimp only at this; unfold maxLen; omega
  dsimp only at hf hh
  rw [← hFL] at hf
  rw [← hHL] at hh HAP
  have HFE : Hid (FL = nsI fl ∧ HL = hl.map heZ) := ⟨hFL, hHL⟩
  have hn10 : n ≤ 10 := hcc.n10
  clear hr hcc hWS hFL hHL hjj
  have K : Hid (∀ w1, Calls Try.prog 9 #[] w1 fun e w' => e = .returned (.bool true) ∧ Below w1.heap.size w1 w') := known15_any
  obtain ⟨LW, hLW⟩ : ∃ n, n = WL.length := ⟨_, rfl⟩
  have NM : Hid (∀ w1, Below w.heap.size w w1 → Calls Try.prog 20 #[vw] w1 fun e w' => ∃ a c, e = .returned (.slice a LW c) ∧ LW ≤ c ∧ WRow w' (.slice a LW c) (namedL WL) ∧ Below w1.heap.size w1 w') := fun w1 h => (named_any vw WL w1 (hw.kept h) hwl).mono fun e w' ⟨v, he, ho, hb⟩ => by
    have R := rowG_of_own (base := w1.heap.size) (e := 51) (s := 3) (enc := waI) (fun x => rfl) ho
    obtain ⟨a, c, rfl⟩ := own_slice ho
    have hcap := own_cap2 ho
    rw [namedL_len, ← hLW] at he R hcap
    exact ⟨a, c, he, hcap, R, hb⟩
  have FR : Hid (HL.length ≤ 1048576 → ∀ w1 v1, Below w.heap.size w w1 → WRow w1 v1 (namedL WL) → Calls Try.prog 21 #[.agg #[.int .i64 (n : Int), vf, vh], v1, .int .i64 (nw : Int)] w1 fun e w' => e = .returned (.bool (farB HL (namedL WL) (nw : Int))) ∧ Below w1.heap.size w1 w') := fun hh4 w1 v1 h hr => far_any (n : Int) (nw : Int) vf vh v1 FL HL (namedL WL) w1 (hf.kept h) (hh.kept h) hr hh4 (by rw [namedL_len]; omega)
  have HF := Lib.hid hf
  have HH := Lib.hid hh
  obtain ⟨fa, fc, rfl⟩ := hf.slice
  obtain ⟨ha, hc', rfl⟩ := hh.slice
  obtain ⟨LF, hLF⟩ : ∃ n, n = FL.length := ⟨_, rfl⟩
  obtain ⟨LH, hLH⟩ : ∃ n, n = HL.length := ⟨_, rfl⟩
  rw [← hLF] at FR HF PL hfl ⊢
  rw [← hLH] at FR HH PL hhl ⊢
  rw [← hLW] at hwl
  obtain ⟨FAR, hFAR⟩ : ∃ b, b = farB HL (namedL WL) (nw : Int) := ⟨_, rfl⟩
  rw [← hFAR] at FR
  have HFAR := Lib.hid hFAR
  have HLE : Hid (LF = FL.length ∧ LH = HL.length ∧ LW = WL.length) := ⟨hLF, hLH, hLW⟩
  unfold maxLen at hfl hhl
  have MN : Hid (∀ w1 a1 c1, Calls Try.prog 8 #[.agg #[.int .i64 (n : Int), .slice fa LF fc, .slice ha LH hc'], .slice a1 LW c1] w1 fun e w' => e = .returned (.bool (manyB (n : Int) LF LH LW)) ∧ Below w1.heap.size w1 w') := fun w1 a1 c1 => many_any (n : Int) fa ha a1 LF LH LW fc hc' c1 w1 (by omega) (by omega) (by omega)
  obtain ⟨M, hM⟩ : ∃ M, M = manyB (n : Int) LF LH LW := ⟨_, rfl⟩
  rw [← hM] at MN
  have HM : Hid (M = manyB (n : Int) LF LH LW) := hM
  obtain ⟨W, hW⟩ : ∃ W, W = w.alloc (.cells #[.int .i64 (n : Int), .slice fa LF fc, .slice ha LH hc'] 25) := ⟨_, rfl⟩
  obtain ⟨gS, hgS⟩ : ∃ g, g = w.heap.size := ⟨_, rfl⟩
  have HBW : Hid (Below w.heap.size w W) := by unfold Hid; rw [hW]; exact (Below.refl _ _).alloc (Nat.le_refl _) _
  have HS : Hid (Blk W gS #[.int .i64 (n : Int), .slice fa LF fc, .slice ha LH hc'] 25) := by unfold Hid; rw [hW, hgS]; exact Blk.new w _ _
  obtain ⟨LS, hLS⟩ : ∃ x, x = LH + LW := ⟨_, rfl⟩
  have hLSi : Hid ((LH : Int) + (LW : Int) = (LS : Int)) := by unfold Hid; omega
  clear hf hh hw hLF hLH hLW hFAR hM
  go_enter Try.func6, Try.ntmps6
  go_upto_region 1 with fail
  rw [← hgS, ← hW]
  clear hgS hW
  go_wp2_with fail
  refine (NM.out _ HBW.out).mono ?_; rintro e w1 ⟨aw, cw, rfl, hcw, ro1, b1⟩
  have HCW := Lib.hid hcw
  clear hcw
  have HB1 := Lib.hid (below_next b1 HBW.out)
  have HS1 := Lib.hid (HS.out.kept b1)
  have RO1 := Lib.hid ro1
  clear ro1 b1 NM HS HBW
  have s0 := HS1.out.cell 0
  have s1 := HS1.out.cell 1
  have s2 := HS1.out.cell 2
  simp at s0 s1 s2
  go_wp2_with fail
  refine (MN.out _ _ _).mono ?_; rintro e w2 ⟨rfl, b2⟩
  have HB2 := Lib.hid (below_next b2 HB1.out)
  have HS2 := Lib.hid (HS1.out.kept b2)
  have RO2 := Lib.hid (RO1.out.kept b2)
  clear b2 MN RO1 HS1 HB1 s0 s1 s2
  have s0 := HS2.out.cell 0
  have s1 := HS2.out.cell 1
  have s2 := HS2.out.cell 2
  simp at s0 s1 s2
  cases M with
  | true =>
    go_wp2_with fail
    refine (K.out _).mono ?_; rintro e w9 ⟨rfl, b9⟩
    have HB9 := below_next b9 HB2.out
    clear b9
    go_wp2_with fail
    go_ret
    exact ⟨rfl, HB9⟩
  | false =>
    obtain ⟨hm1, hm2, hm3⟩ : LF ≤ 1100 ∧ LH ≤ 500 ∧ LW ≤ 500 := by
      have h := HM.out
      unfold manyB at h
      have h2 := of_decide_eq_false h.symm
      omega
    have hLSb : LS ≤ 1000 := by omega
    have hw1 : IntKind.i64.wrap ((LH : Int) + (LW : Int)) = (LS : Int) := by rw [hLSi.out, IntKind.wrap_i64]; omega
    have hw2 : wrap64 ((LH : Int) + (LW : Int)) = (LS : Int) := by rw [hLSi.out]; unfold wrap64; omega
    have FR2 := Lib.hid (FR.out (by have := HLE.out.2.1; omega) w2 _ HB2.out RO2.out)
    clear FR
    by_cases hg : 300 < LS
    · have g1 : decide ((LS : Int) > 300) = true := decide_eq_true (by omega)
      have g2 : decide ((300 : Int) < (LS : Int)) = true := decide_eq_true (by omega)
      have g3 : decide (300 < LS) = true := decide_eq_true hg
      go_wp2_with fail
      refine (K.out _).mono ?_; rintro e w9 ⟨rfl, b9⟩
      have HB9 := below_next b9 HB2.out
      clear b9
      go_wp2_with fail
      go_ret
      exact ⟨rfl, HB9⟩
    · have g1 : decide ((LS : Int) > 300) = false := decide_eq_false (by omega)
      have g2 : decide ((300 : Int) < (LS : Int)) = false := decide_eq_false (by omega)
      have g3 : decide (300 < LS) = false := decide_eq_false hg
      go_wp2_with fail
      refine FR2.out.mono ?_; rintro e w3 ⟨rfl, b3⟩
      have HB3 := Lib.hid (below_next b3 HB2.out)
      have HS3 := Lib.hid (HS2.out.kept b3)
      have RO3 := Lib.hid (RO2.out.kept b3)
      clear b3 RO2 HS2 HB2 FR2 s0 s1 s2
      cases FAR with
      | true =>
        go_wp2_with fail
        refine (K.out _).mono ?_; rintro e w9 ⟨rfl, b9⟩
        have HB9 := below_next b9 HB3.out
        clear b9
        go_wp2_with fail
        go_ret
        exact ⟨rfl, HB9⟩
      | false =>
        have s0 := HS3.out.cell 0
        have s1 := HS3.out.cell 1
        have s2 := HS3.out.cell 2
        simp at s0 s1 s2
        have HPL := Lib.hid (PL.out w3 _ HB3.out RO3.out)
        clear PL g1 g2 g3 hw1 hw2
        go_wp2_with fail
        refine HPL.out.mono ?_; rintro e w4 ⟨v, rfl, ho, b4⟩
        obtain ⟨aS, cS, rfl⟩ := own_slice ho
        have HB4 := Lib.hid (below_next b4 HB3.out)
        have HS4 := Lib.hid (HS3.out.kept b4)
        have RO4 : Hid (WRow w4 (.slice aw LW cw) (WS.map waN)) := by
          have h := RO3.out.kept b4
          rw [HWE.out] at h
          exact h
        have RS4 := Lib.hid (srow_of_own ho)
        obtain ⟨LL, hLL⟩ : ∃ x, x = S.length := ⟨_, rfl⟩
        rw [← hLL] at RS4 ⊢
        have HLL := Lib.hid hLL
        have AP := Lib.hid (HAP.out HFAR.out.symm (by have h1 := HLE.out.2.1; have h2 := HLE.out.2.2; have h3 := congrArg List.length HWE.out; rw [namedL_len, List.length_map] at h3; have h4 := HFE.out.2; rw [h4, List.length_map] at h1; omega))
        have hLL3 : LL ≤ 300 := by have := AP.out.len; have := HLL.out; omega

        have HPL2 : Hid (P ≤ LL) := by have h := HP.out.le; have := HLL.out; unfold Hid; omega
        have hPL := HPL2.out
        have HCS : Hid (LL ≤ cS) := by have h := own_cap2 ho; have := HLL.out; unfold Hid; omega
        clear ho b4 s0 s1 s2 HPL HB3 HS3 RO3 hLL HAP PLX
        go_wp2_with fail
        go_loopw [9, 10] (fun hv iv wr => ∃ (k : Nat) (Hd : Int), k ≤ LL ∧ iv = .int .i64 k ∧ hv = .int .i64 Hd ∧ ((k ≤ P ∧ Hd = -1) ∨ (P < k ∧ Hd = (P : Int))) ∧ Hid (wr = w4)) (fun _ iv _ => LL - (RowKit.intOf iv).toNat)
        case atStart => exact ⟨0, -1, Nat.zero_le _, rfl, rfl, .inl ⟨Nat.zero_le _, rfl⟩, rfl⟩
        case round =>
          obtain ⟨k, Hd, hk, rfl, rfl, hHd, hwr⟩ := hrel
          replace hwr := hwr.out
          subst hwr
          by_cases hlt : k < LL
          · have hd : decide (k < LL) = true := decide_eq_true hlt
            have hki : (k : Int) < (LL : Int) := by omega
            have hkl : k < S.length := by rw [← HLL.out]; exact hlt
            cases aS with
            | none => have h := rowG_nil RS4.out; have h2 := congrArg List.length h; rw [List.length_map] at h2; simp at h2; rw [h2] at hkl; simp at hkl
            | some A =>
            obtain ⟨bb, off, rfl⟩ := srow_some RS4.out (by rw [List.length_map]; omega)
            have c3 := (slI_cells RS4.out (by rw [List.length_map]; exact hkl) (Below.refl _ _)).2.2.2
            rw [List.getElem_map] at c3
            have hat := HP.out.at_ k hkl
            have hge := (AP.out.free _ (List.getElem_mem hkl)).2.1
            unfold slZ at c3
            dsimp only at c3
            obtain ⟨t, ht⟩ : ∃ x, x = S[k].2.2.2.1 := ⟨_, rfl⟩
            rw [← ht] at c3 hat hge
            clear ht hkl
            by_cases hkP : k = P
            · have hlt2 : nw < t := hat.2 hkP
              have g1 : decide ((t : Int) > (nw : Int)) = true := decide_eq_true (by omega)
              have g1' : decide ((nw : Int) < (t : Int)) = true := decide_eq_true (by omega)
              have g1'' : decide (nw < t) = true := decide_eq_true (by omega)
              have q1 : decide (Hd ≥ 0) = false := decide_eq_false (by omega)
              have q2 : decide ((0 : Int) ≤ Hd) = false := decide_eq_false (by omega)
              have q3 : Hd < 0 := by omega
              have HKP : Hid (k = P) := hkP
              clear hat hHd hkP
              go_wp2_with fail
              go_roundw
              case rel => exact ⟨k + 1, (k : Int), hlt, by go_num, rfl, .inr ⟨by have := HKP.out; omega, by have := HKP.out; omega⟩, trivial⟩
              case measure => simp [RowKit.intOf]; omega
            · have hlt2 : ¬ nw < t := fun h => hkP (hat.1 h)
              have g1 : decide ((t : Int) > (nw : Int)) = false := decide_eq_false (by omega)
              have g1' : decide ((nw : Int) < (t : Int)) = false := decide_eq_false (by omega)
              have g1'' : decide (nw < t) = false := decide_eq_false (by omega)
              have hHd2 : (k + 1 ≤ P ∧ Hd = -1) ∨ (P < k + 1 ∧ Hd = (P : Int)) := by omega
              clear hat hHd
              go_wp2_with fail
              go_roundw
              case rel => exact ⟨k + 1, Hd, hlt, by go_num, rfl, hHd2, trivial⟩
              case measure => simp [RowKit.intOf]; omega
          · obtain rfl : k = LL := by omega
            have hd : decide (k < k) = false := decide_eq_false hlt
            have hki : ¬ (k : Int) < (k : Int) := by omega
            by_cases hPk : P = k
            · obtain rfl : Hd = -1 := by omega
              clear hHd
              go_wp2_with fail
              refine (K.out _).mono ?_; rintro e w9 ⟨rfl, b9⟩
              have HB9 := below_next b9 HB4.out
              clear b9
              go_wp2_with fail
              go_ret
              exact ⟨rfl, HB9⟩
            · have hPk2 : P < k := by omega
              obtain rfl : Hd = (P : Int) := by omega
              have g0 : decide ((P : Int) < 0) = false := decide_eq_false (by omega)
              clear hHd
              go_upto_region 17 with fail
              have hPS : P < S.length := by have := HLL.out; omega
              obtain ⟨hidw, hpre⟩ := HP.out.pre hPS
              have hposid := AP.out.pos hPS
              obtain ⟨hfree, t1, s1', hearly, ht1⟩ := head_free AP.out hPS
              have hblk := (AP.out.free _ (List.getElem_mem hPS)).1
              have hnt := (AP.out.free _ (List.getElem_mem hPS)).2.1
              have hfin := AP.out.fin _ (List.getElem_mem hPS)
              have hlenb : S[P].2.2.2.2 ≤ 1099511627776 := by
                obtain ⟨j', hj', _⟩ := AP.out.job _ (List.getElem_mem hPS)
                exact (HJ.out _ (List.mem_of_getElem? hj')).2
              obtain ⟨j, hj1, hj2⟩ := AP.out.want HNM.out hPS
              have HWT : ∀ w1, Below wr.heap.size wr w1 → _ := fun w1 hb => want_any (.slice aw LW cw) (WS.map waN) j (waN (jobOf S[P])) (S[P].1 : Nat) (S[P].2.1 : Nat) (S[P].2.2.1 : Nat) (S[P].2.2.2.1 : Nat) w1 (RO4.out.kept hb) (by rw [List.length_map]; omega) hj1 rfl rfl hj2
              cases aS with
              | none => have h := rowG_nil RS4.out; have h2 := congrArg List.length h; rw [List.length_map] at h2; simp at h2; rw [h2] at hPS; simp at hPS
              | some A =>
              obtain ⟨bb, off, rfl⟩ := srow_some RS4.out (by rw [List.length_map]; omega)
              have HCL : Hid (∀ w1, Below wr.heap.size wr w1 → _) := fun w1 hb => slI_cells RS4.out (k := P) (by rw [List.length_map]; exact hPS) hb
              simp only [List.getElem_map] at HCL
              obtain ⟨x, hx⟩ : ∃ x, x = S[P] := ⟨_, rfl⟩
              rw [← hx] at hidw hpre hposid hfree hearly ht1 hblk hnt hfin hlenb HWT HCL
              clear hx hj1 hj2
              obtain ⟨id, s, q0, t, len⟩ := x
              unfold slZ at HCL
              dsimp only [jobOf, waN, heOf] at hidw hpre hposid hfree hearly ht1 hblk hnt hfin hlenb HWT HCL
              have HW7 := Lib.hid HWT
              have hend : t + len ≤ 4398046511104 := hfin.1
              have hlen1 := hfin.2
              have hid500 : id ≤ LW := by have h := HLE.out.2.2; have h3 := congrArg List.length HWE.out; rw [namedL_len, List.length_map] at h3; omega
              cases aw with
              | none =>
                exfalso
                have hz := congrArg List.length (rowG_nil RO4.out)
                rw [List.length_map, List.length_nil] at hz
                have hz2 := HWE.out
                have hz3 := congrArg List.length hz2
                rw [namedL_len, List.length_map] at hz3
                have hz4 := HLE.out.2.2
                omega
              | some AW =>
              have HPE2 : Hid (∀ w', Below wr.heap.size wr w' → Calls Try.prog 24 #[.agg #[.int .i64 (n : Int), .slice fa LF fc, .slice ha LH hc'], .slice (some AW) id cw, .int .i64 (nw : Int)] w' fun e w'' => PlanTo w'.heap.size 0 (S.take (P + 1)) w' e w'') := fun w' hb => by
                have hrow := rowG_take (k := id) (RO4.out.kept hb) (by rw [List.length_map]; exact hidw) cw
                rw [← List.map_take] at hrow
                have h := HPE.out id w' _ (below_next hb HB4.out) hrow
                rw [hpre] at h
                rw [HLE.out.1, HLE.out.2.1]
                exact h
              have HEARLY := Lib.hid hearly
              have HBK := Lib.hid hblk
              have HFE2 := Lib.hid hfree
              obtain ⟨LP, hLP⟩ : ∃ x, x = P + 1 := ⟨_, rfl⟩
              have hLPi : Hid ((P : Int) + 1 = (LP : Int)) := by unfold Hid; omega
              have HLP : Hid ((S.take (P + 1)).length = LP) := by unfold Hid; rw [List.length_take, hLP]; omega
              have hLPL : LP ≤ k := by omega
              have HPS : Hid (P < S.length) := hPS
              clear hearly hblk hfree hpre hidw hfin HPE hLP hPS HWT
              have hcwk := HCW.out
              have hi1 : (0 : Int) ≤ (id : Int) := by omega
              have hi2 : (id : Int) ≤ (cw : Int) := by omega
              have hi3 : id ≤ cw := by omega
              have s0 := HS4.out.cell 0
              have s1 := HS4.out.cell 1
              have s2 := HS4.out.cell 2
              have c0 := (HCL.out wr (Below.refl _ _)).1
              simp at s0 s1 s2
              go_cut [11, 12] (fun vb ve wx => ∃ ab cb, vb = .slice ab LP cb ∧ ve = .int .i64 0 ∧ Hid (SRowI wx (.slice ab LP cb) ((S.take (P + 1)).map slZ)) ∧ Hid (Below wr.heap.size wr wx))
              case first =>
                go_region_held3 (fun w' => w'.cell? ⟨bb, off + P * 4, none⟩ = some (.int .u32 (id : Nat)) ∧ w'.cell? ⟨gS, 0, none⟩ = some (.int .i64 (n : Int)) ∧ w'.cell? ⟨gS, 1, none⟩ = some (.slice fa LF fc) ∧ w'.cell? ⟨gS, 2, none⟩ = some (.slice ha LH hc') ∧ Below wr.heap.size wr w')
                  (first
                    | exact ⟨c0, s0, s1, s2, Below.refl _ _⟩
                    | exact ⟨c0, s0, s1, s2, (Below.refl _ _).drew⟩
                    | (rcases ‹_ ∧ _ ∧ _ ∧ _ ∧ Below wr.heap.size _ _› with ⟨q0, q1, q2, q3, q8⟩; exact ⟨cell_next (by assumption) q0, cell_next (by assumption) q1, cell_next (by assumption) q2, cell_next (by assumption) q3, below_next (by assumption) q8⟩))
                  (first
                    | (go_at_call 24; ((with_reducible refine (HPE2.out _ (‹_ ∧ _ ∧ _ ∧ _ ∧ Below wr.heap.size wr _›).2.2.2.2).mono ?_); rintro e w5 ⟨vb, rfl, ob, b5⟩; obtain ⟨ab, cb, rfl⟩ := own_slice ob; have RB := Lib.hid (srow_of_own ob); rw [HLP.out] at RB; rw [HLP.out])))
                go_wp2_with fail
                go_meet
                exact ⟨_, _, rfl, rfl, ‹Hid (SRowI _ _ _)›, (‹_ ∧ _ ∧ _ ∧ _ ∧ Below wr.heap.size wr _›).2.2.2.2⟩
              case rest =>
                obtain ⟨ab, cb, rfl, rfl, RB, hbw⟩ := hcut
                have HBw1 := Lib.hid hbw.out
                have HSc := Lib.hid (HS4.out.kept hbw.out)
                have RSc : Hid (SRowI wc (.slice (some ⟨bb, off, none⟩) LP cS) ((S.take (P + 1)).map slZ)) := by
                  have h := rowG_take (RS4.out.kept hbw.out) (k := P + 1) (by rw [List.length_map]; have := HPS.out; omega) cS
                  have hl := HLP.out
                  rw [List.length_take] at hl
                  have e : P + 1 = LP := by have := HPS.out; omega
                  rw [List.map_take]
                  rw [← e]
                  exact h
                have SM : Hid (Calls Try.prog 25 #[.slice ab LP cb, .slice (some ⟨bb, off, none⟩) LP cS] wc fun e w'' => e = .returned (.bool true) ∧ Below wc.heap.size wc w'') := by
                  have h := same_any _ _ _ _ wc RB.out RSc.out (by rw [List.length_map, HLP.out]; omega) (by rw [List.length_map, HLP.out]; omega)
                  rwa [decide_eq_true rfl] at h
                have hcs := HCS.out
                have hl1 : (0 : Int) ≤ (LP : Int) := by omega
                have hl2 : (LP : Int) ≤ (cS : Int) := by omega
                have hl3 : LP ≤ cS := by omega
                have hLPj := hLPi.out
                clear hbw s0 s1 s2 c0 RB RSc hi1 hi2 hi3
                go_wp2_with fail
                refine SM.out.mono ?_; rintro e wA ⟨rfl, b8⟩
                have HBwA : Hid (Below wr.heap.size wr wA) := below_next b8 HBw1.out
                have HSA := Lib.hid (HSc.out.kept b8)
                have HBA := Lib.hid (below_next HBwA.out HB4.out)
                clear b8 SM HSc HBw1 hl1 hl2 hl3 hLPj
                have CP : Hid (Calls Try.prog 10 #[.agg #[.int .i64 (n : Int), .slice fa LF fc, .slice ha LH hc']] wA fun e w' => ∃ aF cF aH cH, e = .returned (.agg #[.int .i64 (n : Int), .slice aF LF cF, .slice aH LH cH]) ∧ w'.ownsRow wA.heap.size 3 1 (.slice aF LF cF) LF (numsL FL) ∧ w'.ownsRow wA.heap.size 57 4 (.slice aH LH cH) LH (HL.flatMap heI) ∧ Below wA.heap.size wA w') := by
                  refine (copied_any (n : Int) _ _ FL HL wA (HF.out.kept HBA.out) (HH.out.kept HBA.out) (by have := HLE.out.1; omega) (by have := HLE.out.2.1; omega)).mono ?_
                  rintro e w' ⟨vF, vH, rfl, oF, oH, _, hb⟩
                  obtain ⟨aF, cF, rfl⟩ := own_slice oF
                  obtain ⟨aH, cH, rfl⟩ := own_slice oH
                  dsimp only [NOwn, HOwnI] at oF oH
                  rw [← HLE.out.1] at oF
                  rw [← HLE.out.2.1] at oH
                  exact ⟨aF, cF, aH, cH, by rw [← HLE.out.1, ← HLE.out.2.1], oF, oH, hb⟩
                have s0 := HSA.out.cell 0
                have s1 := HSA.out.cell 1
                have s2 := HSA.out.cell 2
                simp at s0 s1 s2
                go_wp2_with fail
                refine CP.out.mono ?_; rintro e w5 ⟨aF, cF, aH, cH, rfl, oF, oH, b5⟩
                obtain ⟨gX, hgX⟩ : ∃ g, g = w5.heap.size := ⟨_, rfl⟩
                obtain ⟨W6, hW6⟩ : ∃ x, x = w5.alloc (.cells #[.int .i64 (n : Int), .slice aF LF cF, .slice aH LH cH] 25) := ⟨_, rfl⟩
                have HXA : Hid (XAt wA W6 gX n (.slice aF LF cF) fl aH cH (LH + cntL P 0) (hl ++ (othL S P 0).map heOf)) := by
                  have hb6 : Below w5.heap.size w5 W6 := by rw [hW6]; exact (Below.refl _ _).alloc (Nat.le_refl _) _
                  have e : hl ++ (othL S P 0).map heOf = hl := by rw [othL_zero]; simp
                  have e0 : LH + cntL P 0 = LH := by unfold cntL; simp
                  rw [e0]
                  have e1 := HLE.out.1
                  have e2 := HLE.out.2.1
                  have e3 := HFE.out.1
                  have e4 := HFE.out.2
                  have eF : LF = fl.length := by rw [e1, e3, nsI_len]
                  have eH : heF hl = HL.flatMap heI := by rw [e4]; rfl
                  refine ⟨by rw [hW6, hgX]; exact Blk.new _ _ _, ?_, ?_, fun e => by have := (own_ge oF e).2; omega, fun e => by have := (own_ge oH e).2; omega, by rw [hgX]; exact b5.size, below_next hb6 b5, by rw [e, e2, e4, List.length_map]⟩
                  · have h := own_older oF hb6
                    rw [e3] at h
                    rw [← eF]; exact h
                  · rw [e, eH]; exact own_older oH hb6
                clear b5 oF oH CP s0 s1 s2 HSA
                go_upto_region 21 with fail
                rw [← hW6, ← hgX]
                clear hW6 hgX
                obtain ⟨wQ, hwQ⟩ : ∃ x, x = wr := ⟨_, rfl⟩
                subst hwQ
                go_wp2_with fail
                go_loopw [14] (fun iv wx => ∃ (i : Nat) (a : Option Addr) (c : Nat), i ≤ k ∧ iv = .int .i64 i ∧ Hid (XAt wA wx gX n (.slice aF LF cF) fl a c (LH + cntL P i) (hl ++ (othL S P i).map heOf))) (fun iv _ => k - (RowKit.intOf iv).toNat)
                case atStart => exact ⟨0, aH, cH, Nat.zero_le _, rfl, HXA⟩
                case round =>
                  clear HXA
                  obtain ⟨i, aX, cX, hi, rfl, HX⟩ := hrel
                  have hXw : Hid (Below wQ.heap.size wQ wr) := below_next HX.out.b HBwA.out
                  have hcn : cntL P i ≤ i := by unfold cntL; split <;> omega
                  by_cases hlt : i < k
                  · have hd : decide (i < k) = true := decide_eq_true hlt
                    have hki : (i : Int) < (k : Int) := by omega
                    have hkl : i < S.length := by rw [← HLL.out]; exact hlt
                    obtain ⟨c0, c1, c2, c3⟩ := slI_cells RS4.out (by rw [List.length_map]; exact hkl) hXw.out
                    rw [List.getElem_map] at c0 c1 c2 c3
                    obtain ⟨j, hj1, hj2⟩ := AP.out.want HNM.out hkl
                    have HWT := want_any (.slice (some AW) LW cw) (WS.map waN) j (waN (jobOf S[i])) (S[i].1 : Nat) (S[i].2.1 : Nat) (S[i].2.2.1 : Nat) (S[i].2.2.2.1 : Nat) wr (RO4.out.kept hXw.out) (by rw [List.length_map]; omega) hj1 rfl rfl hj2
                    have hfin2 := (AP.out.fin _ (List.getElem_mem hkl)).1
                    have HTN : Hid (i ≠ P → hl ++ (othL S P (i + 1)).map heOf = (hl ++ (othL S P i).map heOf) ++ [heOf S[i]]) := fun h => by rw [othL_other hkl h, List.map_append, List.append_assoc]; rfl
                    have HTH : Hid (i = P → othL S P (i + 1) = othL S P i ∧ cntL P (i + 1) = cntL P i) := fun h => by subst h; exact ⟨othL_head hkl, cntL_head _⟩
                    obtain ⟨x, hx⟩ : ∃ x, x = S[i] := ⟨_, rfl⟩
                    rw [← hx] at c0 c1 c2 c3 HWT hfin2 HTN
                    clear hx hkl hj1 hj2
                    obtain ⟨id2, s, q0, t, len⟩ := x
                    unfold slZ at c0 c1 c2 c3
                    dsimp only [jobOf, waN, heOf] at c0 c1 c2 c3 HWT hfin2 HTN
                    have HW8 := Lib.hid HWT
                    have hend : t + len ≤ 4398046511104 := hfin2
                    clear HWT hfin2
                    go_wp2_with fail
                    refine HW8.out.mono ?_; rintro e w7 ⟨rfl, b7⟩
                    obtain ⟨gT, hgT⟩ : ∃ g, g = w7.heap.size := ⟨_, rfl⟩
                    obtain ⟨wc, hwc⟩ : ∃ x, x = w7.alloc (.cells #[.int .u32 (id2 : Nat), .int .i64 (q0 : Nat), .int .i64 (len : Nat)] 51) := ⟨_, rfl⟩
                    have hb8 : Below wr.heap.size wr wc := by rw [hwc]; exact b7.alloc b7.size _
                    have HTc : Blk wc gT #[.int .u32 (id2 : Nat), .int .i64 (q0 : Nat), .int .i64 (len : Nat)] 51 := by rw [hwc, hgT]; exact Blk.new _ _ _
                    have HXc := Lib.hid (HX.out.kept hb8)
                    have HGT : Hid (gX ≠ gT ∧ ∀ g, (Value.slice aX (LH + cntL P i) cX).ownBlock = some g → g ≠ gT) := by
                      have h1 := HX.out.x.lt
                      have h2 := b7.size
                      refine ⟨by omega, fun g hg => ?_⟩
                      have := (own_ge HX.out.h hg).2
                      omega
                    have HBB : Hid (bb < wA.heap.size) := by
                      have h := World.block_lt_of_cell? wQ _ (HCL.out wQ (Below.refl _ _)).1
                      have h2 := HBwA.out.size
                      unfold Hid
                      exact Nat.lt_of_lt_of_le h h2
                    replace c1 := cell_next hb8 c1
                    replace c2 := cell_next hb8 c2
                    replace c3 := cell_next hb8 c3
                    have x2 := HXc.out.x.cell 2
                    have t2 := HTc.cell 2
                    simp at x2 t2
                    have hEi : (t : Int) + (len : Int) = ((t + len : Nat) : Int) := by push_cast; rfl
                    obtain ⟨E, hE⟩ : ∃ x, x = t + len := ⟨_, rfl⟩
                    rw [← hE] at HTN hEi hend
                    dsimp only
                    clear b7 HW8 HX c0 HTc hE
                    go_upto_region 25 with fail
                    rw [← hwc, ← hgT]
                    clear hwc hgT hb8
                    by_cases hne : i = P
                    · have q1 : ((i : Int) != (P : Int)) = false := by rw [hne]; simp
                      have q2 : (i != P) = false := by rw [hne]; simp
                      have HTH2 := Lib.hid (HTH.out hne)
                      have HNE : Hid (i = P) := hne
                      clear hne HTN HTH c1 c2 c3 x2 t2 hEi
                      go_wp2_with fail
                      go_roundw
                      case rel => exact ⟨i + 1, aX, cX, hlt, by go_num, by (rw [HTH2.out.1, HTH2.out.2]; exact HXc)⟩
                      case measure => simp [RowKit.intOf]; omega
                    · have q1 : ((i : Int) != (P : Int)) = true := by simp; omega
                      have q2 : (i != P) = true := by simpa using hne
                      have HTN2 := Lib.hid (HTN.out hne)
                      have HCN := Lib.hid (cntL_other hne)
                      clear HTN HTH
                      go_upto_region 26 with fail
                      obtain ⟨i1, hi1, hy0, hy1, hy2⟩ := info_parts Try.infoIHeld
                      have hal : ∀ q C ty, Below wc.heap.size wc ((wc.drewN q).alloc (.cells C ty)) := fun q C ty => (below_drewN (Below.refl _ _) q).alloc (Nat.le_refl _) _
                      have hbl1 : ∀ q C ty, ((wc.drewN q).alloc (.cells C ty)).cell? ⟨bb, off + i * 4 + 1, none⟩ = some (.int .i64 (s : Nat)) := fun q C ty => cell_next (w2 := (wc.drewN q).alloc (.cells C ty)) (hal q C ty) c1
                      have hbl2 : ∀ q C ty, ((wc.drewN q).alloc (.cells C ty)).cell? ⟨bb, off + i * 4 + 2, none⟩ = some (.int .i64 (q0 : Nat)) := fun q C ty => cell_next (w2 := (wc.drewN q).alloc (.cells C ty)) (hal q C ty) c2
                      have hbl3 : ∀ q C ty, ((wc.drewN q).alloc (.cells C ty)).cell? ⟨bb, off + i * 4 + 3, none⟩ = some (.int .i64 (t : Nat)) := fun q C ty => cell_next (w2 := (wc.drewN q).alloc (.cells C ty)) (hal q C ty) c3
                      have hbl4 : ∀ q C ty, ((wc.drewN q).alloc (.cells C ty)).cell? ⟨gT, 2, none⟩ = some (.int .i64 (len : Nat)) := fun q C ty => cell_next (w2 := (wc.drewN q).alloc (.cells C ty)) (hal q C ty) t2
                      have hbl5 : ∀ q C ty, ((wc.drewN q).alloc (.cells C ty)).cell? ⟨gX, 2, none⟩ = some (.slice aX (LH + cntL P i) cX) := fun q C ty => cell_next (w2 := (wc.drewN q).alloc (.cells C ty)) (hal q C ty) x2
                      have hbl6 : ∀ C ty, (wc.alloc (.cells C ty)).cell? ⟨gX, 2, none⟩ = some (.slice aX (LH + cntL P i) cX) := fun C ty => hbl5 0 C ty
                      have hEw : IntKind.i64.wrap (E : Int) = (E : Int) := by rw [IntKind.wrap_i64]; omega
                      have hne1 : gX ≠ bb := fun e => by have h1 := HBB.out; have h2 := HXc.out.lo; rw [e] at h2; exact Nat.lt_irrefl _ (Nat.lt_of_lt_of_le h1 h2)
                      have hne2 : gX ≠ gT := HGT.out.1
                      have hOX := HXc.out.h
                      have hwAc := HXc.out.b.size
                      have hLHk : LH + cntL P i ≤ 800 := by omega
                      have APP : Hid (∀ (X w8 : World) (g8 cap8 : Nat), Below wc.heap.size wc X → wc.heap.size < X.heap.size → w8.ownsRow wA.heap.size 57 4 (.slice (some ⟨g8, 0, none⟩) (LH + cntL P i + 1) cap8) (LH + cntL P i + 1) (heF (hl ++ (othL S P i).map heOf) ++ heI (heZ (s, q0, t, E))) → X.grownBy w8 (Value.slice aX (LH + cntL P i) cX).ownBlock → ((Value.slice aX (LH + cntL P i) cX).ownBlock = some g8 ∨ g8 = wc.heap.size + 1) →
                          (w8.cell? ⟨bb, off + i * 4 + 1, none⟩ = some (.int .i64 (s : Nat)) ∧ w8.cell? ⟨bb, off + i * 4 + 2, none⟩ = some (.int .i64 (q0 : Nat)) ∧ w8.cell? ⟨bb, off + i * 4 + 3, none⟩ = some (.int .i64 (t : Nat)) ∧ w8.cell? ⟨gT, 2, none⟩ = some (.int .i64 (len : Nat))) ∧ (w8.cell? ⟨gX, 2, none⟩ = some (.slice aX (LH + cntL P i) cX) ∧ w8.frozen? ⟨gX, 2, none⟩ = false) ∧
                          Hid (XAt wA (w8.setCell ⟨gX, 2, none⟩ (.slice (some ⟨g8, 0, none⟩) (LH + cntL P i + 1) cap8)) gX n (.slice aF LF cF) fl (some ⟨g8, 0, none⟩) cap8 (LH + cntL P i + 1) (hl ++ (othL S P i).map heOf ++ [(s, q0, t, E)]))) := fun X w8 g8 cap8 h1 h2 h3 h4 h5 =>
                        ⟨⟨HXc.out.far h1 h4 c1 (HXc.out.old HBB.out), HXc.out.far h1 h4 c2 (HXc.out.old HBB.out), HXc.out.far h1 h4 c3 (HXc.out.old HBB.out), HXc.out.far h1 h4 t2 HGT.out.2⟩, HXc.out.app h1 h2 h3 h4 h5⟩
                      refine wp_region_held_drew (S := (fun w' => w'.cell? ⟨bb, off + i * 4 + 1, none⟩ = some (.int .i64 (s : Nat)) ∧ w'.cell? ⟨bb, off + i * 4 + 2, none⟩ = some (.int .i64 (q0 : Nat)) ∧ w'.cell? ⟨bb, off + i * 4 + 3, none⟩ = some (.int .i64 (t : Nat)) ∧ w'.cell? ⟨gT, 2, none⟩ = some (.int .i64 (len : Nat)))) (by kernel_rfl) (by
                        first
                          | exact ⟨c1, c2, c3, t2⟩
                          | exact ⟨hbl1 _ _ _, hbl2 _ _ _, hbl3 _ _ _, hbl4 _ _ _⟩
                          | exact ⟨hbl1 0 _ _, hbl2 0 _ _, hbl3 0 _ _, hbl4 0 _ _⟩
                          | exact ⟨hbl1 1 _ _, hbl2 1 _ _, hbl3 1 _ _, hbl4 1 _ _⟩
                          | exact ⟨by assumption, by assumption, by assumption, by assumption⟩
                          | exact ⟨(World.cell?_setCell_far _ _ _ _ hne1).trans (by assumption), (World.cell?_setCell_far _ _ _ _ hne1).trans (by assumption), (World.cell?_setCell_far _ _ _ _ hne1).trans (by assumption), (World.cell?_setCell_far _ _ _ _ hne2).trans (by assumption)⟩
                        ) (fun hHeld => ?_)
                      refine wpAnyH_take (i := 0) (oi := { dst := some 116, op := Op.fieldAddr 25 (Operand.tmp 13) 2, type := 0, pos := "law.go:193", after := #[], guard := none }) (v := ?_) rfl (by kernel_rfl) (by kernel_rfl) (by kernel_rfl) (fun _ _ _ h => h) (Or.inl ⟨by kernel_rfl, ?_⟩) (by assumption) ?_
                      rotate_left
                      · (intro w hSw; (try dsimp only at hSw); go_simp; try with_reducible rfl)
                      try simp only [Act.put, List.setIfInBounds_toArray, List.set_cons_zero, List.set_cons_succ]
                      refine wpAnyH_take (i := 2) (oi := { dst := some 118, op := Op.move (Operand.tmp 7), type := 46, pos := "law.go:193", after := #[], guard := none }) (v := ?_) rfl (by kernel_rfl) (by kernel_rfl) (by kernel_rfl) (fun _ _ _ h => h) (Or.inl ⟨by kernel_rfl, ?_⟩) (by assumption) ?_
                      rotate_left
                      · (intro w hSw; (try dsimp only at hSw); go_simp; try with_reducible rfl)
                      try simp only [Act.put, List.setIfInBounds_toArray, List.set_cons_zero, List.set_cons_succ]
                      refine wpAnyH_take (i := 3) (oi := { dst := some 119, op := Op.move (Operand.tmp 14), type := 3, pos := "law.go:193", after := #[], guard := none }) (v := ?_) rfl (by kernel_rfl) (by kernel_rfl) (by kernel_rfl) (fun _ _ _ h => h) (Or.inl ⟨by kernel_rfl, ?_⟩) (by assumption) ?_
                      rotate_left
                      · (intro w hSw; (try dsimp only at hSw); go_simp; try with_reducible rfl)
                      try simp only [Act.put, List.setIfInBounds_toArray, List.set_cons_zero, List.set_cons_succ]
                      refine wpAnyH_take (i := 4) (oi := { dst := some 120, op := Op.indexAddr 46 (Operand.tmp 118) (Operand.tmp 119), type := 0, pos := "law.go:193", after := #[{ on := 2, ground := Ground.data }, { on := 3, ground := Ground.data }], guard := none }) (v := ?_) rfl (by kernel_rfl) (by kernel_rfl) (by kernel_rfl) (fun _ _ _ h => h) (Or.inl ⟨by kernel_rfl, ?_⟩) (by assumption) ?_
                      rotate_left
                      · (intro w hSw; (try dsimp only at hSw); go_simp; try with_reducible rfl)
                      try simp only [Act.put, List.setIfInBounds_toArray, List.set_cons_zero, List.set_cons_succ]
                      refine wpAnyH_take (i := 5) (oi := { dst := some 121, op := Op.fieldAddr 55 (Operand.tmp 120) 1, type := 0, pos := "law.go:193", after := #[{ on := 4, ground := Ground.data }], guard := none }) (v := ?_) rfl (by kernel_rfl) (by kernel_rfl) (by kernel_rfl) (fun _ _ _ h => h) (Or.inl ⟨by kernel_rfl, ?_⟩) (by assumption) ?_
                      rotate_left
                      · (intro w hSw; (try dsimp only at hSw); go_simp; try with_reducible rfl)
                      try simp only [Act.put, List.setIfInBounds_toArray, List.set_cons_zero, List.set_cons_succ]
                      refine wpAnyH_take (i := 6) (oi := { dst := some 122, op := Op.load 27 (Operand.tmp 121), type := 27, pos := "law.go:193", after := #[{ on := 5, ground := Ground.data }], guard := none }) (v := ?_) rfl (by kernel_rfl) (by kernel_rfl) (by kernel_rfl) (fun _ _ _ h => h) (Or.inl ⟨by kernel_rfl, ?_⟩) (by assumption) ?_
                      rotate_left
                      · (intro w hSw; (try dsimp only at hSw); go_simp; try with_reducible rfl)
                      try simp only [Act.put, List.setIfInBounds_toArray, List.set_cons_zero, List.set_cons_succ]
                      refine wpAnyH_take (i := 7) (oi := { dst := some 123, op := Op.move (Operand.tmp 7), type := 46, pos := "law.go:193", after := #[], guard := none }) (v := ?_) rfl (by kernel_rfl) (by kernel_rfl) (by kernel_rfl) (fun _ _ _ h => h) (Or.inl ⟨by kernel_rfl, ?_⟩) (by assumption) ?_
                      rotate_left
                      · (intro w hSw; (try dsimp only at hSw); go_simp; try with_reducible rfl)
                      try simp only [Act.put, List.setIfInBounds_toArray, List.set_cons_zero, List.set_cons_succ]
                      refine wpAnyH_take (i := 8) (oi := { dst := some 124, op := Op.move (Operand.tmp 14), type := 3, pos := "law.go:193", after := #[], guard := none }) (v := ?_) rfl (by kernel_rfl) (by kernel_rfl) (by kernel_rfl) (fun _ _ _ h => h) (Or.inl ⟨by kernel_rfl, ?_⟩) (by assumption) ?_
                      rotate_left
                      · (intro w hSw; (try dsimp only at hSw); go_simp; try with_reducible rfl)
                      try simp only [Act.put, List.setIfInBounds_toArray, List.set_cons_zero, List.set_cons_succ]
                      refine wpAnyH_take (i := 9) (oi := { dst := some 125, op := Op.indexAddr 46 (Operand.tmp 123) (Operand.tmp 124), type := 0, pos := "law.go:193", after := #[{ on := 7, ground := Ground.data }, { on := 8, ground := Ground.data }], guard := none }) (v := ?_) rfl (by kernel_rfl) (by kernel_rfl) (by kernel_rfl) (fun _ _ _ h => h) (Or.inl ⟨by kernel_rfl, ?_⟩) (by assumption) ?_
                      rotate_left
                      · (intro w hSw; (try dsimp only at hSw); go_simp; try with_reducible rfl)
                      try simp only [Act.put, List.setIfInBounds_toArray, List.set_cons_zero, List.set_cons_succ]
                      refine wpAnyH_take (i := 10) (oi := { dst := some 126, op := Op.fieldAddr 55 (Operand.tmp 125) 2, type := 0, pos := "law.go:193", after := #[{ on := 9, ground := Ground.data }], guard := none }) (v := ?_) rfl (by kernel_rfl) (by kernel_rfl) (by kernel_rfl) (fun _ _ _ h => h) (Or.inl ⟨by kernel_rfl, ?_⟩) (by assumption) ?_
                      rotate_left
                      · (intro w hSw; (try dsimp only at hSw); go_simp; try with_reducible rfl)
                      try simp only [Act.put, List.setIfInBounds_toArray, List.set_cons_zero, List.set_cons_succ]
                      refine wpAnyH_take (i := 11) (oi := { dst := some 127, op := Op.load 3 (Operand.tmp 126), type := 3, pos := "law.go:193", after := #[{ on := 10, ground := Ground.data }], guard := none }) (v := ?_) rfl (by kernel_rfl) (by kernel_rfl) (by kernel_rfl) (fun _ _ _ h => h) (Or.inl ⟨by kernel_rfl, ?_⟩) (by assumption) ?_
                      rotate_left
                      · (intro w hSw; (try dsimp only at hSw); go_simp; try with_reducible rfl)
                      try simp only [Act.put, List.setIfInBounds_toArray, List.set_cons_zero, List.set_cons_succ]
                      refine wpAnyH_take (i := 12) (oi := { dst := some 128, op := Op.move (Operand.tmp 7), type := 46, pos := "law.go:193", after := #[], guard := none }) (v := ?_) rfl (by kernel_rfl) (by kernel_rfl) (by kernel_rfl) (fun _ _ _ h => h) (Or.inl ⟨by kernel_rfl, ?_⟩) (by assumption) ?_
                      rotate_left
                      · (intro w hSw; (try dsimp only at hSw); go_simp; try with_reducible rfl)
                      try simp only [Act.put, List.setIfInBounds_toArray, List.set_cons_zero, List.set_cons_succ]
                      refine wpAnyH_take (i := 13) (oi := { dst := some 129, op := Op.move (Operand.tmp 14), type := 3, pos := "law.go:193", after := #[], guard := none }) (v := ?_) rfl (by kernel_rfl) (by kernel_rfl) (by kernel_rfl) (fun _ _ _ h => h) (Or.inl ⟨by kernel_rfl, ?_⟩) (by assumption) ?_
                      rotate_left
                      · (intro w hSw; (try dsimp only at hSw); go_simp; try with_reducible rfl)
                      try simp only [Act.put, List.setIfInBounds_toArray, List.set_cons_zero, List.set_cons_succ]
                      refine wpAnyH_take (i := 14) (oi := { dst := some 130, op := Op.indexAddr 46 (Operand.tmp 128) (Operand.tmp 129), type := 0, pos := "law.go:193", after := #[{ on := 12, ground := Ground.data }, { on := 13, ground := Ground.data }], guard := none }) (v := ?_) rfl (by kernel_rfl) (by kernel_rfl) (by kernel_rfl) (fun _ _ _ h => h) (Or.inl ⟨by kernel_rfl, ?_⟩) (by assumption) ?_
                      rotate_left
                      · (intro w hSw; (try dsimp only at hSw); go_simp; try with_reducible rfl)
                      try simp only [Act.put, List.setIfInBounds_toArray, List.set_cons_zero, List.set_cons_succ]
                      refine wpAnyH_take (i := 15) (oi := { dst := some 131, op := Op.fieldAddr 55 (Operand.tmp 130) 2, type := 0, pos := "law.go:193", after := #[{ on := 14, ground := Ground.data }], guard := none }) (v := ?_) rfl (by kernel_rfl) (by kernel_rfl) (by kernel_rfl) (fun _ _ _ h => h) (Or.inl ⟨by kernel_rfl, ?_⟩) (by assumption) ?_
                      rotate_left
                      · (intro w hSw; (try dsimp only at hSw); go_simp; try with_reducible rfl)
                      try simp only [Act.put, List.setIfInBounds_toArray, List.set_cons_zero, List.set_cons_succ]
                      refine wpAnyH_take (i := 16) (oi := { dst := some 132, op := Op.load 3 (Operand.tmp 131), type := 3, pos := "law.go:193", after := #[{ on := 15, ground := Ground.data }], guard := none }) (v := ?_) rfl (by kernel_rfl) (by kernel_rfl) (by kernel_rfl) (fun _ _ _ h => h) (Or.inl ⟨by kernel_rfl, ?_⟩) (by assumption) ?_
                      rotate_left
                      · (intro w hSw; (try dsimp only at hSw); go_simp; try with_reducible rfl)
                      try simp only [Act.put, List.setIfInBounds_toArray, List.set_cons_zero, List.set_cons_succ]
                      refine wpAnyH_take (i := 17) (oi := { dst := some 133, op := Op.fieldAddr 51 (Operand.tmp 15) 2, type := 0, pos := "law.go:193", after := #[], guard := none }) (v := ?_) rfl (by kernel_rfl) (by kernel_rfl) (by kernel_rfl) (fun _ _ _ h => h) (Or.inl ⟨by kernel_rfl, ?_⟩) (by assumption) ?_
                      rotate_left
                      · (intro w hSw; (try dsimp only at hSw); go_simp; try with_reducible rfl)
                      try simp only [Act.put, List.setIfInBounds_toArray, List.set_cons_zero, List.set_cons_succ]
                      refine wpAnyH_take (i := 18) (oi := { dst := some 134, op := Op.load 3 (Operand.tmp 133), type := 3, pos := "law.go:193", after := #[{ on := 17, ground := Ground.data }], guard := none }) (v := ?_) rfl (by kernel_rfl) (by kernel_rfl) (by kernel_rfl) (fun _ _ _ h => h) (Or.inl ⟨by kernel_rfl, ?_⟩) (by assumption) ?_
                      rotate_left
                      · (intro w hSw; (try dsimp only at hSw); go_simp; try with_reducible rfl)
                      try simp only [Act.put, List.setIfInBounds_toArray, List.set_cons_zero, List.set_cons_succ]
                      refine wpAnyH_take (i := 19) (oi := { dst := some 135, op := Op.binOp BinOp.add 3 (Operand.tmp 132) (Operand.tmp 134) 3, type := 3, pos := "law.go:193", after := #[{ on := 16, ground := Ground.data }, { on := 18, ground := Ground.data }], guard := none }) (v := ?_) rfl (by kernel_rfl) (by kernel_rfl) (by kernel_rfl) (fun _ _ _ h => h) (Or.inl ⟨by kernel_rfl, ?_⟩) (by assumption) ?_
                      rotate_left
                      · (intro w hSw; (try dsimp only at hSw); go_simp; try with_reducible rfl)
                      try simp only [Act.put, List.setIfInBounds_toArray, List.set_cons_zero, List.set_cons_succ]
                      refine wpAnyH_take (i := 20) (oi := { dst := some 136, op := Op.build 57 #[(0, Operand.tmp 122), (1, Operand.tmp 127), (2, Operand.tmp 135)], type := 57, pos := "law.go:193", after := #[{ on := 6, ground := Ground.data }, { on := 11, ground := Ground.data }, { on := 19, ground := Ground.data }], guard := none }) (v := ?_) rfl (by kernel_rfl) (by kernel_rfl) (by kernel_rfl) (fun _ _ _ h => h) (Or.inl ⟨by kernel_rfl, ?_⟩) (by assumption) ?_
                      rotate_left
                      · (intro w hSw; (try dsimp only at hSw); go_simp; try with_reducible rfl)
                      try simp only [Act.put, List.setIfInBounds_toArray, List.set_cons_zero, List.set_cons_succ]
                      refine wpAnyH_ready (rs := [1, 21]) (by kernel_rfl) (by simp) ?_
                      refine AllReadyH.cons (o := { dst := some 117, op := Op.load 23 (Operand.tmp 116), type := 23, pos := "law.go:193", after := #[{ on := 0, ground := Ground.data }], guard := none }) rfl (fun K hK => ?_) (AllReadyH.cons (o := { dst := some 137, op := Op.buildSlice 23 1 #[(0, Operand.tmp 136)], type := 23, pos := "law.go:193", after := #[{ on := 20, ground := Ground.data }], guard := none }) rfl (fun K hK => ?_) AllReadyH.nil)
                      rotate_left
                      · go_simp
                        refine hK.out _ _ ?_ (fun hHeld => ?_)
                        · first
                            | exact ⟨c1, c2, c3, t2⟩
                            | exact ⟨hbl1 _ _ _, hbl2 _ _ _, hbl3 _ _ _, hbl4 _ _ _⟩
                            | exact ⟨hbl1 0 _ _, hbl2 0 _ _, hbl3 0 _ _, hbl4 0 _ _⟩
                            | exact ⟨hbl1 1 _ _, hbl2 1 _ _, hbl3 1 _ _, hbl4 1 _ _⟩
                            | exact ⟨by assumption, by assumption, by assumption, by assumption⟩
                            | exact ⟨(World.cell?_setCell_far _ _ _ _ hne1).trans (by assumption), (World.cell?_setCell_far _ _ _ _ hne1).trans (by assumption), (World.cell?_setCell_far _ _ _ _ hne1).trans (by assumption), (World.cell?_setCell_far _ _ _ _ hne2).trans (by assumption)⟩
                        clear hK K
                        try simp only [Act.put, List.setIfInBounds_toArray, List.set_cons_zero, List.set_cons_succ]
                        refine wpAnyH_ready (rs := [1]) (by kernel_rfl) (by simp) ?_
                        refine AllReadyH.cons (o := { dst := some 117, op := Op.load 23 (Operand.tmp 116), type := 23, pos := "law.go:193", after := #[{ on := 0, ground := Ground.data }], guard := none }) rfl (fun K hK => ?_) AllReadyH.nil
                        go_simp
                        refine hK.out _ _ ?_ (fun hHeld => ?_)
                        · first
                            | exact ⟨c1, c2, c3, t2⟩
                            | exact ⟨hbl1 _ _ _, hbl2 _ _ _, hbl3 _ _ _, hbl4 _ _ _⟩
                            | exact ⟨hbl1 0 _ _, hbl2 0 _ _, hbl3 0 _ _, hbl4 0 _ _⟩
                            | exact ⟨hbl1 1 _ _, hbl2 1 _ _, hbl3 1 _ _, hbl4 1 _ _⟩
                            | exact ⟨by assumption, by assumption, by assumption, by assumption⟩
                            | exact ⟨(World.cell?_setCell_far _ _ _ _ hne1).trans (by assumption), (World.cell?_setCell_far _ _ _ _ hne1).trans (by assumption), (World.cell?_setCell_far _ _ _ _ hne1).trans (by assumption), (World.cell?_setCell_far _ _ _ _ hne2).trans (by assumption)⟩
                        clear hK K
                        try simp only [Act.put, List.setIfInBounds_toArray, List.set_cons_zero, List.set_cons_succ]
                        refine wpAnyH_ready (rs := [22]) (by kernel_rfl) (by simp) ?_
                        refine AllReadyH.cons (o := { dst := some 138, op := Op.call { callee := Callee.builtin Builtin.append, args := #[Operand.tmp 117, Operand.tmp 137], argTypes := #[23, 23] }, type := 23, pos := "law.go:193", after := #[{ on := 1, ground := Ground.data }, { on := 21, ground := Ground.data }], guard := none }) rfl (fun K hK => ?_) AllReadyH.nil
                        (refine step_append_lies _ (by rfl) _ _ 23 (by rfl) wA.heap.size 57 i1 _ 4 32 Try.underlying23 hi1 hy0 hy1 hy2 rfl (by decide) (.slice aX (LH + cntL P i) cX) (LH + cntL P i) (heF (hl ++ (othL S P i).map heOf)) (by rfl) (World.ownsRow.alloc hOX _) ⟨wc.heap.size, 0, none⟩ 1 1 (heI (heZ (s, q0, t, E))) (by rfl) (by rfl) (news_alloc _ [.int .i64 (s : Nat), .int .i64 (q0 : Nat), .int .i64 (t : Nat), .int .i64 (E : Nat)] _) (by intro u hu; simp [heI, heZ] at hu; rcases hu with rfl | rfl | rfl | rfl <;> rfl) (by decide) (by unfold maxLen; omega) (by omega) (by simp; omega) (wc.heap.size + 1) (by simp) ?_; intro g8 cap8 w8 hown8 hgrow8 hat8 hlt8; obtain ⟨⟨d1, d2, d3, d4⟩, ⟨d5, d6⟩, hfin⟩ := APP.out _ w8 g8 cap8 (hal 1 _ _) (by simp) hown8 hgrow8 hat8; go_simp)
                        refine hK.out _ _ ?_ (fun hHeld => ?_)
                        · first
                            | exact ⟨c1, c2, c3, t2⟩
                            | exact ⟨hbl1 _ _ _, hbl2 _ _ _, hbl3 _ _ _, hbl4 _ _ _⟩
                            | exact ⟨hbl1 0 _ _, hbl2 0 _ _, hbl3 0 _ _, hbl4 0 _ _⟩
                            | exact ⟨hbl1 1 _ _, hbl2 1 _ _, hbl3 1 _ _, hbl4 1 _ _⟩
                            | exact ⟨by assumption, by assumption, by assumption, by assumption⟩
                            | exact ⟨(World.cell?_setCell_far _ _ _ _ hne1).trans (by assumption), (World.cell?_setCell_far _ _ _ _ hne1).trans (by assumption), (World.cell?_setCell_far _ _ _ _ hne1).trans (by assumption), (World.cell?_setCell_far _ _ _ _ hne2).trans (by assumption)⟩
                        clear hK K
                        try simp only [Act.put, List.setIfInBounds_toArray, List.set_cons_zero, List.set_cons_succ]
                        refine wpAnyH_take (i := 23) (oi := { dst := some 139, op := Op.fieldAddr 25 (Operand.tmp 13) 2, type := 0, pos := "law.go:193", after := #[{ on := 0, ground := Ground.phase }, { on := 1, ground := Ground.phase }, { on := 2, ground := Ground.phase }, { on := 3, ground := Ground.phase }, { on := 4, ground := Ground.phase }, { on := 5, ground := Ground.phase }, { on := 6, ground := Ground.phase }, { on := 7, ground := Ground.phase }, { on := 8, ground := Ground.phase }, { on := 9, ground := Ground.phase }, { on := 10, ground := Ground.phase }, { on := 11, ground := Ground.phase }, { on := 12, ground := Ground.phase }, { on := 13, ground := Ground.phase }, { on := 14, ground := Ground.phase }, { on := 15, ground := Ground.phase }, { on := 16, ground := Ground.phase }, { on := 17, ground := Ground.phase }, { on := 18, ground := Ground.phase }, { on := 19, ground := Ground.phase }, { on := 20, ground := Ground.phase }, { on := 21, ground := Ground.phase }, { on := 22, ground := Ground.phase }], guard := none }) (v := ?_) rfl (by kernel_rfl) (by kernel_rfl) (by kernel_rfl) (fun _ _ _ h => h) (Or.inl ⟨by kernel_rfl, ?_⟩) (by assumption) ?_
                        rotate_left
                        · (intro w hSw; (try dsimp only at hSw); go_simp; try with_reducible rfl)
                        try simp only [Act.put, List.setIfInBounds_toArray, List.set_cons_zero, List.set_cons_succ]
                        refine wpAnyH_ready (rs := [24]) (by kernel_rfl) (by simp) ?_
                        refine AllReadyH.cons (o := { dst := none, op := Op.store 23 (Operand.tmp 139) (Operand.tmp 138), type := 0, pos := "law.go:193", after := #[{ on := 23, ground := Ground.data }, { on := 22, ground := Ground.data }, { on := 22, ground := Ground.chain }, { on := 0, ground := Ground.phase }, { on := 1, ground := Ground.phase }, { on := 2, ground := Ground.phase }, { on := 3, ground := Ground.phase }, { on := 4, ground := Ground.phase }, { on := 5, ground := Ground.phase }, { on := 6, ground := Ground.phase }, { on := 7, ground := Ground.phase }, { on := 8, ground := Ground.phase }, { on := 9, ground := Ground.phase }, { on := 10, ground := Ground.phase }, { on := 11, ground := Ground.phase }, { on := 12, ground := Ground.phase }, { on := 13, ground := Ground.phase }, { on := 14, ground := Ground.phase }, { on := 15, ground := Ground.phase }, { on := 16, ground := Ground.phase }, { on := 17, ground := Ground.phase }, { on := 18, ground := Ground.phase }, { on := 19, ground := Ground.phase }, { on := 20, ground := Ground.phase }, { on := 21, ground := Ground.phase }, { on := 22, ground := Ground.phase }], guard := none }) rfl (fun K hK => ?_) AllReadyH.nil
                        go_simp
                        refine hK.out _ _ ?_ (fun hHeld => ?_)
                        · first
                            | exact ⟨c1, c2, c3, t2⟩
                            | exact ⟨hbl1 _ _ _, hbl2 _ _ _, hbl3 _ _ _, hbl4 _ _ _⟩
                            | exact ⟨hbl1 0 _ _, hbl2 0 _ _, hbl3 0 _ _, hbl4 0 _ _⟩
                            | exact ⟨hbl1 1 _ _, hbl2 1 _ _, hbl3 1 _ _, hbl4 1 _ _⟩
                            | exact ⟨by assumption, by assumption, by assumption, by assumption⟩
                            | exact ⟨(World.cell?_setCell_far _ _ _ _ hne1).trans (by assumption), (World.cell?_setCell_far _ _ _ _ hne1).trans (by assumption), (World.cell?_setCell_far _ _ _ _ hne1).trans (by assumption), (World.cell?_setCell_far _ _ _ _ hne2).trans (by assumption)⟩
                        clear hK K
                        try simp only [Act.put, List.setIfInBounds_toArray, List.set_cons_zero, List.set_cons_succ]
                        refine wpAnyH_done (by kernel_rfl) ?_ _
                        go_wp2_with fail
                        go_roundw
                        case rel => exact ⟨i + 1, some ⟨g8, 0, none⟩, cap8, hlt, by go_num, by (rw [HTN2.out, HCN.out]; exact hfin)⟩
                        case measure => simp [RowKit.intOf]; omega
                      · go_simp
                        refine hK.out _ _ ?_ (fun hHeld => ?_)
                        · first
                            | exact ⟨c1, c2, c3, t2⟩
                            | exact ⟨hbl1 _ _ _, hbl2 _ _ _, hbl3 _ _ _, hbl4 _ _ _⟩
                            | exact ⟨hbl1 0 _ _, hbl2 0 _ _, hbl3 0 _ _, hbl4 0 _ _⟩
                            | exact ⟨hbl1 1 _ _, hbl2 1 _ _, hbl3 1 _ _, hbl4 1 _ _⟩
                            | exact ⟨by assumption, by assumption, by assumption, by assumption⟩
                            | exact ⟨(World.cell?_setCell_far _ _ _ _ hne1).trans (by assumption), (World.cell?_setCell_far _ _ _ _ hne1).trans (by assumption), (World.cell?_setCell_far _ _ _ _ hne1).trans (by assumption), (World.cell?_setCell_far _ _ _ _ hne2).trans (by assumption)⟩
                        clear hK K
                        try simp only [Act.put, List.setIfInBounds_toArray, List.set_cons_zero, List.set_cons_succ]
                        refine wpAnyH_ready (rs := [21]) (by kernel_rfl) (by simp) ?_
                        refine AllReadyH.cons (o := { dst := some 137, op := Op.buildSlice 23 1 #[(0, Operand.tmp 136)], type := 23, pos := "law.go:193", after := #[{ on := 20, ground := Ground.data }], guard := none }) rfl (fun K hK => ?_) AllReadyH.nil
                        go_simp
                        refine hK.out _ _ ?_ (fun hHeld => ?_)
                        · first
                            | exact ⟨c1, c2, c3, t2⟩
                            | exact ⟨hbl1 _ _ _, hbl2 _ _ _, hbl3 _ _ _, hbl4 _ _ _⟩
                            | exact ⟨hbl1 0 _ _, hbl2 0 _ _, hbl3 0 _ _, hbl4 0 _ _⟩
                            | exact ⟨hbl1 1 _ _, hbl2 1 _ _, hbl3 1 _ _, hbl4 1 _ _⟩
                            | exact ⟨by assumption, by assumption, by assumption, by assumption⟩
                            | exact ⟨(World.cell?_setCell_far _ _ _ _ hne1).trans (by assumption), (World.cell?_setCell_far _ _ _ _ hne1).trans (by assumption), (World.cell?_setCell_far _ _ _ _ hne1).trans (by assumption), (World.cell?_setCell_far _ _ _ _ hne2).trans (by assumption)⟩
                        clear hK K
                        try simp only [Act.put, List.setIfInBounds_toArray, List.set_cons_zero, List.set_cons_succ]
                        refine wpAnyH_ready (rs := [22]) (by kernel_rfl) (by simp) ?_
                        refine AllReadyH.cons (o := { dst := some 138, op := Op.call { callee := Callee.builtin Builtin.append, args := #[Operand.tmp 117, Operand.tmp 137], argTypes := #[23, 23] }, type := 23, pos := "law.go:193", after := #[{ on := 1, ground := Ground.data }, { on := 21, ground := Ground.data }], guard := none }) rfl (fun K hK => ?_) AllReadyH.nil
                        (refine step_append_lies _ (by rfl) _ _ 23 (by rfl) wA.heap.size 57 i1 _ 4 32 Try.underlying23 hi1 hy0 hy1 hy2 rfl (by decide) (.slice aX (LH + cntL P i) cX) (LH + cntL P i) (heF (hl ++ (othL S P i).map heOf)) (by rfl) (World.ownsRow.alloc hOX _) ⟨wc.heap.size, 0, none⟩ 1 1 (heI (heZ (s, q0, t, E))) (by rfl) (by rfl) (news_alloc _ [.int .i64 (s : Nat), .int .i64 (q0 : Nat), .int .i64 (t : Nat), .int .i64 (E : Nat)] _) (by intro u hu; simp [heI, heZ] at hu; rcases hu with rfl | rfl | rfl | rfl <;> rfl) (by decide) (by unfold maxLen; omega) (by omega) (by simp; omega) (wc.heap.size + 1) (by simp) ?_; intro g8 cap8 w8 hown8 hgrow8 hat8 hlt8; obtain ⟨⟨d1, d2, d3, d4⟩, ⟨d5, d6⟩, hfin⟩ := APP.out _ w8 g8 cap8 (hal 1 _ _) (by simp) hown8 hgrow8 hat8; go_simp)
                        refine hK.out _ _ ?_ (fun hHeld => ?_)
                        · first
                            | exact ⟨c1, c2, c3, t2⟩
                            | exact ⟨hbl1 _ _ _, hbl2 _ _ _, hbl3 _ _ _, hbl4 _ _ _⟩
                            | exact ⟨hbl1 0 _ _, hbl2 0 _ _, hbl3 0 _ _, hbl4 0 _ _⟩
                            | exact ⟨hbl1 1 _ _, hbl2 1 _ _, hbl3 1 _ _, hbl4 1 _ _⟩
                            | exact ⟨by assumption, by assumption, by assumption, by assumption⟩
                            | exact ⟨(World.cell?_setCell_far _ _ _ _ hne1).trans (by assumption), (World.cell?_setCell_far _ _ _ _ hne1).trans (by assumption), (World.cell?_setCell_far _ _ _ _ hne1).trans (by assumption), (World.cell?_setCell_far _ _ _ _ hne2).trans (by assumption)⟩
                        clear hK K
                        try simp only [Act.put, List.setIfInBounds_toArray, List.set_cons_zero, List.set_cons_succ]
                        refine wpAnyH_take (i := 23) (oi := { dst := some 139, op := Op.fieldAddr 25 (Operand.tmp 13) 2, type := 0, pos := "law.go:193", after := #[{ on := 0, ground := Ground.phase }, { on := 1, ground := Ground.phase }, { on := 2, ground := Ground.phase }, { on := 3, ground := Ground.phase }, { on := 4, ground := Ground.phase }, { on := 5, ground := Ground.phase }, { on := 6, ground := Ground.phase }, { on := 7, ground := Ground.phase }, { on := 8, ground := Ground.phase }, { on := 9, ground := Ground.phase }, { on := 10, ground := Ground.phase }, { on := 11, ground := Ground.phase }, { on := 12, ground := Ground.phase }, { on := 13, ground := Ground.phase }, { on := 14, ground := Ground.phase }, { on := 15, ground := Ground.phase }, { on := 16, ground := Ground.phase }, { on := 17, ground := Ground.phase }, { on := 18, ground := Ground.phase }, { on := 19, ground := Ground.phase }, { on := 20, ground := Ground.phase }, { on := 21, ground := Ground.phase }, { on := 22, ground := Ground.phase }], guard := none }) (v := ?_) rfl (by kernel_rfl) (by kernel_rfl) (by kernel_rfl) (fun _ _ _ h => h) (Or.inl ⟨by kernel_rfl, ?_⟩) (by assumption) ?_
                        rotate_left
                        · (intro w hSw; (try dsimp only at hSw); go_simp; try with_reducible rfl)
                        try simp only [Act.put, List.setIfInBounds_toArray, List.set_cons_zero, List.set_cons_succ]
                        refine wpAnyH_ready (rs := [24]) (by kernel_rfl) (by simp) ?_
                        refine AllReadyH.cons (o := { dst := none, op := Op.store 23 (Operand.tmp 139) (Operand.tmp 138), type := 0, pos := "law.go:193", after := #[{ on := 23, ground := Ground.data }, { on := 22, ground := Ground.data }, { on := 22, ground := Ground.chain }, { on := 0, ground := Ground.phase }, { on := 1, ground := Ground.phase }, { on := 2, ground := Ground.phase }, { on := 3, ground := Ground.phase }, { on := 4, ground := Ground.phase }, { on := 5, ground := Ground.phase }, { on := 6, ground := Ground.phase }, { on := 7, ground := Ground.phase }, { on := 8, ground := Ground.phase }, { on := 9, ground := Ground.phase }, { on := 10, ground := Ground.phase }, { on := 11, ground := Ground.phase }, { on := 12, ground := Ground.phase }, { on := 13, ground := Ground.phase }, { on := 14, ground := Ground.phase }, { on := 15, ground := Ground.phase }, { on := 16, ground := Ground.phase }, { on := 17, ground := Ground.phase }, { on := 18, ground := Ground.phase }, { on := 19, ground := Ground.phase }, { on := 20, ground := Ground.phase }, { on := 21, ground := Ground.phase }, { on := 22, ground := Ground.phase }], guard := none }) rfl (fun K hK => ?_) AllReadyH.nil
                        go_simp
                        refine hK.out _ _ ?_ (fun hHeld => ?_)
                        · first
                            | exact ⟨c1, c2, c3, t2⟩
                            | exact ⟨hbl1 _ _ _, hbl2 _ _ _, hbl3 _ _ _, hbl4 _ _ _⟩
                            | exact ⟨hbl1 0 _ _, hbl2 0 _ _, hbl3 0 _ _, hbl4 0 _ _⟩
                            | exact ⟨hbl1 1 _ _, hbl2 1 _ _, hbl3 1 _ _, hbl4 1 _ _⟩
                            | exact ⟨by assumption, by assumption, by assumption, by assumption⟩
                            | exact ⟨(World.cell?_setCell_far _ _ _ _ hne1).trans (by assumption), (World.cell?_setCell_far _ _ _ _ hne1).trans (by assumption), (World.cell?_setCell_far _ _ _ _ hne1).trans (by assumption), (World.cell?_setCell_far _ _ _ _ hne2).trans (by assumption)⟩
                        clear hK K
                        try simp only [Act.put, List.setIfInBounds_toArray, List.set_cons_zero, List.set_cons_succ]
                        refine wpAnyH_done (by kernel_rfl) ?_ _
                        go_wp2_with fail
                        go_roundw
                        case rel => exact ⟨i + 1, some ⟨g8, 0, none⟩, cap8, hlt, by go_num, by (rw [HTN2.out, HCN.out]; exact hfin)⟩
                        case measure => simp [RowKit.intOf]; omega
                  · obtain rfl : i = k := by omega
                    have hd : decide (i < i) = false := decide_eq_false hlt
                    have hki : ¬ (i : Int) < (i : Int) := by omega
                    have HSE : Hid (XAt wA wr gX n (.slice aF LF cF) fl aX cX (LH + cntL P i) (hl ++ (othL S P S.length).map heOf)) := by
                      have h := HX.out
                      rw [HLL.out] at h
                      unfold Hid
                      rw [HLL.out]
                      exact h
                    have HSCO := Lib.hid (AP.out.sc HC.out (T := othL S P S.length) othL_sub (by unfold othL; rw [List.take_length]; exact List.length_eraseIdx_le ..))
                    obtain ⟨HH, hHH⟩ : ∃ x, x = hl ++ (othL S P S.length).map heOf := ⟨_, rfl⟩
                    rw [← hHH] at HSE HSCO HEARLY HFE2
                    obtain ⟨mm, hmm⟩ : ∃ x, x = LH + cntL P i := ⟨_, rfl⟩
                    rw [← hmm] at HSE
                    have EAR : Hid (∀ w1, Below wr.heap.size wr w1 → Calls Try.prog 18 #[.agg #[.int .i64 (n : Int), .slice aF LF cF, .slice aX mm cX], .int .i64 (q0 : Nat), .int .i64 (nw : Int), .int .i64 (len : Nat)] w1 fun e w' => e = .returned (.tuple #[.int .i64 (t1 : Nat), .int .i64 (s1' : Nat), .int .i64 0]) ∧ Below w1.heap.size w1 w') := fun w1 hb =>
                      HEO.out ⟨n, fl, HH⟩ _ _ q0 len t1 s1' w1 HSCO.out (HSE.out.kept hb).row HBK.out.1 hlen1 hlenb HEARLY.out
                    have FRE : Hid (∀ w1, Below wr.heap.size wr w1 → Calls Try.prog 12 #[.agg #[.int .i64 (n : Int), .slice aF LF cF, .slice aX mm cX], .agg #[.int .i64 (s : Nat), .int .i64 (q0 : Nat)], .int .i64 (t : Nat), .int .i64 (IntKind.i64.wrap ((t : Int) + (len : Int)))] w1 fun e w'' => e = .returned (.bool true) ∧ Below w1.heap.size w1 w'') := fun w1 hb =>
                      (HSE.out.kept hb).free HSCO.out HBK.out hlen1 hend HFE2.out
                    obtain ⟨c0, c1, c2, c3⟩ := HCL.out wr hXw.out
                    have HWN := Lib.hid (HW7.out wr hXw.out)
                    clear hlt hi HX hcn hHH hmm HCL HW7
                    go_upto_region 27 with fail
                    go_wp2_with fail
                    refine HWN.out.mono ?_; rintro e w7 ⟨rfl, b7⟩
                    obtain ⟨gT, hgT⟩ : ∃ g, g = w7.heap.size := ⟨_, rfl⟩
                    obtain ⟨wB, hwB⟩ : ∃ x, x = w7.alloc (.cells #[.int .u32 (id : Nat), .int .i64 (q0 : Nat), .int .i64 (len : Nat)] 51) := ⟨_, rfl⟩
                    have hb8 : Below wr.heap.size wr wB := by rw [hwB]; exact b7.alloc b7.size _
                    have HTB : Hid (Blk wB gT #[.int .u32 (id : Nat), .int .i64 (q0 : Nat), .int .i64 (len : Nat)] 51) := by unfold Hid; rw [hwB, hgT]; exact Blk.new _ _ _
                    have HSB := Lib.hid (HSE.out.kept hb8)
                    have HBB8 := Lib.hid hb8
                    have x0 := HSB.out.x.cell 0
                    have x1 := HSB.out.x.cell 1
                    have x2 := HSB.out.x.cell 2
                    have t1' := HTB.out.cell 1
                    have t2 := HTB.out.cell 2
                    simp at x0 x1 x2 t1' t2
                    have HMM : Hid (Value.slice aX mm cX = Value.slice aX mm cX) := rfl
                    dsimp only
                    clear b7 HWN HSE
                    go_upto_region 28 with fail
                    rw [← hwB, ← hgT]
                    clear hwB hgT hb8
                    go_wp2_with fail
                    refine (EAR.out _ HBB8.out).mono ?_; rintro e wC ⟨rfl, bC⟩
                    have HBC : Hid (Below wr.heap.size wr wC) := below_next bC HBB8.out
                    replace c1 := cell_next HBC.out c1
                    replace c2 := cell_next HBC.out c2
                    replace c3 := cell_next HBC.out c3
                    replace x0 := cell_next bC x0
                    replace x1 := cell_next bC x1
                    replace x2 := cell_next bC x2
                    replace t2 := cell_next bC t2
                    have g1 : decide ((t1 : Int) ≤ (t : Int)) = true := decide_eq_true (by omega)
                    have g2 : decide (t1 ≤ t) = true := decide_eq_true ht1
                    have FRC : Hid (∀ w1, Below wC.heap.size wC w1 → _) := fun w1 hb => FRE.out w1 (below_next hb HBC.out)
                    dsimp only
                    clear bC EAR FRE t1' c0
                    go_upto_region 29 with fail
                    go_cut [6] (fun rv wz => rv = .bool true ∧ Hid (Below wC.heap.size wC wz))
                    case first =>
                      go_region_held3 (fun w' => w'.cell? ⟨bb, off + P * 4 + 1, none⟩ = some (.int .i64 (s : Nat)) ∧ w'.cell? ⟨bb, off + P * 4 + 2, none⟩ = some (.int .i64 (q0 : Nat)) ∧ w'.cell? ⟨bb, off + P * 4 + 3, none⟩ = some (.int .i64 (t : Nat)) ∧ w'.cell? ⟨gX, 0, none⟩ = some (.int .i64 (n : Int)) ∧ w'.cell? ⟨gX, 1, none⟩ = some (.slice aF LF cF) ∧ w'.cell? ⟨gX, 2, none⟩ = some (.slice aX mm cX) ∧ w'.cell? ⟨gT, 2, none⟩ = some (.int .i64 (len : Nat)) ∧ Below wC.heap.size wC w')
                        (first
                          | exact ⟨c1, c2, c3, x0, x1, x2, t2, Below.refl _ _⟩
                          | exact ⟨c1, c2, c3, x0, x1, x2, t2, (Below.refl _ _).drew⟩
                          | (rcases ‹_ ∧ _ ∧ _ ∧ _ ∧ _ ∧ _ ∧ _ ∧ Below wC.heap.size _ _› with ⟨p0, p1, p2, p3, p4, p5, p6, p8⟩; exact ⟨cell_next (by assumption) p0, cell_next (by assumption) p1, cell_next (by assumption) p2, cell_next (by assumption) p3, cell_next (by assumption) p4, cell_next (by assumption) p5, cell_next (by assumption) p6, below_next (by assumption) p8⟩))
                        (first
                          | (go_at_call 12; ((with_reducible refine (FRC.out _ (‹_ ∧ _ ∧ _ ∧ _ ∧ _ ∧ _ ∧ _ ∧ Below wC.heap.size wC _›).2.2.2.2.2.2.2).mono ?_); rintro e w5 ⟨rfl, b5⟩))
                          | (go_at_call 9; ((with_reducible refine (K.out _).mono ?_); rintro e w5 ⟨rfl, b5⟩)))
                      go_wp2_with fail
                      go_meet
                      exact ⟨rfl, (‹_ ∧ _ ∧ _ ∧ _ ∧ _ ∧ _ ∧ _ ∧ Below wC.heap.size wC _›).2.2.2.2.2.2.2⟩
                    case rest =>
                      obtain ⟨rfl, hbz⟩ := hcut
                      have HBZ := below_next (below_next (below_next hbz.out HBC.out) hXw.out) HB4.out
                      go_wp2_with fail
                      go_ret
                      exact ⟨rfl, HBZ⟩
theorem named_ids (WL : List WaI) : ∀ x ∈ namedL WL, 0 ≤ x.1 := by
  intro x hx
  obtain ⟨i, hi, rfl⟩ := List.getElem_of_mem hx
  have hj : i < WL.length := by rw [namedL_len] at hi; exact hi
  have h := namedF_get WL 0 i hj
  have e : (namedL WL)[i]? = some (namedL WL)[i] := List.getElem?_eq_getElem hi
  unfold namedL at e ⊢
  rw [h] at e
  rw [← Option.some.inj e]
  dsimp only
  omega
theorem walk (N : Int) (vf : Value) (FL : List Int) (vh : Value) (HL : List HeI) (vw : Value) (WL : List WaI) (now : Int) (w : World) (_ : (Lit.int .i64 N).wf = true) (hF : GRow w vf FL ∧ FL.length ≤ maxLen ∧ ∀ x ∈ FL, (Lit.int .i64 x).wf = true) (hH : HeArg w vh HL) (hW : WaArg w vw WL ∧ WL.length ≤ 5864062014634)
    (_ : (Lit.int .i64 now).wf = true) :
    Calls Try.prog 6 #[.agg #[.int .i64 N, vf, vh], vw, .int .i64 now] w fun e w' => e = .returned (.bool true) ∧ Below w.heap.size w w' := by
  by_cases hlo : 1000 < WL.length
  · exact long_ N vf FL vh HL vw WL now w hF.1 hH.1 hW.1.1 hF.2.1 hH.2.1 hW.2 hlo
  · have hwl : WL.length ≤ 1000 := by omega
    by_cases hA : Ask N FL HL (namedL WL) now
    · obtain ⟨n, nw, fl, hl, WS, rfl, rfl, rfl, rfl, hWS, hc, h3, hnw, hj⟩ := ask_nat hA (named_ids WL)
      exact yes_ n fl hl vf vh vw WL WS nw w ⟨hF.1, hH.1⟩ hW.1.1 hc hwl hWS h3 hnw hj
    · refine no_ N vf FL vh HL vw WL now w hF.1 hH.1 hW.1.1 hF.2.1 hH.2.1 hwl ?_
      intro w1 v1 hb hv
      exact easy_no (hF.1.kept hb) (hH.1.kept hb) hv hF.2.1 hH.2.1 (by rw [namedL_len]; unfold maxLen; omega) hA


set_option maxRecDepth 100000 in
theorem lifted (os : Os) (started : os.Started) (H : Type) (enc : TypeId × Value → H) :
    ReturnsInHanded {} Try.checked os 6 .any (Rows.backfillHeadSpec.pre6 enc Try.prog Try.f6 Rows.backfillHeadRow.domain false) (Rows.backfillHeadSpec.post enc Try.prog Try.f6 false true false false) := by
  refine returnsInHanded_of_change_sized (C := Try.checked) own started (by kernel_rfl) Try.func6
    (ChangeSpec.witness6 (enc := enc) (C := Try.checked) false ⟨#[], #[.agg #[.int .i64 0, .slice none 0 0, .slice none 0 0], .slice none 0 0, .int .i64 0], []⟩ 8 (by kernel_rfl) (by kernel_rfl) (by kernel_rfl) (by kernel_rfl)) ?_
  intro W base args ds gs before hval0 hW _ hsz0 _
  have hval : ∀ (j : Nat) t v, Try.f6.params[j]? = some t → args[j]? = some v → Value.okWide Try.prog W .any base t v := hval0
  have hW' := hW
  obtain ⟨p, q, hA0, hV, rfl, hfz, hnd⟩ := hW
  have hA : DataW.TrodAll enc Try.prog W 0 (fun _ => true) true Try.f6.params.toList args.toList ds p := hA0
  rw [Try.params6] at hA hval
  obtain ⟨v0, vs0, d0, ds0, p0, q0, hargs, rfl, rfl, h0, r0⟩ := trodAll_cons hA
  obtain ⟨v1, vs1, d1, ds1, p1, q1, rfl, rfl, rfl, h1, r1⟩ := trodAll_cons r0
  obtain ⟨v2, vs2, d2, ds2, p2, q2, rfl, rfl, rfl, h2, r2⟩ := trodAll_cons r1
  obtain ⟨rfl, rfl, rfl⟩ := trodAll_nil r2
  obtain rfl : args = #[v0, v1, v2] := by cases args; simp_all
  obtain ⟨cs0, rfl, hs0, hf0⟩ := open_plain_struct Try.underlying25 (by kernel_rfl) (by kernel_rfl) (hval 0 25 v0 rfl rfl) h0
  obtain ⟨c0_0, y0_0, n0_0, e0_0, t0_0⟩ := hf0 0 _ rfl
  obtain ⟨N, rfl, w0_0⟩ := field_int Try.underlying3 t0_0
  obtain ⟨c0_1, y0_1, n0_1, e0_1, t0_1⟩ := hf0 1 _ rfl
  obtain ⟨FL, w0_1⟩ := field_growG Try.underlying22 Try.underlying3 (by kernel_rfl) t0_1
  obtain ⟨c0_2, y0_2, n0_2, e0_2, t0_2⟩ := hf0 2 _ rfl
  obtain ⟨HL, w0_2⟩ := field_helds t0_2
  obtain rfl : cs0 = #[.int .i64 N, c0_1, c0_2] := arr_of cs0 [.int .i64 N, c0_1, c0_2] hs0 (fun j hj => by match j, hj with | 0, _ => exact e0_0 | 1, _ => exact e0_1 | 2, _ => exact e0_2 | j + 3, hj => exact absurd hj (by simp))
  have hz1 : ∀ k ∈ d1.weights Try.prog 43, k ≤ reachBytes := fun k hk => by
    have := List.all_eq_true.1 hsz0 k (DataW.weights_mem_each (j := 1) (t := 43) (d := d1) rfl rfl k hk)
    simpa using this
  obtain ⟨WL, w1⟩ := open_wantsZ hz1 h1 (okWide_slice Try.underlying43 (hval 1 43 v1 rfl rfl))
  obtain ⟨now, rfl, rfl, rfl, w2⟩ := open_int Try.underlying3 (hval 2 3 v2 rfl rfl) h2
  clear hA0 hval0
  refine (walk N c0_1 FL c0_2 HL v1 WL now W w0_0 w0_1 w0_2 w1 w2).mono fun e W' ⟨he, hb⟩ => ?_
  subst he
  exact ⟨_, rfl, law_post (by kernel_rfl) (by kernel_rfl) rfl Try.underlying4 rfl hW' rfl hb⟩

theorem over : Rows.backfillHeadRow.holds Try.pinned (OpenSpec.ofChange Rows.backfillHeadSpec) :=
  OpenClaim.holds_of_wide 6 Try.f6 rfl rfl rfl rfl rfl rfl rfl ⟨rfl, rfl, rfl, rfl, rfl⟩ rfl rfl rfl rfl rfl (by kernel_rfl) Try.func6 (by kernel_rfl)
    (of_decide_eq_true (by kernel_rfl)) (by unfold Func.isWrapper; first | (rw [if_pos (by decide +kernel)]; kernel_rfl) | (rw [if_neg (by decide +kernel)]; exact ⟨rfl, rfl⟩))
    (fun os started H enc _ => lifted os started H enc)

theorem proved : Rows.BackfillHeadSaid :=
  over
#print axioms proved
end Go.Proofs.Ytioeblljabohbaa.backfillHead
