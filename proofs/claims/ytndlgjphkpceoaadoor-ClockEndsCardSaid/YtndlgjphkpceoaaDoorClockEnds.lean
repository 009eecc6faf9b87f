/-
  ClockEnds: parts that are too great are refused: so the law returns true for every input, the listed tables of Go's library reading as the program's text lays them.
-/
import Derived.Test.YtndlgjphkpceoaaDoorClkW
import Derived.Test.YtndlgjphkpceoaaDoorClkY
import Derived.Test.YtndlgjphkpceoaaDoorRows
import Derived.Test.YtndlgjphkpceoaaDoorArgs2
import Derived.Test.YtndlgjphkpceoaaDoorLaid
import Derived.Test.YtndlgjphkpceoaaDoorCards
import Derived.Test.YtndlgjphkpceoaaDoorTie
import Derived.MakeChecks
import Derived.SevenTiedAt
namespace Go.Proofs.YtndlgjphkpceoaaDoor.clockEnds
open Go.ChangeShapes Go.WideShapes Go.ChangeAt Go.RowKit
set_option linter.unusedVariables false

theorem own : ownKnob Tryd.prog.godebug = none := by kernel_rfl

open Go Go.RowKit in
/-- The five texts, each as it is read. -/
theorem five (n : Nat) (hn : n ≤ 65535) : parseA (D n) = endA false (n * 60) ∧ parseA ([49, 58] ++ D n) = endA (decide (59 < n)) (60 + n) ∧ parseA ([49, 58] ++ D n ++ [58, 48]) = endA (decide (59 < n)) ((60 + n) * 60) ∧
    parseA (D n ++ [58, 48, 58, 49]) = endA false (n * 60 * 60 + 1) ∧ parseA ([49, 45] ++ D n) = endA (decide (23 < n)) ((24 + n) * 60 * 60) := by
  have d1 : D 1 = [49] := by show Lib.decDigits 1 = _; rw [Lib.decDigits, dif_pos (by decide)]; rfl
  have d0 : D 0 = [48] := by show Lib.decDigits 0 = _; rw [Lib.decDigits, dif_pos (by decide)]; rfl
  refine ⟨f1 (by omega), ?_, ?_, ?_, ?_⟩
  · have := f2 (m := 1) (s := n) (by omega) (by omega)
    rw [d1] at this; simpa using this
  · have := f3 (h := 1) (m := n) (s := 0) (by omega) (by omega) (by omega)
    rw [d1, d0] at this; simpa using this
  · have := f3 (h := n) (m := 0) (s := 1) (by omega) (by omega) (by omega)
    rw [d1, d0] at this; simpa using this
  · have := g1 (d := 1) (h := n) (by omega) (by omega)
    rw [d1] at this; simpa using this
open Go Go.RowKit in
set_option maxRecDepth 100000 in
set_option maxHeartbeats 1000000 in
theorem walk_zero (n : Nat) (w : World) (hE : Env7 w) (hn : n ≤ 65535) (hc : n = 0) :
    Calls Tryd.prog 7 #[.int .u16 n] w fun e w' => e = .returned (.bool true) ∧ Below w.heap.size w w' := by
  obtain ⟨p1, p2, p3, p4, p5⟩ := five n hn
  have hl := D_len (n := n) (by omega)
  have K : Hid (∀ w1, Below w.heap.size w w1 → Calls Tryd.prog 10 #[] w1 fun e w' => e = .returned (.bool true) ∧ Below w1.heap.size w1 w') := fun w1 hb => known_any w1 (hE.next hb)
  have T : Hid (∀ w1, Calls Tryd.prog 17 #[.int .i64 n] w1 fun e w' => e = .returned (.string (digS n)) ∧ Below w1.heap.size w1 w') := fun w1 => digits_any n w1 (by omega)
  have P1 : Hid (∀ w1, Below w.heap.size w w1 → Calls Tryd.prog 11 #[.string (digS n)] w1 fun e w' => e = .returned (.tuple #[.int .i64 0, .int .i64 2]) ∧ Below w1.heap.size w1 w') := fun w1 hb => parse_txt (digS n) (D n) (0, 2) w1 rfl (by omega) (p1.trans (by rw [show n * 60 = 0 by omega]; exact endA_nil)) (hE.next hb)
  have P2 : Hid (∀ w1, Below w.heap.size w w1 → Calls Tryd.prog 11 #[.string (⟨#[49, 58]⟩ ++ digS n)] w1 fun e w' => e = .returned (.tuple #[.int .i64 ((60 + n : Nat) : Int), .int .i64 0]) ∧ Below w1.heap.size w1 w') := fun w1 hb => parse_txt (⟨#[49, 58]⟩ ++ digS n) ([49, 58] ++ D n) (((60 + n : Nat) : Int), 0) w1 (app_dig [49, 58] n) (by simp; omega) (p2.trans (by rw [decide_eq_false (by omega)]; rw [endA_yes (by omega) (by omega), show 60 + n = 60 + n by omega])) (hE.next hb)
  have P3 : Hid (∀ w1, Below w.heap.size w w1 → Calls Tryd.prog 11 #[.string (⟨#[49, 58]⟩ ++ digS n ++ ⟨#[58, 48]⟩)] w1 fun e w' => e = .returned (.tuple #[.int .i64 ((3600 + 60 * n : Nat) : Int), .int .i64 0]) ∧ Below w1.heap.size w1 w') := fun w1 hb => parse_txt (⟨#[49, 58]⟩ ++ digS n ++ ⟨#[58, 48]⟩) ([49, 58] ++ D n ++ [58, 48]) (((3600 + 60 * n : Nat) : Int), 0) w1 (by rw [show (⟨#[49, 58]⟩ : ByteArray) = ⟨[49, 58].toArray⟩ from rfl, app_dig]; exact app_lit _ [58, 48]) (by simp; omega) (p3.trans (by rw [decide_eq_false (by omega)]; rw [endA_yes (by omega) (by omega), show (60 + n) * 60 = 3600 + 60 * n by omega])) (hE.next hb)
  have P4 : Hid (∀ w1, Below w.heap.size w w1 → Calls Tryd.prog 11 #[.string (digS n ++ ⟨#[58, 48, 58, 49]⟩)] w1 fun e w' => e = .returned (.tuple #[.int .i64 ((3600 * n + 1 : Nat) : Int), .int .i64 0]) ∧ Below w1.heap.size w1 w') := fun w1 hb => parse_txt (digS n ++ ⟨#[58, 48, 58, 49]⟩) (D n ++ [58, 48, 58, 49]) (((3600 * n + 1 : Nat) : Int), 0) w1 (app_lit (D n) [58, 48, 58, 49]) (by simp; omega) (p4.trans (by rw [endA_yes (by omega) (by omega), show n * 60 * 60 + 1 = 3600 * n + 1 by omega])) (hE.next hb)
  have P5 : Hid (∀ w1, Below w.heap.size w w1 → Calls Tryd.prog 11 #[.string (⟨#[49, 45]⟩ ++ digS n)] w1 fun e w' => e = .returned (.tuple #[.int .i64 ((86400 + 3600 * n : Nat) : Int), .int .i64 0]) ∧ Below w1.heap.size w1 w') := fun w1 hb => parse_txt (⟨#[49, 45]⟩ ++ digS n) ([49, 45] ++ D n) (((86400 + 3600 * n : Nat) : Int), 0) w1 (app_dig [49, 45] n) (by simp; omega) (p5.trans (by rw [decide_eq_false (by omega)]; rw [endA_yes (by omega) (by omega), show (24 + n) * 60 * 60 = 86400 + 3600 * n by omega])) (hE.next hb)
  have sz : (digS n).size ≤ 19 := digS_size (by omega)
  have a1 : (⟨#[49, 58]⟩ : ByteArray).size = 2 := rfl
  clear p1 p2 p3 p4 p5 hl hE
  generalize digS n = t at *
  subst hc
  have B0 : Hid (Below w.heap.size w w) := Below.refl _ _
  go_enter Tryd.func7, Tryd.ntmps7
  go_wp2_with fail
  refine (T.out _).mono ?_; rintro e v0 ⟨rfl, b⟩
  have B1 := Lib.hid (below_next b B0.out); clear b B0
  go_wp2_with fail
  refine (P1.out _ B1.out).mono ?_; rintro e v1 ⟨rfl, b⟩
  have B2 := Lib.hid (below_next b B1.out); clear b B1
  go_wp2_with fail
  refine (P2.out _ B2.out).mono ?_; rintro e v2 ⟨rfl, b⟩
  have B3 := Lib.hid (below_next b B2.out); clear b B2
  go_wp2_with fail
  refine (P3.out _ B3.out).mono ?_; rintro e v3 ⟨rfl, b⟩
  have B4 := Lib.hid (below_next b B3.out); clear b B3
  go_wp2_with fail
  refine (P4.out _ B4.out).mono ?_; rintro e v4 ⟨rfl, b⟩
  have B5 := Lib.hid (below_next b B4.out); clear b B4
  go_wp2_with fail
  refine (P5.out _ B5.out).mono ?_; rintro e v5 ⟨rfl, b⟩
  have B6 := Lib.hid (below_next b B5.out); clear b B5
  go_wp2_with fail
  refine (K.out _ B6.out).mono ?_; rintro e vk ⟨rfl, b⟩
  have BK := Lib.hid (below_next b B6.out); clear b
  go_wp2_with fail
  go_ret
  exact ⟨rfl, BK.out⟩
open Go Go.RowKit in
set_option maxRecDepth 100000 in
set_option maxHeartbeats 1000000 in
theorem walk_low (n : Nat) (w : World) (hE : Env7 w) (hn : n ≤ 65535) (hc : 0 < n ∧ n < 24) :
    Calls Tryd.prog 7 #[.int .u16 n] w fun e w' => e = .returned (.bool true) ∧ Below w.heap.size w w' := by
  obtain ⟨p1, p2, p3, p4, p5⟩ := five n hn
  have hl := D_len (n := n) (by omega)
  have K : Hid (∀ w1, Below w.heap.size w w1 → Calls Tryd.prog 10 #[] w1 fun e w' => e = .returned (.bool true) ∧ Below w1.heap.size w1 w') := fun w1 hb => known_any w1 (hE.next hb)
  have T : Hid (∀ w1, Calls Tryd.prog 17 #[.int .i64 n] w1 fun e w' => e = .returned (.string (digS n)) ∧ Below w1.heap.size w1 w') := fun w1 => digits_any n w1 (by omega)
  have P1 : Hid (∀ w1, Below w.heap.size w w1 → Calls Tryd.prog 11 #[.string (digS n)] w1 fun e w' => e = .returned (.tuple #[.int .i64 ((60 * n : Nat) : Int), .int .i64 0]) ∧ Below w1.heap.size w1 w') := fun w1 hb => parse_txt (digS n) (D n) (((60 * n : Nat) : Int), 0) w1 rfl (by omega) (p1.trans (by rw [endA_yes (by omega) (by omega), show n * 60 = 60 * n by omega])) (hE.next hb)
  have P2 : Hid (∀ w1, Below w.heap.size w w1 → Calls Tryd.prog 11 #[.string (⟨#[49, 58]⟩ ++ digS n)] w1 fun e w' => e = .returned (.tuple #[.int .i64 ((60 + n : Nat) : Int), .int .i64 0]) ∧ Below w1.heap.size w1 w') := fun w1 hb => parse_txt (⟨#[49, 58]⟩ ++ digS n) ([49, 58] ++ D n) (((60 + n : Nat) : Int), 0) w1 (app_dig [49, 58] n) (by simp; omega) (p2.trans (by rw [decide_eq_false (by omega)]; rw [endA_yes (by omega) (by omega), show 60 + n = 60 + n by omega])) (hE.next hb)
  have P3 : Hid (∀ w1, Below w.heap.size w w1 → Calls Tryd.prog 11 #[.string (⟨#[49, 58]⟩ ++ digS n ++ ⟨#[58, 48]⟩)] w1 fun e w' => e = .returned (.tuple #[.int .i64 ((3600 + 60 * n : Nat) : Int), .int .i64 0]) ∧ Below w1.heap.size w1 w') := fun w1 hb => parse_txt (⟨#[49, 58]⟩ ++ digS n ++ ⟨#[58, 48]⟩) ([49, 58] ++ D n ++ [58, 48]) (((3600 + 60 * n : Nat) : Int), 0) w1 (by rw [show (⟨#[49, 58]⟩ : ByteArray) = ⟨[49, 58].toArray⟩ from rfl, app_dig]; exact app_lit _ [58, 48]) (by simp; omega) (p3.trans (by rw [decide_eq_false (by omega)]; rw [endA_yes (by omega) (by omega), show (60 + n) * 60 = 3600 + 60 * n by omega])) (hE.next hb)
  have P4 : Hid (∀ w1, Below w.heap.size w w1 → Calls Tryd.prog 11 #[.string (digS n ++ ⟨#[58, 48, 58, 49]⟩)] w1 fun e w' => e = .returned (.tuple #[.int .i64 ((3600 * n + 1 : Nat) : Int), .int .i64 0]) ∧ Below w1.heap.size w1 w') := fun w1 hb => parse_txt (digS n ++ ⟨#[58, 48, 58, 49]⟩) (D n ++ [58, 48, 58, 49]) (((3600 * n + 1 : Nat) : Int), 0) w1 (app_lit (D n) [58, 48, 58, 49]) (by simp; omega) (p4.trans (by rw [endA_yes (by omega) (by omega), show n * 60 * 60 + 1 = 3600 * n + 1 by omega])) (hE.next hb)
  have P5 : Hid (∀ w1, Below w.heap.size w w1 → Calls Tryd.prog 11 #[.string (⟨#[49, 45]⟩ ++ digS n)] w1 fun e w' => e = .returned (.tuple #[.int .i64 ((86400 + 3600 * n : Nat) : Int), .int .i64 0]) ∧ Below w1.heap.size w1 w') := fun w1 hb => parse_txt (⟨#[49, 45]⟩ ++ digS n) ([49, 45] ++ D n) (((86400 + 3600 * n : Nat) : Int), 0) w1 (app_dig [49, 45] n) (by simp; omega) (p5.trans (by rw [decide_eq_false (by omega)]; rw [endA_yes (by omega) (by omega), show (24 + n) * 60 * 60 = 86400 + 3600 * n by omega])) (hE.next hb)
  have sz : (digS n).size ≤ 19 := digS_size (by omega)
  have a1 : (⟨#[49, 58]⟩ : ByteArray).size = 2 := rfl
  clear p1 p2 p3 p4 p5 hl hE
  generalize digS n = t at *
  have h60 : decide ((n : Int) < 60) = true := decide_eq_true (by omega)
  have h24 : decide ((n : Int) < 24) = true := decide_eq_true (by omega)
  have hz : ((n : Int) == 0) = false := by rw [beq_eq_false_iff_ne]; omega
  have hz2 : (n == 0) = false := by rw [beq_eq_false_iff_ne]; omega
  have B0 : Hid (Below w.heap.size w w) := Below.refl _ _
  go_enter Tryd.func7, Tryd.ntmps7
  go_wp2_with fail
  refine (T.out _).mono ?_; rintro e v0 ⟨rfl, b⟩
  have B1 := Lib.hid (below_next b B0.out); clear b B0
  go_wp2_with fail
  refine (P1.out _ B1.out).mono ?_; rintro e v1 ⟨rfl, b⟩
  have B2 := Lib.hid (below_next b B1.out); clear b B1
  go_wp2_with fail
  refine (P2.out _ B2.out).mono ?_; rintro e v2 ⟨rfl, b⟩
  have B3 := Lib.hid (below_next b B2.out); clear b B2
  go_wp2_with fail
  refine (P3.out _ B3.out).mono ?_; rintro e v3 ⟨rfl, b⟩
  have B4 := Lib.hid (below_next b B3.out); clear b B3
  go_wp2_with fail
  refine (P4.out _ B4.out).mono ?_; rintro e v4 ⟨rfl, b⟩
  have B5 := Lib.hid (below_next b B4.out); clear b B4
  go_wp2_with fail
  refine (P5.out _ B5.out).mono ?_; rintro e v5 ⟨rfl, b⟩
  have B6 := Lib.hid (below_next b B5.out); clear b B5
  go_wp2_with fail
  refine (K.out _ B6.out).mono ?_; rintro e vk ⟨rfl, b⟩
  have BK := Lib.hid (below_next b B6.out); clear b
  go_wp2_with fail
  go_ret
  exact ⟨rfl, BK.out⟩
open Go Go.RowKit in
set_option maxRecDepth 100000 in
set_option maxHeartbeats 1000000 in
theorem walk_mid (n : Nat) (w : World) (hE : Env7 w) (hn : n ≤ 65535) (hc : 24 ≤ n ∧ n < 60) :
    Calls Tryd.prog 7 #[.int .u16 n] w fun e w' => e = .returned (.bool true) ∧ Below w.heap.size w w' := by
  obtain ⟨p1, p2, p3, p4, p5⟩ := five n hn
  have hl := D_len (n := n) (by omega)
  have K : Hid (∀ w1, Below w.heap.size w w1 → Calls Tryd.prog 10 #[] w1 fun e w' => e = .returned (.bool true) ∧ Below w1.heap.size w1 w') := fun w1 hb => known_any w1 (hE.next hb)
  have T : Hid (∀ w1, Calls Tryd.prog 17 #[.int .i64 n] w1 fun e w' => e = .returned (.string (digS n)) ∧ Below w1.heap.size w1 w') := fun w1 => digits_any n w1 (by omega)
  have P1 : Hid (∀ w1, Below w.heap.size w w1 → Calls Tryd.prog 11 #[.string (digS n)] w1 fun e w' => e = .returned (.tuple #[.int .i64 ((60 * n : Nat) : Int), .int .i64 0]) ∧ Below w1.heap.size w1 w') := fun w1 hb => parse_txt (digS n) (D n) (((60 * n : Nat) : Int), 0) w1 rfl (by omega) (p1.trans (by rw [endA_yes (by omega) (by omega), show n * 60 = 60 * n by omega])) (hE.next hb)
  have P2 : Hid (∀ w1, Below w.heap.size w w1 → Calls Tryd.prog 11 #[.string (⟨#[49, 58]⟩ ++ digS n)] w1 fun e w' => e = .returned (.tuple #[.int .i64 ((60 + n : Nat) : Int), .int .i64 0]) ∧ Below w1.heap.size w1 w') := fun w1 hb => parse_txt (⟨#[49, 58]⟩ ++ digS n) ([49, 58] ++ D n) (((60 + n : Nat) : Int), 0) w1 (app_dig [49, 58] n) (by simp; omega) (p2.trans (by rw [decide_eq_false (by omega)]; rw [endA_yes (by omega) (by omega), show 60 + n = 60 + n by omega])) (hE.next hb)
  have P3 : Hid (∀ w1, Below w.heap.size w w1 → Calls Tryd.prog 11 #[.string (⟨#[49, 58]⟩ ++ digS n ++ ⟨#[58, 48]⟩)] w1 fun e w' => e = .returned (.tuple #[.int .i64 ((3600 + 60 * n : Nat) : Int), .int .i64 0]) ∧ Below w1.heap.size w1 w') := fun w1 hb => parse_txt (⟨#[49, 58]⟩ ++ digS n ++ ⟨#[58, 48]⟩) ([49, 58] ++ D n ++ [58, 48]) (((3600 + 60 * n : Nat) : Int), 0) w1 (by rw [show (⟨#[49, 58]⟩ : ByteArray) = ⟨[49, 58].toArray⟩ from rfl, app_dig]; exact app_lit _ [58, 48]) (by simp; omega) (p3.trans (by rw [decide_eq_false (by omega)]; rw [endA_yes (by omega) (by omega), show (60 + n) * 60 = 3600 + 60 * n by omega])) (hE.next hb)
  have P4 : Hid (∀ w1, Below w.heap.size w w1 → Calls Tryd.prog 11 #[.string (digS n ++ ⟨#[58, 48, 58, 49]⟩)] w1 fun e w' => e = .returned (.tuple #[.int .i64 ((3600 * n + 1 : Nat) : Int), .int .i64 0]) ∧ Below w1.heap.size w1 w') := fun w1 hb => parse_txt (digS n ++ ⟨#[58, 48, 58, 49]⟩) (D n ++ [58, 48, 58, 49]) (((3600 * n + 1 : Nat) : Int), 0) w1 (app_lit (D n) [58, 48, 58, 49]) (by simp; omega) (p4.trans (by rw [endA_yes (by omega) (by omega), show n * 60 * 60 + 1 = 3600 * n + 1 by omega])) (hE.next hb)
  have P5 : Hid (∀ w1, Below w.heap.size w w1 → Calls Tryd.prog 11 #[.string (⟨#[49, 45]⟩ ++ digS n)] w1 fun e w' => e = .returned (.tuple #[.int .i64 0, .int .i64 2]) ∧ Below w1.heap.size w1 w') := fun w1 hb => parse_txt (⟨#[49, 45]⟩ ++ digS n) ([49, 45] ++ D n) (0, 2) w1 (app_dig [49, 45] n) (by simp; omega) (p5.trans (by rw [decide_eq_true (by omega)]; exact endA_no _)) (hE.next hb)
  have sz : (digS n).size ≤ 19 := digS_size (by omega)
  have a1 : (⟨#[49, 58]⟩ : ByteArray).size = 2 := rfl
  clear p1 p2 p3 p4 p5 hl hE
  generalize digS n = t at *
  have h60 : decide ((n : Int) < 60) = true := decide_eq_true (by omega)
  have h24 : decide ((n : Int) < 24) = false := decide_eq_false (by omega)
  have h24b : decide ((n : Int) ≥ 24) = true := decide_eq_true (by omega)
  have h24c : decide (24 ≤ (n : Int)) = true := decide_eq_true (by omega)
  have h24d : decide (24 ≤ n) = true := decide_eq_true (by omega)
  have hz : ((n : Int) == 0) = false := by rw [beq_eq_false_iff_ne]; omega
  have hz2 : (n == 0) = false := by rw [beq_eq_false_iff_ne]; omega
  have B0 : Hid (Below w.heap.size w w) := Below.refl _ _
  go_enter Tryd.func7, Tryd.ntmps7
  go_wp2_with fail
  refine (T.out _).mono ?_; rintro e v0 ⟨rfl, b⟩
  have B1 := Lib.hid (below_next b B0.out); clear b B0
  go_wp2_with fail
  refine (P1.out _ B1.out).mono ?_; rintro e v1 ⟨rfl, b⟩
  have B2 := Lib.hid (below_next b B1.out); clear b B1
  go_wp2_with fail
  refine (P2.out _ B2.out).mono ?_; rintro e v2 ⟨rfl, b⟩
  have B3 := Lib.hid (below_next b B2.out); clear b B2
  go_wp2_with fail
  refine (P3.out _ B3.out).mono ?_; rintro e v3 ⟨rfl, b⟩
  have B4 := Lib.hid (below_next b B3.out); clear b B3
  go_wp2_with fail
  refine (P4.out _ B4.out).mono ?_; rintro e v4 ⟨rfl, b⟩
  have B5 := Lib.hid (below_next b B4.out); clear b B4
  go_wp2_with fail
  refine (P5.out _ B5.out).mono ?_; rintro e v5 ⟨rfl, b⟩
  have B6 := Lib.hid (below_next b B5.out); clear b B5
  go_wp2_with fail
  refine (K.out _ B6.out).mono ?_; rintro e vk ⟨rfl, b⟩
  have BK := Lib.hid (below_next b B6.out); clear b
  go_wp2_with fail
  go_ret
  exact ⟨rfl, BK.out⟩
open Go Go.RowKit in
set_option maxRecDepth 100000 in
set_option maxHeartbeats 1000000 in
theorem walk_high (n : Nat) (w : World) (hE : Env7 w) (hn : n ≤ 65535) (hc : 60 ≤ n) :
    Calls Tryd.prog 7 #[.int .u16 n] w fun e w' => e = .returned (.bool true) ∧ Below w.heap.size w w' := by
  obtain ⟨p1, p2, p3, p4, p5⟩ := five n hn
  have hl := D_len (n := n) (by omega)
  have K : Hid (∀ w1, Below w.heap.size w w1 → Calls Tryd.prog 10 #[] w1 fun e w' => e = .returned (.bool true) ∧ Below w1.heap.size w1 w') := fun w1 hb => known_any w1 (hE.next hb)
  have T : Hid (∀ w1, Calls Tryd.prog 17 #[.int .i64 n] w1 fun e w' => e = .returned (.string (digS n)) ∧ Below w1.heap.size w1 w') := fun w1 => digits_any n w1 (by omega)
  have P1 : Hid (∀ w1, Below w.heap.size w w1 → Calls Tryd.prog 11 #[.string (digS n)] w1 fun e w' => e = .returned (.tuple #[.int .i64 ((60 * n : Nat) : Int), .int .i64 0]) ∧ Below w1.heap.size w1 w') := fun w1 hb => parse_txt (digS n) (D n) (((60 * n : Nat) : Int), 0) w1 rfl (by omega) (p1.trans (by rw [endA_yes (by omega) (by omega), show n * 60 = 60 * n by omega])) (hE.next hb)
  have P2 : Hid (∀ w1, Below w.heap.size w w1 → Calls Tryd.prog 11 #[.string (⟨#[49, 58]⟩ ++ digS n)] w1 fun e w' => e = .returned (.tuple #[.int .i64 0, .int .i64 2]) ∧ Below w1.heap.size w1 w') := fun w1 hb => parse_txt (⟨#[49, 58]⟩ ++ digS n) ([49, 58] ++ D n) (0, 2) w1 (app_dig [49, 58] n) (by simp; omega) (p2.trans (by rw [decide_eq_true (by omega)]; exact endA_no _)) (hE.next hb)
  have P3 : Hid (∀ w1, Below w.heap.size w w1 → Calls Tryd.prog 11 #[.string (⟨#[49, 58]⟩ ++ digS n ++ ⟨#[58, 48]⟩)] w1 fun e w' => e = .returned (.tuple #[.int .i64 0, .int .i64 2]) ∧ Below w1.heap.size w1 w') := fun w1 hb => parse_txt (⟨#[49, 58]⟩ ++ digS n ++ ⟨#[58, 48]⟩) ([49, 58] ++ D n ++ [58, 48]) (0, 2) w1 (by rw [show (⟨#[49, 58]⟩ : ByteArray) = ⟨[49, 58].toArray⟩ from rfl, app_dig]; exact app_lit _ [58, 48]) (by simp; omega) (p3.trans (by rw [decide_eq_true (by omega)]; exact endA_no _)) (hE.next hb)
  have P4 : Hid (∀ w1, Below w.heap.size w w1 → Calls Tryd.prog 11 #[.string (digS n ++ ⟨#[58, 48, 58, 49]⟩)] w1 fun e w' => e = .returned (.tuple #[.int .i64 ((3600 * n + 1 : Nat) : Int), .int .i64 0]) ∧ Below w1.heap.size w1 w') := fun w1 hb => parse_txt (digS n ++ ⟨#[58, 48, 58, 49]⟩) (D n ++ [58, 48, 58, 49]) (((3600 * n + 1 : Nat) : Int), 0) w1 (app_lit (D n) [58, 48, 58, 49]) (by simp; omega) (p4.trans (by rw [endA_yes (by omega) (by omega), show n * 60 * 60 + 1 = 3600 * n + 1 by omega])) (hE.next hb)
  have P5 : Hid (∀ w1, Below w.heap.size w w1 → Calls Tryd.prog 11 #[.string (⟨#[49, 45]⟩ ++ digS n)] w1 fun e w' => e = .returned (.tuple #[.int .i64 0, .int .i64 2]) ∧ Below w1.heap.size w1 w') := fun w1 hb => parse_txt (⟨#[49, 45]⟩ ++ digS n) ([49, 45] ++ D n) (0, 2) w1 (app_dig [49, 45] n) (by simp; omega) (p5.trans (by rw [decide_eq_true (by omega)]; exact endA_no _)) (hE.next hb)
  have sz : (digS n).size ≤ 19 := digS_size (by omega)
  have a1 : (⟨#[49, 58]⟩ : ByteArray).size = 2 := rfl
  clear p1 p2 p3 p4 p5 hl hE
  generalize digS n = t at *
  have h60 : decide ((n : Int) < 60) = false := decide_eq_false (by omega)
  have h24 : decide ((n : Int) < 24) = false := decide_eq_false (by omega)
  have h24b : decide ((n : Int) ≥ 24) = true := decide_eq_true (by omega)
  have h24c : decide (24 ≤ (n : Int)) = true := decide_eq_true (by omega)
  have h24d : decide (24 ≤ n) = true := decide_eq_true (by omega)
  have h60b : decide ((n : Int) ≥ 60) = true := decide_eq_true (by omega)
  have h60c : decide (60 ≤ (n : Int)) = true := decide_eq_true (by omega)
  have h60d : decide (60 ≤ n) = true := decide_eq_true (by omega)
  have hz : ((n : Int) == 0) = false := by rw [beq_eq_false_iff_ne]; omega
  have hz2 : (n == 0) = false := by rw [beq_eq_false_iff_ne]; omega
  have B0 : Hid (Below w.heap.size w w) := Below.refl _ _
  go_enter Tryd.func7, Tryd.ntmps7
  go_wp2_with fail
  refine (T.out _).mono ?_; rintro e v0 ⟨rfl, b⟩
  have B1 := Lib.hid (below_next b B0.out); clear b B0
  go_wp2_with fail
  refine (P1.out _ B1.out).mono ?_; rintro e v1 ⟨rfl, b⟩
  have B2 := Lib.hid (below_next b B1.out); clear b B1
  go_wp2_with fail
  refine (P2.out _ B2.out).mono ?_; rintro e v2 ⟨rfl, b⟩
  have B3 := Lib.hid (below_next b B2.out); clear b B2
  go_wp2_with fail
  refine (P3.out _ B3.out).mono ?_; rintro e v3 ⟨rfl, b⟩
  have B4 := Lib.hid (below_next b B3.out); clear b B3
  go_wp2_with fail
  refine (P4.out _ B4.out).mono ?_; rintro e v4 ⟨rfl, b⟩
  have B5 := Lib.hid (below_next b B4.out); clear b B4
  go_wp2_with fail
  refine (P5.out _ B5.out).mono ?_; rintro e v5 ⟨rfl, b⟩
  have B6 := Lib.hid (below_next b B5.out); clear b B5
  go_wp2_with fail
  refine (K.out _ B6.out).mono ?_; rintro e vk ⟨rfl, b⟩
  have BK := Lib.hid (below_next b B6.out); clear b
  go_wp2_with fail
  go_ret
  exact ⟨rfl, BK.out⟩
open Go Go.RowKit in
theorem walk (x : Int) (w : World) (hE : Env7 w) (hx : (Lit.int .u16 x).wf = true) :
    Calls Tryd.prog 7 #[.int .u16 x] w fun e w' => e = .returned (.bool true) ∧ Below w.heap.size w w' := by
  have hb : 0 ≤ x ∧ x ≤ 65535 := by simpa [Lit.wf, IntKind.min, IntKind.max, IntKind.bits, IntKind.signed] using hx
  obtain ⟨n, rfl⟩ := Int.eq_ofNat_of_zero_le hb.1
  by_cases h0 : n = 0
  · exact walk_zero n w hE (by omega) h0
  · by_cases h1 : n < 24
    · exact walk_low n w hE (by omega) ⟨by omega, h1⟩
    · by_cases h2 : n < 60
      · exact walk_mid n w hE (by omega) ⟨by omega, h2⟩
      · exact walk_high n w hE (by omega) (by omega)


set_option maxRecDepth 100000 in
theorem lifted (os : Os) (started : os.Started) (H : Type) (enc : TypeId × Value → H) :
    ReturnsInHanded {} Tryd.checked os 7 .any (fun w args => (Rows.clockEndsSpec.pre enc Tryd.prog Tryd.f7 Rows.clockEndsRow.domain false w args ∧ laidMetH Tryd.prog laid7 w) ∧ sizedMet enc Tryd.prog Tryd.f7 (OpenSpec.ofChange Rows.clockEndsSpec) false w args) (Rows.clockEndsSpec.post enc Tryd.prog Tryd.f7 false true false false) := by
  refine laid_lift (C := Tryd.checked) (X := fun w _ => laidMetH Tryd.prog laid7 w) (fun _ _ _ hh h => h.of_heap hh) own started (by kernel_rfl) Tryd.func7
    (ChangeSpec.witness_shaped (enc := enc) (C := Tryd.checked) (os := os) (X := fun w _ => laidMetH Tryd.prog laid7 w) false (World.laidAll Tryd.prog os laid7) #[.int .u16 0] 8 (World.laidAll_os _ _ _)
      (World.shaped_of_ZipB (by kernel_rfl) (by kernel_rfl)) (by kernel_rfl) (by kernel_rfl) (by kernel_rfl)
      (by rw [MakeChecks.laidMetH_plain _ _ _ (by kernel_rfl)]; exact laidMet_laidAll _ (by kernel_rfl) (by kernel_rfl))) ?_
  intro W base args ds gs before hval0 hW hsz0 hL hS
  have hE := env7_of hL hS
  have hval : ∀ (j : Nat) t v, Tryd.f7.params[j]? = some t → args[j]? = some v → Value.okWide Tryd.prog W .any base t v := hval0
  have hW' := hW
  obtain ⟨p, q, hA0, hV, rfl, hfz, hnd⟩ := hW
  have hA : DataW.TrodAll enc Tryd.prog W 0 (fun _ => true) true Tryd.f7.params.toList args.toList ds p := hA0
  rw [Tryd.params7] at hA hval
  obtain ⟨v0, vs0, d0, ds0, p0, q0, hargs, rfl, rfl, h0, r0⟩ := trodAll_cons hA
  obtain ⟨rfl, rfl, rfl⟩ := trodAll_nil r0
  obtain rfl : args = #[v0] := by cases args; simp_all
  obtain ⟨n, rfl, rfl, rfl, w0⟩ := open_int Tryd.underlying36 (hval 0 36 v0 rfl rfl) h0
  clear hA0 hval0
  refine (walk n W hE w0).mono fun e W' ⟨he, hb⟩ => ?_
  subst he
  exact ⟨_, rfl, law_post (by kernel_rfl) (by kernel_rfl) rfl Tryd.underlying4 rfl hW' rfl hb⟩

theorem over : Rows.clockEndsRow.holds Tryd.pinned (OpenSpec.ofChange Rows.clockEndsSpec) :=
  OpenClaim.holds_of_wide 7 Tryd.f7 rfl rfl rfl rfl rfl rfl rfl ⟨rfl, rfl, rfl, rfl, rfl⟩ rfl rfl rfl rfl rfl (by kernel_rfl) Tryd.func7 (by kernel_rfl)
    (of_decide_eq_true (by kernel_rfl)) (by unfold Func.isWrapper; first | (rw [if_pos (by decide +kernel)]; kernel_rfl) | (rw [if_neg (by decide +kernel)]; exact ⟨rfl, rfl⟩))
    (fun os started H enc _ => lifted os started H enc)

theorem proved : Rows.ClockEndsCardSaid :=
  Claim7.holds_tied_plain_at .later [] _ true _ false over (fun _ h => by cases h) (by kernel_rfl) (fun _ h => by cases h) clockEnds_row_tie rfl ⟨rfl, rfl⟩ (by kernel_rfl) rfl
    (fun f fn hf hfn => by
      obtain rfl : f = 7 := Option.some.inj ((show Tryd.prog.funcNamed "ganger/gangerlaw07.ClockEnds" = some 7 by kernel_rfl).symm.trans hf) |>.symm
      obtain rfl : fn = Tryd.f7 := (Option.some.inj (Tryd.func7.symm.trans hfn)).symm
      exact ⟨by kernel_rfl, fun j t ht => by
        rw [Tryd.params7] at ht
        have hm : t ∈ [36] := by simpa using Array.mem_of_getElem? ht
        have hall : ([36].all fun u => !Tryd.prog.wantsStandIn u) = true := by kernel_rfl
        exact (show Tryd.prog.wantsStandIn t = false by simpa using List.all_eq_true.1 hall t hm)⟩)
    (by kernel_rfl)
#print axioms proved
end Go.Proofs.YtndlgjphkpceoaaDoor.clockEnds
