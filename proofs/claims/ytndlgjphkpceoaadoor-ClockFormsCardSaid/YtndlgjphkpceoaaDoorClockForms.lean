/-
  ClockForms: the forms say the same by the same parts: so the law returns true for every input, the listed tables of Go's library reading as the program's text lays them.
-/
import Derived.Test.YtndlgjphkpceoaaDoorClkW
import Derived.Test.YtndlgjphkpceoaaDoorClkY
import Derived.Test.YtndlgjphkpceoaaDoorRows
import Derived.Test.YtndlgjphkpceoaaDoorArgs2
import Derived.Test.YtndlgjphkpceoaaDoorLaid
import Derived.Test.YtndlgjphkpceoaaDoorCards
import Derived.Test.YtndlgjphkpceoaaDoorTie
import Derived.MakeChecks
import Derived.SevenTiedAt
namespace Go.Proofs.YtndlgjphkpceoaaDoor.clockForms
open Go.ChangeShapes Go.WideShapes Go.ChangeAt Go.RowKit
set_option linter.unusedVariables false

theorem own : ownKnob Tryd.prog.godebug = none := by kernel_rfl

open Go Go.RowKit in
theorem txt (d h m s : Nat) : digS d ++ ⟨#[45]⟩ ++ digS h ++ ⟨#[58]⟩ ++ digS m ++ ⟨#[58]⟩ ++ digS s = (⟨(D d ++ 45 :: (D h ++ 58 :: (D m ++ 58 :: D s))).toArray⟩ : ByteArray) ∧
    digS h ++ ⟨#[58]⟩ ++ digS m ++ ⟨#[58]⟩ ++ digS s = (⟨(D h ++ 58 :: (D m ++ 58 :: D s)).toArray⟩ : ByteArray) ∧ digS m ++ ⟨#[58]⟩ ++ digS s = (⟨(D m ++ 58 :: D s).toArray⟩ : ByteArray) ∧
    digS d ++ ⟨#[45]⟩ ++ digS h ++ ⟨#[58]⟩ ++ digS m = (⟨(D d ++ 45 :: (D h ++ 58 :: D m)).toArray⟩ : ByteArray) ∧ digS d ++ ⟨#[45]⟩ ++ digS h = (⟨(D d ++ 45 :: D h).toArray⟩ : ByteArray) := by
  refine ⟨?_, ?_, ?_, ?_, ?_⟩ <;> · apply ByteArray.ext; simp [digS, D]
open Go Go.RowKit in
set_option maxRecDepth 100000 in
set_option maxHeartbeats 4000000 in
theorem walk_nought (d0 h0 m0 s0 d h m s Dd M A q Y B S C : Nat) (w : World) (hE : Env7 w) (k1 : d0 ≤ 65535) (k2 : h0 ≤ 65535) (k3 : m0 ≤ 65535) (k4 : s0 ≤ 65535)
    (hd : d = d0 % 1000) (hh : h = h0 % 24) (hm : m = m0 % 60) (hs : s = s0 % 60) (hDd : Dd = d * 24 + h) (hM : M = Dd * 60 + m) (hA : A = M * 60 + s) (hq : q = Dd % 10000) (hY : Y = q * 60 + m) (hB : B = M * 60) (hS : S = s + 60 * m) (hC : C = Dd * 3600) (hc : A = 0) :
    Calls Tryd.prog 6 #[.int .u16 d0, .int .u16 h0, .int .u16 m0, .int .u16 s0] w fun e w' => e = .returned (.bool true) ∧ Below w.heap.size w w' := by
  have l1 : d < 1000 := by omega
  have l2 : h < 24 := by omega
  have l3 : m < 60 := by omega
  have l4 : s < 60 := by omega
  have l5 : Dd ≤ 23999 := by omega
  have l6 : M ≤ 1439999 := by omega
  have l7 : A ≤ 86399999 := by omega
  have l8 : q < 10000 := by omega
  have l9 : Y ≤ 600059 := by omega
  have l10 : B ≤ 86399940 := by omega
  have l11 : C ≤ 86396400 := by omega
  have l12 : S ≤ 3599 := by omega
  have r1 : (d0 : Int).tmod 1000 = (d : Nat) := by rw [Int.tmod_eq_emod_of_nonneg (by omega)]; omega
  have r2 : (h0 : Int).tmod 24 = (h : Nat) := by rw [Int.tmod_eq_emod_of_nonneg (by omega)]; omega
  have r3 : (m0 : Int).tmod 60 = (m : Nat) := by rw [Int.tmod_eq_emod_of_nonneg (by omega)]; omega
  have r4 : (s0 : Int).tmod 60 = (s : Nat) := by rw [Int.tmod_eq_emod_of_nonneg (by omega)]; omega
  have r1' : (d0 : Int) % 1000 = (d : Nat) := by omega
  have r2' : (h0 : Int) % 24 = (h : Nat) := by omega
  have r3' : (m0 : Int) % 60 = (m : Nat) := by omega
  have r4' : (s0 : Int) % 60 = (s : Nat) := by omega
  have e1 : (d : Int) * 24 + (h : Int) = (Dd : Nat) := by omega
  have e2 : (Dd : Int) * 60 + (m : Int) = (M : Nat) := by omega
  have e3 : (M : Int) * 60 + (s : Int) = (A : Nat) := by omega
  have e4 : (Dd : Int).tmod 10000 = (q : Nat) := by rw [Int.tmod_eq_emod_of_nonneg (by omega)]; omega
  have e4' : (Dd : Int) % 10000 = (q : Nat) := by omega
  have e5 : (q : Int) * 60 + (m : Int) = (Y : Nat) := by omega
  have e6 : (A : Int) - (s : Int) = (B : Nat) := by omega
  have e7 : (s : Int) + 60 * (m : Int) = (S : Nat) := by omega
  have e8 : (B : Int) - 60 * (m : Int) = (C : Nat) := by omega
  have K : Hid (∀ w1, Below w.heap.size w w1 → Calls Tryd.prog 10 #[] w1 fun e w' => e = .returned (.bool true) ∧ Below w1.heap.size w1 w') := fun w1 hb => known_any w1 (hE.next hb)
  have T1 : Hid (∀ w1, Calls Tryd.prog 17 #[.int .i64 d] w1 fun e w' => e = .returned (.string (digS d)) ∧ Below w1.heap.size w1 w') := fun w1 => digits_any d w1 (by omega)
  have T2 : Hid (∀ w1, Calls Tryd.prog 17 #[.int .i64 h] w1 fun e w' => e = .returned (.string (digS h)) ∧ Below w1.heap.size w1 w') := fun w1 => digits_any h w1 (by omega)
  have T3 : Hid (∀ w1, Calls Tryd.prog 17 #[.int .i64 m] w1 fun e w' => e = .returned (.string (digS m)) ∧ Below w1.heap.size w1 w') := fun w1 => digits_any m w1 (by omega)
  have T4 : Hid (∀ w1, Calls Tryd.prog 17 #[.int .i64 s] w1 fun e w' => e = .returned (.string (digS s)) ∧ Below w1.heap.size w1 w') := fun w1 => digits_any s w1 (by omega)
  have T5 : Hid (∀ w1, Calls Tryd.prog 17 #[.int .i64 Dd] w1 fun e w' => e = .returned (.string (digS Dd)) ∧ Below w1.heap.size w1 w') := fun w1 => digits_any Dd w1 (by omega)
  have T6 : Hid (∀ w1, Calls Tryd.prog 17 #[.int .i64 Y] w1 fun e w' => e = .returned (.string (digS Y)) ∧ Below w1.heap.size w1 w') := fun w1 => digits_any Y w1 (by omega)
  have x1 := D_len (n := d) (by omega)
  have x2 := D_len (n := h) (by omega)
  have x3 := D_len (n := m) (by omega)
  have x4 := D_len (n := s) (by omega)
  have x5 := D_len (n := Dd) (by omega)
  have x6 := D_len (n := Y) (by omega)
  have F1 := g3 (d := d) (h := h) (m := m) (s := s) (by omega) (by omega) (by omega) (by omega)
  have F2 := f3 (h := Dd) (m := m) (s := s) (by omega) (by omega) (by omega)
  have F3 := f2 (m := Y) (s := s) (by omega) (by omega)
  have F4 := g2 (d := d) (h := h) (m := m) (by omega) (by omega) (by omega)
  have F5 := g1 (d := d) (h := h) (by omega) (by omega)
  have v1 : decide (59 < m) = false := decide_eq_false (by omega)
  have v2 : decide (23 < h) = false := decide_eq_false (by omega)
  have v3 : decide (59 < s) = false := decide_eq_false (by omega)
  rw [v1, v2, v3] at F1
  rw [v1, v3] at F2
  rw [v3] at F3
  rw [v1, v2] at F4
  rw [v2] at F5
  simp only [Bool.or_false] at F1 F2 F4
  clear v1 v2 v3
  have P1 : Hid (∀ w1, Below w.heap.size w w1 → Calls Tryd.prog 11 #[.string (digS d ++ ⟨#[45]⟩ ++ digS h ++ ⟨#[58]⟩ ++ digS m ++ ⟨#[58]⟩ ++ digS s)] w1 fun e w' => e = .returned (.tuple #[.int .i64 0, .int .i64 2]) ∧ Below w1.heap.size w1 w') := fun w1 hb => parse_txt _ _ (0, 2) w1 (txt d h m s).1 (by simp; omega) (F1.trans (by rw [show ((d * 24 + h) * 60 + m) * 60 + s = 0 by omega]; exact endA_nil)) (hE.next hb)
  have P2 : Hid (∀ w1, Below w.heap.size w w1 → Calls Tryd.prog 11 #[.string (digS Dd ++ ⟨#[58]⟩ ++ digS m ++ ⟨#[58]⟩ ++ digS s)] w1 fun e w' => e = .returned (.tuple #[.int .i64 0, .int .i64 2]) ∧ Below w1.heap.size w1 w') := fun w1 hb => parse_txt _ _ (0, 2) w1 (txt d Dd m s).2.1 (by simp; omega) (F2.trans (by rw [show (Dd * 60 + m) * 60 + s = 0 by omega]; exact endA_nil)) (hE.next hb)
  have P3 : Hid (∀ w1, Below w.heap.size w w1 → Calls Tryd.prog 11 #[.string (digS Y ++ ⟨#[58]⟩ ++ digS s)] w1 fun e w' => e = .returned (.tuple #[.int .i64 0, .int .i64 2]) ∧ Below w1.heap.size w1 w') := fun w1 hb => parse_txt _ _ (0, 2) w1 (txt d h Y s).2.2.1 (by simp; omega) (F3.trans (by rw [show Y * 60 + s = 0 by omega]; exact endA_nil)) (hE.next hb)
  have P4 : Hid (∀ w1, Below w.heap.size w w1 → Calls Tryd.prog 11 #[.string (digS d ++ ⟨#[45]⟩ ++ digS h ++ ⟨#[58]⟩ ++ digS m)] w1 fun e w' => e = .returned (.tuple #[.int .i64 0, .int .i64 2]) ∧ Below w1.heap.size w1 w') := fun w1 hb => parse_txt _ _ (0, 2) w1 (txt d h m s).2.2.2.1 (by simp; omega) (F4.trans (by rw [show ((d * 24 + h) * 60 + m) * 60 = 0 by omega]; exact endA_nil)) (hE.next hb)
  have P5 : Hid (∀ w1, Below w.heap.size w w1 → Calls Tryd.prog 11 #[.string (digS d ++ ⟨#[45]⟩ ++ digS h)] w1 fun e w' => e = .returned (.tuple #[.int .i64 0, .int .i64 2]) ∧ Below w1.heap.size w1 w') := fun w1 hb => parse_txt _ _ (0, 2) w1 (txt d h m s).2.2.2.2 (by simp; omega) (F5.trans (by rw [show (d * 24 + h) * 60 * 60 = 0 by omega]; exact endA_nil)) (hE.next hb)
  have z1 : (digS d).size ≤ 19 := digS_size (by omega)
  have z2 : (digS h).size ≤ 19 := digS_size (by omega)
  have z3 : (digS m).size ≤ 19 := digS_size (by omega)
  have z4 : (digS s).size ≤ 19 := digS_size (by omega)
  have z5 : (digS Dd).size ≤ 19 := digS_size (by omega)
  have z6 : (digS Y).size ≤ 19 := digS_size (by omega)
  clear F1 F2 F3 F4 F5 x1 x2 x3 x4 x5 x6 hE
  have u1 : ((A : Int) == 0) = true := by rw [beq_iff_eq]; omega
  clear hd hh hm hs hDd hM hA hq hY hB hS hC hc
  have B0 : Hid (Below w.heap.size w w) := Below.refl _ _
  go_enter Tryd.func6, Tryd.ntmps6
  go_wp2_with fail
  refine (T1.out _).mono ?_; rintro e v0 ⟨rfl, b⟩
  have B1 := Lib.hid (below_next b B0.out); clear b B0
  go_wp2_with fail
  refine (T2.out _).mono ?_; rintro e v1 ⟨rfl, b⟩
  have B2 := Lib.hid (below_next b B1.out); clear b B1
  go_wp2_with fail
  refine (T3.out _).mono ?_; rintro e v2 ⟨rfl, b⟩
  have B3 := Lib.hid (below_next b B2.out); clear b B2
  go_wp2_with fail
  refine (T4.out _).mono ?_; rintro e v3 ⟨rfl, b⟩
  have B4 := Lib.hid (below_next b B3.out); clear b B3
  go_wp2_with fail
  refine (P1.out _ B4.out).mono ?_; rintro e v4 ⟨rfl, b⟩
  have B5 := Lib.hid (below_next b B4.out); clear b B4
  go_wp2_with fail
  refine (T5.out _).mono ?_; rintro e v5 ⟨rfl, b⟩
  have B6 := Lib.hid (below_next b B5.out); clear b B5
  go_wp2_with fail
  refine (P2.out _ B6.out).mono ?_; rintro e v6 ⟨rfl, b⟩
  have B7 := Lib.hid (below_next b B6.out); clear b B6
  go_wp2_with fail
  refine (T6.out _).mono ?_; rintro e v7 ⟨rfl, b⟩
  have B8 := Lib.hid (below_next b B7.out); clear b B7
  go_wp2_with fail
  refine (P3.out _ B8.out).mono ?_; rintro e v8 ⟨rfl, b⟩
  have B9 := Lib.hid (below_next b B8.out); clear b B8
  go_wp2_with fail
  refine (K.out _ B9.out).mono ?_; rintro e vk ⟨rfl, b⟩
  have BK := Lib.hid (below_next b B9.out); clear b
  go_wp2_with fail
  go_ret
  exact ⟨rfl, BK.out⟩
open Go Go.RowKit in
set_option maxRecDepth 100000 in
set_option maxHeartbeats 4000000 in
theorem walk_secs (d0 h0 m0 s0 d h m s Dd M A q Y B S C : Nat) (w : World) (hE : Env7 w) (k1 : d0 ≤ 65535) (k2 : h0 ≤ 65535) (k3 : m0 ≤ 65535) (k4 : s0 ≤ 65535)
    (hd : d = d0 % 1000) (hh : h = h0 % 24) (hm : m = m0 % 60) (hs : s = s0 % 60) (hDd : Dd = d * 24 + h) (hM : M = Dd * 60 + m) (hA : A = M * 60 + s) (hq : q = Dd % 10000) (hY : Y = q * 60 + m) (hB : B = M * 60) (hS : S = s + 60 * m) (hC : C = Dd * 3600) (hc : M = 0 ∧ 0 < A) :
    Calls Tryd.prog 6 #[.int .u16 d0, .int .u16 h0, .int .u16 m0, .int .u16 s0] w fun e w' => e = .returned (.bool true) ∧ Below w.heap.size w w' := by
  have l1 : d < 1000 := by omega
  have l2 : h < 24 := by omega
  have l3 : m < 60 := by omega
  have l4 : s < 60 := by omega
  have l5 : Dd ≤ 23999 := by omega
  have l6 : M ≤ 1439999 := by omega
  have l7 : A ≤ 86399999 := by omega
  have l8 : q < 10000 := by omega
  have l9 : Y ≤ 600059 := by omega
  have l10 : B ≤ 86399940 := by omega
  have l11 : C ≤ 86396400 := by omega
  have l12 : S ≤ 3599 := by omega
  have r1 : (d0 : Int).tmod 1000 = (d : Nat) := by rw [Int.tmod_eq_emod_of_nonneg (by omega)]; omega
  have r2 : (h0 : Int).tmod 24 = (h : Nat) := by rw [Int.tmod_eq_emod_of_nonneg (by omega)]; omega
  have r3 : (m0 : Int).tmod 60 = (m : Nat) := by rw [Int.tmod_eq_emod_of_nonneg (by omega)]; omega
  have r4 : (s0 : Int).tmod 60 = (s : Nat) := by rw [Int.tmod_eq_emod_of_nonneg (by omega)]; omega
  have r1' : (d0 : Int) % 1000 = (d : Nat) := by omega
  have r2' : (h0 : Int) % 24 = (h : Nat) := by omega
  have r3' : (m0 : Int) % 60 = (m : Nat) := by omega
  have r4' : (s0 : Int) % 60 = (s : Nat) := by omega
  have e1 : (d : Int) * 24 + (h : Int) = (Dd : Nat) := by omega
  have e2 : (Dd : Int) * 60 + (m : Int) = (M : Nat) := by omega
  have e3 : (M : Int) * 60 + (s : Int) = (A : Nat) := by omega
  have e4 : (Dd : Int).tmod 10000 = (q : Nat) := by rw [Int.tmod_eq_emod_of_nonneg (by omega)]; omega
  have e4' : (Dd : Int) % 10000 = (q : Nat) := by omega
  have e5 : (q : Int) * 60 + (m : Int) = (Y : Nat) := by omega
  have e6 : (A : Int) - (s : Int) = (B : Nat) := by omega
  have e7 : (s : Int) + 60 * (m : Int) = (S : Nat) := by omega
  have e8 : (B : Int) - 60 * (m : Int) = (C : Nat) := by omega
  have K : Hid (∀ w1, Below w.heap.size w w1 → Calls Tryd.prog 10 #[] w1 fun e w' => e = .returned (.bool true) ∧ Below w1.heap.size w1 w') := fun w1 hb => known_any w1 (hE.next hb)
  have T1 : Hid (∀ w1, Calls Tryd.prog 17 #[.int .i64 d] w1 fun e w' => e = .returned (.string (digS d)) ∧ Below w1.heap.size w1 w') := fun w1 => digits_any d w1 (by omega)
  have T2 : Hid (∀ w1, Calls Tryd.prog 17 #[.int .i64 h] w1 fun e w' => e = .returned (.string (digS h)) ∧ Below w1.heap.size w1 w') := fun w1 => digits_any h w1 (by omega)
  have T3 : Hid (∀ w1, Calls Tryd.prog 17 #[.int .i64 m] w1 fun e w' => e = .returned (.string (digS m)) ∧ Below w1.heap.size w1 w') := fun w1 => digits_any m w1 (by omega)
  have T4 : Hid (∀ w1, Calls Tryd.prog 17 #[.int .i64 s] w1 fun e w' => e = .returned (.string (digS s)) ∧ Below w1.heap.size w1 w') := fun w1 => digits_any s w1 (by omega)
  have T5 : Hid (∀ w1, Calls Tryd.prog 17 #[.int .i64 Dd] w1 fun e w' => e = .returned (.string (digS Dd)) ∧ Below w1.heap.size w1 w') := fun w1 => digits_any Dd w1 (by omega)
  have T6 : Hid (∀ w1, Calls Tryd.prog 17 #[.int .i64 Y] w1 fun e w' => e = .returned (.string (digS Y)) ∧ Below w1.heap.size w1 w') := fun w1 => digits_any Y w1 (by omega)
  have x1 := D_len (n := d) (by omega)
  have x2 := D_len (n := h) (by omega)
  have x3 := D_len (n := m) (by omega)
  have x4 := D_len (n := s) (by omega)
  have x5 := D_len (n := Dd) (by omega)
  have x6 := D_len (n := Y) (by omega)
  have F1 := g3 (d := d) (h := h) (m := m) (s := s) (by omega) (by omega) (by omega) (by omega)
  have F2 := f3 (h := Dd) (m := m) (s := s) (by omega) (by omega) (by omega)
  have F3 := f2 (m := Y) (s := s) (by omega) (by omega)
  have F4 := g2 (d := d) (h := h) (m := m) (by omega) (by omega) (by omega)
  have F5 := g1 (d := d) (h := h) (by omega) (by omega)
  have v1 : decide (59 < m) = false := decide_eq_false (by omega)
  have v2 : decide (23 < h) = false := decide_eq_false (by omega)
  have v3 : decide (59 < s) = false := decide_eq_false (by omega)
  rw [v1, v2, v3] at F1
  rw [v1, v3] at F2
  rw [v3] at F3
  rw [v1, v2] at F4
  rw [v2] at F5
  simp only [Bool.or_false] at F1 F2 F4
  clear v1 v2 v3
  have P1 : Hid (∀ w1, Below w.heap.size w w1 → Calls Tryd.prog 11 #[.string (digS d ++ ⟨#[45]⟩ ++ digS h ++ ⟨#[58]⟩ ++ digS m ++ ⟨#[58]⟩ ++ digS s)] w1 fun e w' => e = .returned (.tuple #[.int .i64 ((A : Nat) : Int), .int .i64 0]) ∧ Below w1.heap.size w1 w') := fun w1 hb => parse_txt _ _ (((A : Nat) : Int), 0) w1 (txt d h m s).1 (by simp; omega) (F1.trans (by rw [show ((d * 24 + h) * 60 + m) * 60 + s = A by omega]; exact endA_yes (by omega) (by omega))) (hE.next hb)
  have P2 : Hid (∀ w1, Below w.heap.size w w1 → Calls Tryd.prog 11 #[.string (digS Dd ++ ⟨#[58]⟩ ++ digS m ++ ⟨#[58]⟩ ++ digS s)] w1 fun e w' => e = .returned (.tuple #[.int .i64 ((A : Nat) : Int), .int .i64 0]) ∧ Below w1.heap.size w1 w') := fun w1 hb => parse_txt _ _ (((A : Nat) : Int), 0) w1 (txt d Dd m s).2.1 (by simp; omega) (F2.trans (by rw [show (Dd * 60 + m) * 60 + s = A by omega]; exact endA_yes (by omega) (by omega))) (hE.next hb)
  have P3 : Hid (∀ w1, Below w.heap.size w w1 → Calls Tryd.prog 11 #[.string (digS Y ++ ⟨#[58]⟩ ++ digS s)] w1 fun e w' => e = .returned (.tuple #[.int .i64 ((A : Nat) : Int), .int .i64 0]) ∧ Below w1.heap.size w1 w') := fun w1 hb => parse_txt _ _ (((A : Nat) : Int), 0) w1 (txt d h Y s).2.2.1 (by simp; omega) (F3.trans (by rw [show Y * 60 + s = A by omega]; exact endA_yes (by omega) (by omega))) (hE.next hb)
  have P4 : Hid (∀ w1, Below w.heap.size w w1 → Calls Tryd.prog 11 #[.string (digS d ++ ⟨#[45]⟩ ++ digS h ++ ⟨#[58]⟩ ++ digS m)] w1 fun e w' => e = .returned (.tuple #[.int .i64 0, .int .i64 2]) ∧ Below w1.heap.size w1 w') := fun w1 hb => parse_txt _ _ (0, 2) w1 (txt d h m s).2.2.2.1 (by simp; omega) (F4.trans (by rw [show ((d * 24 + h) * 60 + m) * 60 = 0 by omega]; exact endA_nil)) (hE.next hb)
  have P5 : Hid (∀ w1, Below w.heap.size w w1 → Calls Tryd.prog 11 #[.string (digS d ++ ⟨#[45]⟩ ++ digS h)] w1 fun e w' => e = .returned (.tuple #[.int .i64 0, .int .i64 2]) ∧ Below w1.heap.size w1 w') := fun w1 hb => parse_txt _ _ (0, 2) w1 (txt d h m s).2.2.2.2 (by simp; omega) (F5.trans (by rw [show (d * 24 + h) * 60 * 60 = 0 by omega]; exact endA_nil)) (hE.next hb)
  have z1 : (digS d).size ≤ 19 := digS_size (by omega)
  have z2 : (digS h).size ≤ 19 := digS_size (by omega)
  have z3 : (digS m).size ≤ 19 := digS_size (by omega)
  have z4 : (digS s).size ≤ 19 := digS_size (by omega)
  have z5 : (digS Dd).size ≤ 19 := digS_size (by omega)
  have z6 : (digS Y).size ≤ 19 := digS_size (by omega)
  clear F1 F2 F3 F4 F5 x1 x2 x3 x4 x5 x6 hE
  obtain rfl : B = 0 := by omega
  obtain rfl : C = 0 := by omega
  have u1 : ((A : Int) == 0) = false := by rw [beq_eq_false_iff_ne]; omega
  have u1b : (A == 0) = false := by rw [beq_eq_false_iff_ne]; omega
  have u2 : decide ((Dd : Int) < 10000) = true := decide_eq_true (by omega)
  have u3 : decide ((M : Int) ≤ 999999) = true := decide_eq_true (by omega)
  have u4 : decide ((A : Int) > (s : Int)) = false := decide_eq_false (by omega)
  have u5 : decide ((s : Int) < (A : Int)) = false := decide_eq_false (by omega)
  have u4b : decide (s < A) = false := decide_eq_false (by omega)
  have u6 : ((A : Int) == (S : Int)) = true := by rw [beq_iff_eq]; omega
  clear hd hh hm hs hDd hM hA hq hY hB hS hC hc
  have B0 : Hid (Below w.heap.size w w) := Below.refl _ _
  go_enter Tryd.func6, Tryd.ntmps6
  go_wp2_with fail
  refine (T1.out _).mono ?_; rintro e v0 ⟨rfl, b⟩
  have B1 := Lib.hid (below_next b B0.out); clear b B0
  go_wp2_with fail
  refine (T2.out _).mono ?_; rintro e v1 ⟨rfl, b⟩
  have B2 := Lib.hid (below_next b B1.out); clear b B1
  go_wp2_with fail
  refine (T3.out _).mono ?_; rintro e v2 ⟨rfl, b⟩
  have B3 := Lib.hid (below_next b B2.out); clear b B2
  go_wp2_with fail
  refine (T4.out _).mono ?_; rintro e v3 ⟨rfl, b⟩
  have B4 := Lib.hid (below_next b B3.out); clear b B3
  go_wp2_with fail
  refine (P1.out _ B4.out).mono ?_; rintro e v4 ⟨rfl, b⟩
  have B5 := Lib.hid (below_next b B4.out); clear b B4
  go_wp2_with fail
  refine (T5.out _).mono ?_; rintro e v5 ⟨rfl, b⟩
  have B6 := Lib.hid (below_next b B5.out); clear b B5
  go_wp2_with fail
  refine (P2.out _ B6.out).mono ?_; rintro e v6 ⟨rfl, b⟩
  have B7 := Lib.hid (below_next b B6.out); clear b B6
  go_wp2_with fail
  refine (T6.out _).mono ?_; rintro e v7 ⟨rfl, b⟩
  have B8 := Lib.hid (below_next b B7.out); clear b B7
  go_wp2_with fail
  refine (P3.out _ B8.out).mono ?_; rintro e v8 ⟨rfl, b⟩
  have B9 := Lib.hid (below_next b B8.out); clear b B8
  go_wp2_with fail
  refine (P4.out _ B9.out).mono ?_; rintro e v9 ⟨rfl, b⟩
  have B10 := Lib.hid (below_next b B9.out); clear b B9
  go_wp2_with fail
  refine (P5.out _ B10.out).mono ?_; rintro e v10 ⟨rfl, b⟩
  have B11 := Lib.hid (below_next b B10.out); clear b B10
  go_wp2_with fail
  refine (K.out _ B11.out).mono ?_; rintro e vk ⟨rfl, b⟩
  have BK := Lib.hid (below_next b B11.out); clear b
  go_wp2_with fail
  go_ret
  exact ⟨rfl, BK.out⟩
open Go Go.RowKit in
set_option maxRecDepth 100000 in
set_option maxHeartbeats 4000000 in
theorem walk_mins (d0 h0 m0 s0 d h m s Dd M A q Y B S C : Nat) (w : World) (hE : Env7 w) (k1 : d0 ≤ 65535) (k2 : h0 ≤ 65535) (k3 : m0 ≤ 65535) (k4 : s0 ≤ 65535)
    (hd : d = d0 % 1000) (hh : h = h0 % 24) (hm : m = m0 % 60) (hs : s = s0 % 60) (hDd : Dd = d * 24 + h) (hM : M = Dd * 60 + m) (hA : A = M * 60 + s) (hq : q = Dd % 10000) (hY : Y = q * 60 + m) (hB : B = M * 60) (hS : S = s + 60 * m) (hC : C = Dd * 3600) (hc : Dd = 0 ∧ 0 < M) :
    Calls Tryd.prog 6 #[.int .u16 d0, .int .u16 h0, .int .u16 m0, .int .u16 s0] w fun e w' => e = .returned (.bool true) ∧ Below w.heap.size w w' := by
  have l1 : d < 1000 := by omega
  have l2 : h < 24 := by omega
  have l3 : m < 60 := by omega
  have l4 : s < 60 := by omega
  have l5 : Dd ≤ 23999 := by omega
  have l6 : M ≤ 1439999 := by omega
  have l7 : A ≤ 86399999 := by omega
  have l8 : q < 10000 := by omega
  have l9 : Y ≤ 600059 := by omega
  have l10 : B ≤ 86399940 := by omega
  have l11 : C ≤ 86396400 := by omega
  have l12 : S ≤ 3599 := by omega
  have r1 : (d0 : Int).tmod 1000 = (d : Nat) := by rw [Int.tmod_eq_emod_of_nonneg (by omega)]; omega
  have r2 : (h0 : Int).tmod 24 = (h : Nat) := by rw [Int.tmod_eq_emod_of_nonneg (by omega)]; omega
  have r3 : (m0 : Int).tmod 60 = (m : Nat) := by rw [Int.tmod_eq_emod_of_nonneg (by omega)]; omega
  have r4 : (s0 : Int).tmod 60 = (s : Nat) := by rw [Int.tmod_eq_emod_of_nonneg (by omega)]; omega
  have r1' : (d0 : Int) % 1000 = (d : Nat) := by omega
  have r2' : (h0 : Int) % 24 = (h : Nat) := by omega
  have r3' : (m0 : Int) % 60 = (m : Nat) := by omega
  have r4' : (s0 : Int) % 60 = (s : Nat) := by omega
  have e1 : (d : Int) * 24 + (h : Int) = (Dd : Nat) := by omega
  have e2 : (Dd : Int) * 60 + (m : Int) = (M : Nat) := by omega
  have e3 : (M : Int) * 60 + (s : Int) = (A : Nat) := by omega
  have e4 : (Dd : Int).tmod 10000 = (q : Nat) := by rw [Int.tmod_eq_emod_of_nonneg (by omega)]; omega
  have e4' : (Dd : Int) % 10000 = (q : Nat) := by omega
  have e5 : (q : Int) * 60 + (m : Int) = (Y : Nat) := by omega
  have e6 : (A : Int) - (s : Int) = (B : Nat) := by omega
  have e7 : (s : Int) + 60 * (m : Int) = (S : Nat) := by omega
  have e8 : (B : Int) - 60 * (m : Int) = (C : Nat) := by omega
  have K : Hid (∀ w1, Below w.heap.size w w1 → Calls Tryd.prog 10 #[] w1 fun e w' => e = .returned (.bool true) ∧ Below w1.heap.size w1 w') := fun w1 hb => known_any w1 (hE.next hb)
  have T1 : Hid (∀ w1, Calls Tryd.prog 17 #[.int .i64 d] w1 fun e w' => e = .returned (.string (digS d)) ∧ Below w1.heap.size w1 w') := fun w1 => digits_any d w1 (by omega)
  have T2 : Hid (∀ w1, Calls Tryd.prog 17 #[.int .i64 h] w1 fun e w' => e = .returned (.string (digS h)) ∧ Below w1.heap.size w1 w') := fun w1 => digits_any h w1 (by omega)
  have T3 : Hid (∀ w1, Calls Tryd.prog 17 #[.int .i64 m] w1 fun e w' => e = .returned (.string (digS m)) ∧ Below w1.heap.size w1 w') := fun w1 => digits_any m w1 (by omega)
  have T4 : Hid (∀ w1, Calls Tryd.prog 17 #[.int .i64 s] w1 fun e w' => e = .returned (.string (digS s)) ∧ Below w1.heap.size w1 w') := fun w1 => digits_any s w1 (by omega)
  have T5 : Hid (∀ w1, Calls Tryd.prog 17 #[.int .i64 Dd] w1 fun e w' => e = .returned (.string (digS Dd)) ∧ Below w1.heap.size w1 w') := fun w1 => digits_any Dd w1 (by omega)
  have T6 : Hid (∀ w1, Calls Tryd.prog 17 #[.int .i64 Y] w1 fun e w' => e = .returned (.string (digS Y)) ∧ Below w1.heap.size w1 w') := fun w1 => digits_any Y w1 (by omega)
  have x1 := D_len (n := d) (by omega)
  have x2 := D_len (n := h) (by omega)
  have x3 := D_len (n := m) (by omega)
  have x4 := D_len (n := s) (by omega)
  have x5 := D_len (n := Dd) (by omega)
  have x6 := D_len (n := Y) (by omega)
  have F1 := g3 (d := d) (h := h) (m := m) (s := s) (by omega) (by omega) (by omega) (by omega)
  have F2 := f3 (h := Dd) (m := m) (s := s) (by omega) (by omega) (by omega)
  have F3 := f2 (m := Y) (s := s) (by omega) (by omega)
  have F4 := g2 (d := d) (h := h) (m := m) (by omega) (by omega) (by omega)
  have F5 := g1 (d := d) (h := h) (by omega) (by omega)
  have v1 : decide (59 < m) = false := decide_eq_false (by omega)
  have v2 : decide (23 < h) = false := decide_eq_false (by omega)
  have v3 : decide (59 < s) = false := decide_eq_false (by omega)
  rw [v1, v2, v3] at F1
  rw [v1, v3] at F2
  rw [v3] at F3
  rw [v1, v2] at F4
  rw [v2] at F5
  simp only [Bool.or_false] at F1 F2 F4
  clear v1 v2 v3
  have P1 : Hid (∀ w1, Below w.heap.size w w1 → Calls Tryd.prog 11 #[.string (digS d ++ ⟨#[45]⟩ ++ digS h ++ ⟨#[58]⟩ ++ digS m ++ ⟨#[58]⟩ ++ digS s)] w1 fun e w' => e = .returned (.tuple #[.int .i64 ((A : Nat) : Int), .int .i64 0]) ∧ Below w1.heap.size w1 w') := fun w1 hb => parse_txt _ _ (((A : Nat) : Int), 0) w1 (txt d h m s).1 (by simp; omega) (F1.trans (by rw [show ((d * 24 + h) * 60 + m) * 60 + s = A by omega]; exact endA_yes (by omega) (by omega))) (hE.next hb)
  have P2 : Hid (∀ w1, Below w.heap.size w w1 → Calls Tryd.prog 11 #[.string (digS Dd ++ ⟨#[58]⟩ ++ digS m ++ ⟨#[58]⟩ ++ digS s)] w1 fun e w' => e = .returned (.tuple #[.int .i64 ((A : Nat) : Int), .int .i64 0]) ∧ Below w1.heap.size w1 w') := fun w1 hb => parse_txt _ _ (((A : Nat) : Int), 0) w1 (txt d Dd m s).2.1 (by simp; omega) (F2.trans (by rw [show (Dd * 60 + m) * 60 + s = A by omega]; exact endA_yes (by omega) (by omega))) (hE.next hb)
  have P3 : Hid (∀ w1, Below w.heap.size w w1 → Calls Tryd.prog 11 #[.string (digS Y ++ ⟨#[58]⟩ ++ digS s)] w1 fun e w' => e = .returned (.tuple #[.int .i64 ((A : Nat) : Int), .int .i64 0]) ∧ Below w1.heap.size w1 w') := fun w1 hb => parse_txt _ _ (((A : Nat) : Int), 0) w1 (txt d h Y s).2.2.1 (by simp; omega) (F3.trans (by rw [show Y * 60 + s = A by omega]; exact endA_yes (by omega) (by omega))) (hE.next hb)
  have P4 : Hid (∀ w1, Below w.heap.size w w1 → Calls Tryd.prog 11 #[.string (digS d ++ ⟨#[45]⟩ ++ digS h ++ ⟨#[58]⟩ ++ digS m)] w1 fun e w' => e = .returned (.tuple #[.int .i64 ((B : Nat) : Int), .int .i64 0]) ∧ Below w1.heap.size w1 w') := fun w1 hb => parse_txt _ _ (((B : Nat) : Int), 0) w1 (txt d h m s).2.2.2.1 (by simp; omega) (F4.trans (by rw [show ((d * 24 + h) * 60 + m) * 60 = B by omega]; exact endA_yes (by omega) (by omega))) (hE.next hb)
  have P5 : Hid (∀ w1, Below w.heap.size w w1 → Calls Tryd.prog 11 #[.string (digS d ++ ⟨#[45]⟩ ++ digS h)] w1 fun e w' => e = .returned (.tuple #[.int .i64 0, .int .i64 2]) ∧ Below w1.heap.size w1 w') := fun w1 hb => parse_txt _ _ (0, 2) w1 (txt d h m s).2.2.2.2 (by simp; omega) (F5.trans (by rw [show (d * 24 + h) * 60 * 60 = 0 by omega]; exact endA_nil)) (hE.next hb)
  have z1 : (digS d).size ≤ 19 := digS_size (by omega)
  have z2 : (digS h).size ≤ 19 := digS_size (by omega)
  have z3 : (digS m).size ≤ 19 := digS_size (by omega)
  have z4 : (digS s).size ≤ 19 := digS_size (by omega)
  have z5 : (digS Dd).size ≤ 19 := digS_size (by omega)
  have z6 : (digS Y).size ≤ 19 := digS_size (by omega)
  clear F1 F2 F3 F4 F5 x1 x2 x3 x4 x5 x6 hE
  obtain rfl : C = 0 := by omega
  have u1 : ((A : Int) == 0) = false := by rw [beq_eq_false_iff_ne]; omega
  have u1b : (A == 0) = false := by rw [beq_eq_false_iff_ne]; omega
  have u2 : decide ((Dd : Int) < 10000) = true := decide_eq_true (by omega)
  have u3 : decide ((M : Int) ≤ 999999) = true := decide_eq_true (by omega)
  have u4 : decide ((A : Int) > (s : Int)) = true := decide_eq_true (by omega)
  have u5 : decide ((s : Int) < (A : Int)) = true := decide_eq_true (by omega)
  have u6 : ((A : Int) == (S : Int)) = true := by rw [beq_iff_eq]; omega
  clear hd hh hm hs hDd hM hA hq hY hB hS hC hc
  have B0 : Hid (Below w.heap.size w w) := Below.refl _ _
  go_enter Tryd.func6, Tryd.ntmps6
  go_wp2_with fail
  refine (T1.out _).mono ?_; rintro e v0 ⟨rfl, b⟩
  have B1 := Lib.hid (below_next b B0.out); clear b B0
  go_wp2_with fail
  refine (T2.out _).mono ?_; rintro e v1 ⟨rfl, b⟩
  have B2 := Lib.hid (below_next b B1.out); clear b B1
  go_wp2_with fail
  refine (T3.out _).mono ?_; rintro e v2 ⟨rfl, b⟩
  have B3 := Lib.hid (below_next b B2.out); clear b B2
  go_wp2_with fail
  refine (T4.out _).mono ?_; rintro e v3 ⟨rfl, b⟩
  have B4 := Lib.hid (below_next b B3.out); clear b B3
  go_wp2_with fail
  refine (P1.out _ B4.out).mono ?_; rintro e v4 ⟨rfl, b⟩
  have B5 := Lib.hid (below_next b B4.out); clear b B4
  go_wp2_with fail
  refine (T5.out _).mono ?_; rintro e v5 ⟨rfl, b⟩
  have B6 := Lib.hid (below_next b B5.out); clear b B5
  go_wp2_with fail
  refine (P2.out _ B6.out).mono ?_; rintro e v6 ⟨rfl, b⟩
  have B7 := Lib.hid (below_next b B6.out); clear b B6
  go_wp2_with fail
  refine (T6.out _).mono ?_; rintro e v7 ⟨rfl, b⟩
  have B8 := Lib.hid (below_next b B7.out); clear b B7
  go_wp2_with fail
  refine (P3.out _ B8.out).mono ?_; rintro e v8 ⟨rfl, b⟩
  have B9 := Lib.hid (below_next b B8.out); clear b B8
  go_wp2_with fail
  refine (P4.out _ B9.out).mono ?_; rintro e v9 ⟨rfl, b⟩
  have B10 := Lib.hid (below_next b B9.out); clear b B9
  go_wp2_with fail
  refine (P5.out _ B10.out).mono ?_; rintro e v10 ⟨rfl, b⟩
  have B11 := Lib.hid (below_next b B10.out); clear b B10
  go_wp2_with fail
  refine (K.out _ B11.out).mono ?_; rintro e vk ⟨rfl, b⟩
  have BK := Lib.hid (below_next b B11.out); clear b
  go_wp2_with fail
  go_ret
  exact ⟨rfl, BK.out⟩
open Go Go.RowKit in
set_option maxRecDepth 100000 in
set_option maxHeartbeats 4000000 in
theorem walk_hours (d0 h0 m0 s0 d h m s Dd M A q Y B S C : Nat) (w : World) (hE : Env7 w) (k1 : d0 ≤ 65535) (k2 : h0 ≤ 65535) (k3 : m0 ≤ 65535) (k4 : s0 ≤ 65535)
    (hd : d = d0 % 1000) (hh : h = h0 % 24) (hm : m = m0 % 60) (hs : s = s0 % 60) (hDd : Dd = d * 24 + h) (hM : M = Dd * 60 + m) (hA : A = M * 60 + s) (hq : q = Dd % 10000) (hY : Y = q * 60 + m) (hB : B = M * 60) (hS : S = s + 60 * m) (hC : C = Dd * 3600) (hc : 0 < Dd ∧ Dd < 10000) :
    Calls Tryd.prog 6 #[.int .u16 d0, .int .u16 h0, .int .u16 m0, .int .u16 s0] w fun e w' => e = .returned (.bool true) ∧ Below w.heap.size w w' := by
  have l1 : d < 1000 := by omega
  have l2 : h < 24 := by omega
  have l3 : m < 60 := by omega
  have l4 : s < 60 := by omega
  have l5 : Dd ≤ 23999 := by omega
  have l6 : M ≤ 1439999 := by omega
  have l7 : A ≤ 86399999 := by omega
  have l8 : q < 10000 := by omega
  have l9 : Y ≤ 600059 := by omega
  have l10 : B ≤ 86399940 := by omega
  have l11 : C ≤ 86396400 := by omega
  have l12 : S ≤ 3599 := by omega
  have r1 : (d0 : Int).tmod 1000 = (d : Nat) := by rw [Int.tmod_eq_emod_of_nonneg (by omega)]; omega
  have r2 : (h0 : Int).tmod 24 = (h : Nat) := by rw [Int.tmod_eq_emod_of_nonneg (by omega)]; omega
  have r3 : (m0 : Int).tmod 60 = (m : Nat) := by rw [Int.tmod_eq_emod_of_nonneg (by omega)]; omega
  have r4 : (s0 : Int).tmod 60 = (s : Nat) := by rw [Int.tmod_eq_emod_of_nonneg (by omega)]; omega
  have r1' : (d0 : Int) % 1000 = (d : Nat) := by omega
  have r2' : (h0 : Int) % 24 = (h : Nat) := by omega
  have r3' : (m0 : Int) % 60 = (m : Nat) := by omega
  have r4' : (s0 : Int) % 60 = (s : Nat) := by omega
  have e1 : (d : Int) * 24 + (h : Int) = (Dd : Nat) := by omega
  have e2 : (Dd : Int) * 60 + (m : Int) = (M : Nat) := by omega
  have e3 : (M : Int) * 60 + (s : Int) = (A : Nat) := by omega
  have e4 : (Dd : Int).tmod 10000 = (q : Nat) := by rw [Int.tmod_eq_emod_of_nonneg (by omega)]; omega
  have e4' : (Dd : Int) % 10000 = (q : Nat) := by omega
  have e5 : (q : Int) * 60 + (m : Int) = (Y : Nat) := by omega
  have e6 : (A : Int) - (s : Int) = (B : Nat) := by omega
  have e7 : (s : Int) + 60 * (m : Int) = (S : Nat) := by omega
  have e8 : (B : Int) - 60 * (m : Int) = (C : Nat) := by omega
  have K : Hid (∀ w1, Below w.heap.size w w1 → Calls Tryd.prog 10 #[] w1 fun e w' => e = .returned (.bool true) ∧ Below w1.heap.size w1 w') := fun w1 hb => known_any w1 (hE.next hb)
  have T1 : Hid (∀ w1, Calls Tryd.prog 17 #[.int .i64 d] w1 fun e w' => e = .returned (.string (digS d)) ∧ Below w1.heap.size w1 w') := fun w1 => digits_any d w1 (by omega)
  have T2 : Hid (∀ w1, Calls Tryd.prog 17 #[.int .i64 h] w1 fun e w' => e = .returned (.string (digS h)) ∧ Below w1.heap.size w1 w') := fun w1 => digits_any h w1 (by omega)
  have T3 : Hid (∀ w1, Calls Tryd.prog 17 #[.int .i64 m] w1 fun e w' => e = .returned (.string (digS m)) ∧ Below w1.heap.size w1 w') := fun w1 => digits_any m w1 (by omega)
  have T4 : Hid (∀ w1, Calls Tryd.prog 17 #[.int .i64 s] w1 fun e w' => e = .returned (.string (digS s)) ∧ Below w1.heap.size w1 w') := fun w1 => digits_any s w1 (by omega)
  have T5 : Hid (∀ w1, Calls Tryd.prog 17 #[.int .i64 Dd] w1 fun e w' => e = .returned (.string (digS Dd)) ∧ Below w1.heap.size w1 w') := fun w1 => digits_any Dd w1 (by omega)
  have T6 : Hid (∀ w1, Calls Tryd.prog 17 #[.int .i64 Y] w1 fun e w' => e = .returned (.string (digS Y)) ∧ Below w1.heap.size w1 w') := fun w1 => digits_any Y w1 (by omega)
  have x1 := D_len (n := d) (by omega)
  have x2 := D_len (n := h) (by omega)
  have x3 := D_len (n := m) (by omega)
  have x4 := D_len (n := s) (by omega)
  have x5 := D_len (n := Dd) (by omega)
  have x6 := D_len (n := Y) (by omega)
  have F1 := g3 (d := d) (h := h) (m := m) (s := s) (by omega) (by omega) (by omega) (by omega)
  have F2 := f3 (h := Dd) (m := m) (s := s) (by omega) (by omega) (by omega)
  have F3 := f2 (m := Y) (s := s) (by omega) (by omega)
  have F4 := g2 (d := d) (h := h) (m := m) (by omega) (by omega) (by omega)
  have F5 := g1 (d := d) (h := h) (by omega) (by omega)
  have v1 : decide (59 < m) = false := decide_eq_false (by omega)
  have v2 : decide (23 < h) = false := decide_eq_false (by omega)
  have v3 : decide (59 < s) = false := decide_eq_false (by omega)
  rw [v1, v2, v3] at F1
  rw [v1, v3] at F2
  rw [v3] at F3
  rw [v1, v2] at F4
  rw [v2] at F5
  simp only [Bool.or_false] at F1 F2 F4
  clear v1 v2 v3
  have P1 : Hid (∀ w1, Below w.heap.size w w1 → Calls Tryd.prog 11 #[.string (digS d ++ ⟨#[45]⟩ ++ digS h ++ ⟨#[58]⟩ ++ digS m ++ ⟨#[58]⟩ ++ digS s)] w1 fun e w' => e = .returned (.tuple #[.int .i64 ((A : Nat) : Int), .int .i64 0]) ∧ Below w1.heap.size w1 w') := fun w1 hb => parse_txt _ _ (((A : Nat) : Int), 0) w1 (txt d h m s).1 (by simp; omega) (F1.trans (by rw [show ((d * 24 + h) * 60 + m) * 60 + s = A by omega]; exact endA_yes (by omega) (by omega))) (hE.next hb)
  have P2 : Hid (∀ w1, Below w.heap.size w w1 → Calls Tryd.prog 11 #[.string (digS Dd ++ ⟨#[58]⟩ ++ digS m ++ ⟨#[58]⟩ ++ digS s)] w1 fun e w' => e = .returned (.tuple #[.int .i64 ((A : Nat) : Int), .int .i64 0]) ∧ Below w1.heap.size w1 w') := fun w1 hb => parse_txt _ _ (((A : Nat) : Int), 0) w1 (txt d Dd m s).2.1 (by simp; omega) (F2.trans (by rw [show (Dd * 60 + m) * 60 + s = A by omega]; exact endA_yes (by omega) (by omega))) (hE.next hb)
  have P3 : Hid (∀ w1, Below w.heap.size w w1 → Calls Tryd.prog 11 #[.string (digS Y ++ ⟨#[58]⟩ ++ digS s)] w1 fun e w' => e = .returned (.tuple #[.int .i64 ((A : Nat) : Int), .int .i64 0]) ∧ Below w1.heap.size w1 w') := fun w1 hb => parse_txt _ _ (((A : Nat) : Int), 0) w1 (txt d h Y s).2.2.1 (by simp; omega) (F3.trans (by rw [show Y * 60 + s = A by omega]; exact endA_yes (by omega) (by omega))) (hE.next hb)
  have P4 : Hid (∀ w1, Below w.heap.size w w1 → Calls Tryd.prog 11 #[.string (digS d ++ ⟨#[45]⟩ ++ digS h ++ ⟨#[58]⟩ ++ digS m)] w1 fun e w' => e = .returned (.tuple #[.int .i64 ((B : Nat) : Int), .int .i64 0]) ∧ Below w1.heap.size w1 w') := fun w1 hb => parse_txt _ _ (((B : Nat) : Int), 0) w1 (txt d h m s).2.2.2.1 (by simp; omega) (F4.trans (by rw [show ((d * 24 + h) * 60 + m) * 60 = B by omega]; exact endA_yes (by omega) (by omega))) (hE.next hb)
  have P5 : Hid (∀ w1, Below w.heap.size w w1 → Calls Tryd.prog 11 #[.string (digS d ++ ⟨#[45]⟩ ++ digS h)] w1 fun e w' => e = .returned (.tuple #[.int .i64 ((C : Nat) : Int), .int .i64 0]) ∧ Below w1.heap.size w1 w') := fun w1 hb => parse_txt _ _ (((C : Nat) : Int), 0) w1 (txt d h m s).2.2.2.2 (by simp; omega) (F5.trans (by rw [show (d * 24 + h) * 60 * 60 = C by omega]; exact endA_yes (by omega) (by omega))) (hE.next hb)
  have z1 : (digS d).size ≤ 19 := digS_size (by omega)
  have z2 : (digS h).size ≤ 19 := digS_size (by omega)
  have z3 : (digS m).size ≤ 19 := digS_size (by omega)
  have z4 : (digS s).size ≤ 19 := digS_size (by omega)
  have z5 : (digS Dd).size ≤ 19 := digS_size (by omega)
  have z6 : (digS Y).size ≤ 19 := digS_size (by omega)
  clear F1 F2 F3 F4 F5 x1 x2 x3 x4 x5 x6 hE
  have u1 : ((A : Int) == 0) = false := by rw [beq_eq_false_iff_ne]; omega
  have u1b : (A == 0) = false := by rw [beq_eq_false_iff_ne]; omega
  have u2 : decide ((Dd : Int) < 10000) = true := decide_eq_true (by omega)
  have u3 : decide ((M : Int) ≤ 999999) = true := decide_eq_true (by omega)
  have u4 : decide ((A : Int) > (s : Int)) = true := decide_eq_true (by omega)
  have u5 : decide ((s : Int) < (A : Int)) = true := decide_eq_true (by omega)
  have u6 : ((A : Int) == (S : Int)) = false := by rw [beq_eq_false_iff_ne]; omega
  have u6b : (A == S) = false := by rw [beq_eq_false_iff_ne]; omega
  clear hd hh hm hs hDd hM hA hq hY hB hS hC hc
  have B0 : Hid (Below w.heap.size w w) := Below.refl _ _
  go_enter Tryd.func6, Tryd.ntmps6
  go_wp2_with fail
  refine (T1.out _).mono ?_; rintro e v0 ⟨rfl, b⟩
  have B1 := Lib.hid (below_next b B0.out); clear b B0
  go_wp2_with fail
  refine (T2.out _).mono ?_; rintro e v1 ⟨rfl, b⟩
  have B2 := Lib.hid (below_next b B1.out); clear b B1
  go_wp2_with fail
  refine (T3.out _).mono ?_; rintro e v2 ⟨rfl, b⟩
  have B3 := Lib.hid (below_next b B2.out); clear b B2
  go_wp2_with fail
  refine (T4.out _).mono ?_; rintro e v3 ⟨rfl, b⟩
  have B4 := Lib.hid (below_next b B3.out); clear b B3
  go_wp2_with fail
  refine (P1.out _ B4.out).mono ?_; rintro e v4 ⟨rfl, b⟩
  have B5 := Lib.hid (below_next b B4.out); clear b B4
  go_wp2_with fail
  refine (T5.out _).mono ?_; rintro e v5 ⟨rfl, b⟩
  have B6 := Lib.hid (below_next b B5.out); clear b B5
  go_wp2_with fail
  refine (P2.out _ B6.out).mono ?_; rintro e v6 ⟨rfl, b⟩
  have B7 := Lib.hid (below_next b B6.out); clear b B6
  go_wp2_with fail
  refine (T6.out _).mono ?_; rintro e v7 ⟨rfl, b⟩
  have B8 := Lib.hid (below_next b B7.out); clear b B7
  go_wp2_with fail
  refine (P3.out _ B8.out).mono ?_; rintro e v8 ⟨rfl, b⟩
  have B9 := Lib.hid (below_next b B8.out); clear b B8
  go_wp2_with fail
  refine (P4.out _ B9.out).mono ?_; rintro e v9 ⟨rfl, b⟩
  have B10 := Lib.hid (below_next b B9.out); clear b B9
  go_wp2_with fail
  refine (P5.out _ B10.out).mono ?_; rintro e v10 ⟨rfl, b⟩
  have B11 := Lib.hid (below_next b B10.out); clear b B10
  go_wp2_with fail
  refine (K.out _ B11.out).mono ?_; rintro e vk ⟨rfl, b⟩
  have BK := Lib.hid (below_next b B11.out); clear b
  go_wp2_with fail
  go_ret
  exact ⟨rfl, BK.out⟩
open Go Go.RowKit in
set_option maxRecDepth 100000 in
set_option maxHeartbeats 4000000 in
theorem walk_days (d0 h0 m0 s0 d h m s Dd M A q Y B S C : Nat) (w : World) (hE : Env7 w) (k1 : d0 ≤ 65535) (k2 : h0 ≤ 65535) (k3 : m0 ≤ 65535) (k4 : s0 ≤ 65535)
    (hd : d = d0 % 1000) (hh : h = h0 % 24) (hm : m = m0 % 60) (hs : s = s0 % 60) (hDd : Dd = d * 24 + h) (hM : M = Dd * 60 + m) (hA : A = M * 60 + s) (hq : q = Dd % 10000) (hY : Y = q * 60 + m) (hB : B = M * 60) (hS : S = s + 60 * m) (hC : C = Dd * 3600) (hc : 10000 ≤ Dd) :
    Calls Tryd.prog 6 #[.int .u16 d0, .int .u16 h0, .int .u16 m0, .int .u16 s0] w fun e w' => e = .returned (.bool true) ∧ Below w.heap.size w w' := by
  have l1 : d < 1000 := by omega
  have l2 : h < 24 := by omega
  have l3 : m < 60 := by omega
  have l4 : s < 60 := by omega
  have l5 : Dd ≤ 23999 := by omega
  have l6 : M ≤ 1439999 := by omega
  have l7 : A ≤ 86399999 := by omega
  have l8 : q < 10000 := by omega
  have l9 : Y ≤ 600059 := by omega
  have l10 : B ≤ 86399940 := by omega
  have l11 : C ≤ 86396400 := by omega
  have l12 : S ≤ 3599 := by omega
  have r1 : (d0 : Int).tmod 1000 = (d : Nat) := by rw [Int.tmod_eq_emod_of_nonneg (by omega)]; omega
  have r2 : (h0 : Int).tmod 24 = (h : Nat) := by rw [Int.tmod_eq_emod_of_nonneg (by omega)]; omega
  have r3 : (m0 : Int).tmod 60 = (m : Nat) := by rw [Int.tmod_eq_emod_of_nonneg (by omega)]; omega
  have r4 : (s0 : Int).tmod 60 = (s : Nat) := by rw [Int.tmod_eq_emod_of_nonneg (by omega)]; omega
  have r1' : (d0 : Int) % 1000 = (d : Nat) := by omega
  have r2' : (h0 : Int) % 24 = (h : Nat) := by omega
  have r3' : (m0 : Int) % 60 = (m : Nat) := by omega
  have r4' : (s0 : Int) % 60 = (s : Nat) := by omega
  have e1 : (d : Int) * 24 + (h : Int) = (Dd : Nat) := by omega
  have e2 : (Dd : Int) * 60 + (m : Int) = (M : Nat) := by omega
  have e3 : (M : Int) * 60 + (s : Int) = (A : Nat) := by omega
  have e4 : (Dd : Int).tmod 10000 = (q : Nat) := by rw [Int.tmod_eq_emod_of_nonneg (by omega)]; omega
  have e4' : (Dd : Int) % 10000 = (q : Nat) := by omega
  have e5 : (q : Int) * 60 + (m : Int) = (Y : Nat) := by omega
  have e6 : (A : Int) - (s : Int) = (B : Nat) := by omega
  have e7 : (s : Int) + 60 * (m : Int) = (S : Nat) := by omega
  have e8 : (B : Int) - 60 * (m : Int) = (C : Nat) := by omega
  have K : Hid (∀ w1, Below w.heap.size w w1 → Calls Tryd.prog 10 #[] w1 fun e w' => e = .returned (.bool true) ∧ Below w1.heap.size w1 w') := fun w1 hb => known_any w1 (hE.next hb)
  have T1 : Hid (∀ w1, Calls Tryd.prog 17 #[.int .i64 d] w1 fun e w' => e = .returned (.string (digS d)) ∧ Below w1.heap.size w1 w') := fun w1 => digits_any d w1 (by omega)
  have T2 : Hid (∀ w1, Calls Tryd.prog 17 #[.int .i64 h] w1 fun e w' => e = .returned (.string (digS h)) ∧ Below w1.heap.size w1 w') := fun w1 => digits_any h w1 (by omega)
  have T3 : Hid (∀ w1, Calls Tryd.prog 17 #[.int .i64 m] w1 fun e w' => e = .returned (.string (digS m)) ∧ Below w1.heap.size w1 w') := fun w1 => digits_any m w1 (by omega)
  have T4 : Hid (∀ w1, Calls Tryd.prog 17 #[.int .i64 s] w1 fun e w' => e = .returned (.string (digS s)) ∧ Below w1.heap.size w1 w') := fun w1 => digits_any s w1 (by omega)
  have T5 : Hid (∀ w1, Calls Tryd.prog 17 #[.int .i64 Dd] w1 fun e w' => e = .returned (.string (digS Dd)) ∧ Below w1.heap.size w1 w') := fun w1 => digits_any Dd w1 (by omega)
  have T6 : Hid (∀ w1, Calls Tryd.prog 17 #[.int .i64 Y] w1 fun e w' => e = .returned (.string (digS Y)) ∧ Below w1.heap.size w1 w') := fun w1 => digits_any Y w1 (by omega)
  have x1 := D_len (n := d) (by omega)
  have x2 := D_len (n := h) (by omega)
  have x3 := D_len (n := m) (by omega)
  have x4 := D_len (n := s) (by omega)
  have x5 := D_len (n := Dd) (by omega)
  have x6 := D_len (n := Y) (by omega)
  have F1 := g3 (d := d) (h := h) (m := m) (s := s) (by omega) (by omega) (by omega) (by omega)
  have F2 := f3 (h := Dd) (m := m) (s := s) (by omega) (by omega) (by omega)
  have F3 := f2 (m := Y) (s := s) (by omega) (by omega)
  have F4 := g2 (d := d) (h := h) (m := m) (by omega) (by omega) (by omega)
  have F5 := g1 (d := d) (h := h) (by omega) (by omega)
  have v1 : decide (59 < m) = false := decide_eq_false (by omega)
  have v2 : decide (23 < h) = false := decide_eq_false (by omega)
  have v3 : decide (59 < s) = false := decide_eq_false (by omega)
  rw [v1, v2, v3] at F1
  rw [v1, v3] at F2
  rw [v3] at F3
  rw [v1, v2] at F4
  rw [v2] at F5
  simp only [Bool.or_false] at F1 F2 F4
  clear v1 v2 v3
  have P1 : Hid (∀ w1, Below w.heap.size w w1 → Calls Tryd.prog 11 #[.string (digS d ++ ⟨#[45]⟩ ++ digS h ++ ⟨#[58]⟩ ++ digS m ++ ⟨#[58]⟩ ++ digS s)] w1 fun e w' => e = .returned (.tuple #[.int .i64 ((A : Nat) : Int), .int .i64 0]) ∧ Below w1.heap.size w1 w') := fun w1 hb => parse_txt _ _ (((A : Nat) : Int), 0) w1 (txt d h m s).1 (by simp; omega) (F1.trans (by rw [show ((d * 24 + h) * 60 + m) * 60 + s = A by omega]; exact endA_yes (by omega) (by omega))) (hE.next hb)
  have P2 : Hid (∀ w1, Below w.heap.size w w1 → Calls Tryd.prog 11 #[.string (digS Dd ++ ⟨#[58]⟩ ++ digS m ++ ⟨#[58]⟩ ++ digS s)] w1 fun e w' => e = .returned (.tuple #[.int .i64 ((A : Nat) : Int), .int .i64 0]) ∧ Below w1.heap.size w1 w') := fun w1 hb => parse_txt _ _ (((A : Nat) : Int), 0) w1 (txt d Dd m s).2.1 (by simp; omega) (F2.trans (by rw [show (Dd * 60 + m) * 60 + s = A by omega]; exact endA_yes (by omega) (by omega))) (hE.next hb)
  have P3 : Hid (∀ w1, Below w.heap.size w w1 → Calls Tryd.prog 11 #[.string (digS Y ++ ⟨#[58]⟩ ++ digS s)] w1 fun e w' => e = .returned (.tuple #[.int .i64 (endA false (Y * 60 + s)).1, .int .i64 (endA false (Y * 60 + s)).2]) ∧ Below w1.heap.size w1 w') := fun w1 hb => parse_txt _ _ ((endA false (Y * 60 + s)).1, (endA false (Y * 60 + s)).2) w1 (txt d h Y s).2.2.1 (by simp; omega) (F3) (hE.next hb)
  have P4 : Hid (∀ w1, Below w.heap.size w w1 → Calls Tryd.prog 11 #[.string (digS d ++ ⟨#[45]⟩ ++ digS h ++ ⟨#[58]⟩ ++ digS m)] w1 fun e w' => e = .returned (.tuple #[.int .i64 ((B : Nat) : Int), .int .i64 0]) ∧ Below w1.heap.size w1 w') := fun w1 hb => parse_txt _ _ (((B : Nat) : Int), 0) w1 (txt d h m s).2.2.2.1 (by simp; omega) (F4.trans (by rw [show ((d * 24 + h) * 60 + m) * 60 = B by omega]; exact endA_yes (by omega) (by omega))) (hE.next hb)
  have P5 : Hid (∀ w1, Below w.heap.size w w1 → Calls Tryd.prog 11 #[.string (digS d ++ ⟨#[45]⟩ ++ digS h)] w1 fun e w' => e = .returned (.tuple #[.int .i64 ((C : Nat) : Int), .int .i64 0]) ∧ Below w1.heap.size w1 w') := fun w1 hb => parse_txt _ _ (((C : Nat) : Int), 0) w1 (txt d h m s).2.2.2.2 (by simp; omega) (F5.trans (by rw [show (d * 24 + h) * 60 * 60 = C by omega]; exact endA_yes (by omega) (by omega))) (hE.next hb)
  have z1 : (digS d).size ≤ 19 := digS_size (by omega)
  have z2 : (digS h).size ≤ 19 := digS_size (by omega)
  have z3 : (digS m).size ≤ 19 := digS_size (by omega)
  have z4 : (digS s).size ≤ 19 := digS_size (by omega)
  have z5 : (digS Dd).size ≤ 19 := digS_size (by omega)
  have z6 : (digS Y).size ≤ 19 := digS_size (by omega)
  clear F1 F2 F3 F4 F5 x1 x2 x3 x4 x5 x6 hE
  generalize (endA false (Y * 60 + s)).1 = c1 at *
  generalize (endA false (Y * 60 + s)).2 = c2 at *
  have u1 : ((A : Int) == 0) = false := by rw [beq_eq_false_iff_ne]; omega
  have u1b : (A == 0) = false := by rw [beq_eq_false_iff_ne]; omega
  have u2 : decide ((Dd : Int) < 10000) = false := decide_eq_false (by omega)
  have u4 : decide ((A : Int) > (s : Int)) = true := decide_eq_true (by omega)
  have u5 : decide ((s : Int) < (A : Int)) = true := decide_eq_true (by omega)
  have u6 : ((A : Int) == (S : Int)) = false := by rw [beq_eq_false_iff_ne]; omega
  have u6b : (A == S) = false := by rw [beq_eq_false_iff_ne]; omega
  clear hd hh hm hs hDd hM hA hq hY hB hS hC hc
  have B0 : Hid (Below w.heap.size w w) := Below.refl _ _
  go_enter Tryd.func6, Tryd.ntmps6
  go_wp2_with fail
  refine (T1.out _).mono ?_; rintro e v0 ⟨rfl, b⟩
  have B1 := Lib.hid (below_next b B0.out); clear b B0
  go_wp2_with fail
  refine (T2.out _).mono ?_; rintro e v1 ⟨rfl, b⟩
  have B2 := Lib.hid (below_next b B1.out); clear b B1
  go_wp2_with fail
  refine (T3.out _).mono ?_; rintro e v2 ⟨rfl, b⟩
  have B3 := Lib.hid (below_next b B2.out); clear b B2
  go_wp2_with fail
  refine (T4.out _).mono ?_; rintro e v3 ⟨rfl, b⟩
  have B4 := Lib.hid (below_next b B3.out); clear b B3
  go_wp2_with fail
  refine (P1.out _ B4.out).mono ?_; rintro e v4 ⟨rfl, b⟩
  have B5 := Lib.hid (below_next b B4.out); clear b B4
  go_wp2_with fail
  refine (T5.out _).mono ?_; rintro e v5 ⟨rfl, b⟩
  have B6 := Lib.hid (below_next b B5.out); clear b B5
  go_wp2_with fail
  refine (P2.out _ B6.out).mono ?_; rintro e v6 ⟨rfl, b⟩
  have B7 := Lib.hid (below_next b B6.out); clear b B6
  go_wp2_with fail
  refine (T6.out _).mono ?_; rintro e v7 ⟨rfl, b⟩
  have B8 := Lib.hid (below_next b B7.out); clear b B7
  go_wp2_with fail
  refine (P3.out _ B8.out).mono ?_; rintro e v8 ⟨rfl, b⟩
  have B9 := Lib.hid (below_next b B8.out); clear b B8
  go_wp2_with fail
  refine (P4.out _ B9.out).mono ?_; rintro e v9 ⟨rfl, b⟩
  have B10 := Lib.hid (below_next b B9.out); clear b B9
  go_wp2_with fail
  refine (P5.out _ B10.out).mono ?_; rintro e v10 ⟨rfl, b⟩
  have B11 := Lib.hid (below_next b B10.out); clear b B10
  go_wp2_with fail
  refine (K.out _ B11.out).mono ?_; rintro e vk ⟨rfl, b⟩
  have BK := Lib.hid (below_next b B11.out); clear b
  go_wp2_with fail
  go_ret
  exact ⟨rfl, BK.out⟩
open Go Go.RowKit in
theorem walk (d h m s : Int) (w : World) (hE : Env7 w) (hd : (Lit.int .u16 d).wf = true) (hh : (Lit.int .u16 h).wf = true) (hm : (Lit.int .u16 m).wf = true) (hs : (Lit.int .u16 s).wf = true) :
    Calls Tryd.prog 6 #[.int .u16 d, .int .u16 h, .int .u16 m, .int .u16 s] w fun e w' => e = .returned (.bool true) ∧ Below w.heap.size w w' := by
  have b1 : 0 ≤ d ∧ d ≤ 65535 := by simpa [Lit.wf, IntKind.min, IntKind.max, IntKind.bits, IntKind.signed] using hd
  have b2 : 0 ≤ h ∧ h ≤ 65535 := by simpa [Lit.wf, IntKind.min, IntKind.max, IntKind.bits, IntKind.signed] using hh
  have b3 : 0 ≤ m ∧ m ≤ 65535 := by simpa [Lit.wf, IntKind.min, IntKind.max, IntKind.bits, IntKind.signed] using hm
  have b4 : 0 ≤ s ∧ s ≤ 65535 := by simpa [Lit.wf, IntKind.min, IntKind.max, IntKind.bits, IntKind.signed] using hs
  obtain ⟨d, rfl⟩ := Int.eq_ofNat_of_zero_le b1.1
  obtain ⟨h, rfl⟩ := Int.eq_ofNat_of_zero_le b2.1
  obtain ⟨m, rfl⟩ := Int.eq_ofNat_of_zero_le b3.1
  obtain ⟨s, rfl⟩ := Int.eq_ofNat_of_zero_le b4.1
  by_cases c1 : (((d % 1000) * 24 + h % 24) * 60 + m % 60) * 60 + s % 60 = 0
  · exact walk_nought d h m s _ _ _ _ _ _ _ _ _ _ _ _ w hE (by omega) (by omega) (by omega) (by omega) rfl rfl rfl rfl rfl rfl rfl rfl rfl rfl rfl rfl c1
  · by_cases c2 : ((d % 1000) * 24 + h % 24) * 60 + m % 60 = 0
    · exact walk_secs d h m s _ _ _ _ _ _ _ _ _ _ _ _ w hE (by omega) (by omega) (by omega) (by omega) rfl rfl rfl rfl rfl rfl rfl rfl rfl rfl rfl rfl ⟨c2, by omega⟩
    · by_cases c3 : (d % 1000) * 24 + h % 24 = 0
      · exact walk_mins d h m s _ _ _ _ _ _ _ _ _ _ _ _ w hE (by omega) (by omega) (by omega) (by omega) rfl rfl rfl rfl rfl rfl rfl rfl rfl rfl rfl rfl ⟨c3, by omega⟩
      · by_cases c4 : (d % 1000) * 24 + h % 24 < 10000
        · exact walk_hours d h m s _ _ _ _ _ _ _ _ _ _ _ _ w hE (by omega) (by omega) (by omega) (by omega) rfl rfl rfl rfl rfl rfl rfl rfl rfl rfl rfl rfl ⟨by omega, c4⟩
        · exact walk_days d h m s _ _ _ _ _ _ _ _ _ _ _ _ w hE (by omega) (by omega) (by omega) (by omega) rfl rfl rfl rfl rfl rfl rfl rfl rfl rfl rfl rfl (by omega)


set_option maxRecDepth 100000 in
theorem lifted (os : Os) (started : os.Started) (H : Type) (enc : TypeId × Value → H) :
    ReturnsInHanded {} Tryd.checked os 6 .any (fun w args => (Rows.clockFormsSpec.pre enc Tryd.prog Tryd.f6 Rows.clockFormsRow.domain false w args ∧ laidMetH Tryd.prog laid7 w) ∧ sizedMet enc Tryd.prog Tryd.f6 (OpenSpec.ofChange Rows.clockFormsSpec) false w args) (Rows.clockFormsSpec.post enc Tryd.prog Tryd.f6 false true false false) := by
  refine laid_lift (C := Tryd.checked) (X := fun w _ => laidMetH Tryd.prog laid7 w) (fun _ _ _ hh h => h.of_heap hh) own started (by kernel_rfl) Tryd.func6
    (ChangeSpec.witness_shaped (enc := enc) (C := Tryd.checked) (os := os) (X := fun w _ => laidMetH Tryd.prog laid7 w) false (World.laidAll Tryd.prog os laid7) #[.int .u16 0, .int .u16 0, .int .u16 0, .int .u16 0] 8 (World.laidAll_os _ _ _)
      (World.shaped_of_ZipB (by kernel_rfl) (by kernel_rfl)) (by kernel_rfl) (by kernel_rfl) (by kernel_rfl)
      (by rw [MakeChecks.laidMetH_plain _ _ _ (by kernel_rfl)]; exact laidMet_laidAll _ (by kernel_rfl) (by kernel_rfl))) ?_
  intro W base args ds gs before hval0 hW hsz0 hL hS
  have hE := env7_of hL hS
  have hval : ∀ (j : Nat) t v, Tryd.f6.params[j]? = some t → args[j]? = some v → Value.okWide Tryd.prog W .any base t v := hval0
  have hW' := hW
  obtain ⟨p, q, hA0, hV, rfl, hfz, hnd⟩ := hW
  have hA : DataW.TrodAll enc Tryd.prog W 0 (fun _ => true) true Tryd.f6.params.toList args.toList ds p := hA0
  rw [Tryd.params6] at hA hval
  obtain ⟨v0, vs0, d0, ds0, p0, q0, hargs, rfl, rfl, h0, r0⟩ := trodAll_cons hA
  obtain ⟨v1, vs1, d1, ds1, p1, q1, rfl, rfl, rfl, h1, r1⟩ := trodAll_cons r0
  obtain ⟨v2, vs2, d2, ds2, p2, q2, rfl, rfl, rfl, h2, r2⟩ := trodAll_cons r1
  obtain ⟨v3, vs3, d3, ds3, p3, q3, rfl, rfl, rfl, h3, r3⟩ := trodAll_cons r2
  obtain ⟨rfl, rfl, rfl⟩ := trodAll_nil r3
  obtain rfl : args = #[v0, v1, v2, v3] := by cases args; simp_all
  obtain ⟨d, rfl, rfl, rfl, w0⟩ := open_int Tryd.underlying36 (hval 0 36 v0 rfl rfl) h0
  obtain ⟨h, rfl, rfl, rfl, w1⟩ := open_int Tryd.underlying36 (hval 1 36 v1 rfl rfl) h1
  obtain ⟨m, rfl, rfl, rfl, w2⟩ := open_int Tryd.underlying36 (hval 2 36 v2 rfl rfl) h2
  obtain ⟨s, rfl, rfl, rfl, w3⟩ := open_int Tryd.underlying36 (hval 3 36 v3 rfl rfl) h3
  clear hA0 hval0
  refine (walk d h m s W hE w0 w1 w2 w3).mono fun e W' ⟨he, hb⟩ => ?_
  subst he
  exact ⟨_, rfl, law_post (by kernel_rfl) (by kernel_rfl) rfl Tryd.underlying4 rfl hW' rfl hb⟩

theorem over : Rows.clockFormsRow.holds Tryd.pinned (OpenSpec.ofChange Rows.clockFormsSpec) :=
  OpenClaim.holds_of_wide 6 Tryd.f6 rfl rfl rfl rfl rfl rfl rfl ⟨rfl, rfl, rfl, rfl, rfl⟩ rfl rfl rfl rfl rfl (by kernel_rfl) Tryd.func6 (by kernel_rfl)
    (of_decide_eq_true (by kernel_rfl)) (by unfold Func.isWrapper; first | (rw [if_pos (by decide +kernel)]; kernel_rfl) | (rw [if_neg (by decide +kernel)]; exact ⟨rfl, rfl⟩))
    (fun os started H enc _ => lifted os started H enc)

theorem proved : Rows.ClockFormsCardSaid :=
  Claim7.holds_tied_plain_at .later [] _ true _ false over (fun _ h => by cases h) (by kernel_rfl) (fun _ h => by cases h) clockForms_row_tie rfl ⟨rfl, rfl⟩ (by kernel_rfl) rfl
    (fun f fn hf hfn => by
      obtain rfl : f = 6 := Option.some.inj ((show Tryd.prog.funcNamed "ganger/gangerlaw07.ClockForms" = some 6 by kernel_rfl).symm.trans hf) |>.symm
      obtain rfl : fn = Tryd.f6 := (Option.some.inj (Tryd.func6.symm.trans hfn)).symm
      exact ⟨by kernel_rfl, fun j t ht => by
        rw [Tryd.params6] at ht
        have hm : t ∈ [36, 36, 36, 36] := by simpa using Array.mem_of_getElem? ht
        have hall : ([36, 36, 36, 36].all fun u => !Tryd.prog.wantsStandIn u) = true := by kernel_rfl
        exact (show Tryd.prog.wantsStandIn t = false by simpa using List.all_eq_true.1 hall t hm)⟩)
    (by kernel_rfl)
#print axioms proved
end Go.Proofs.YtndlgjphkpceoaaDoor.clockForms
