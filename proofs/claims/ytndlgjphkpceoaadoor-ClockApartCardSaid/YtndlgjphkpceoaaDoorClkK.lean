/-
  gangerlaw07.known: what the chapter's examples fix.
-/
import Derived.Test.YtndlgjphkpceoaaDoorClkF
import Derived.Test.YtndlgjphkpceoaaDoorClkH
import Derived.Test.YtndlgjphkpceoaaDoorClkM
namespace Go.Proofs.YtndlgjphkpceoaaDoor
open Go Go.RowKit Go.Lib
set_option linter.unusedVariables false

theorem parse_at (l : List UInt8) (w : World) (r : Int × Int) (hl : l.length ≤ 1000) (hr : parseA l = r) (hE : Env7 w) :
    Calls Tryd.prog 11 #[.string ⟨l.toArray⟩] w fun e w' => e = .returned (.tuple #[.int .i64 r.1, .int .i64 r.2]) ∧ Below w.heap.size w w' := by
  obtain ⟨m, hm⟩ := hE.1
  subst hr
  exact parse_any ⟨l.toArray⟩ m w (by show l.toArray.size < _; simp; omega) hm
theorem printS_b : printS 93600 = ⟨#[49, 45, 48, 50, 58, 48, 48, 58, 48, 48]⟩ := by rw [print_high (by omega), digS_one (by decide)]; rfl
theorem printS_a : printS 5400 = ⟨#[48, 49, 58, 51, 48, 58, 48, 48]⟩ := by rw [print_low (by omega)]; rfl
theorem known_any (w : World) (hE : Env7 w) : Calls Tryd.prog 10 #[] w fun e w' => e = .returned (.bool true) ∧ Below w.heap.size w w' := by
  have P1 : Hid (∀ w, Env7 w → Calls Tryd.prog 11 #[.string ⟨#[57, 48]⟩] w fun e w' => e = .returned (.tuple #[.int .i64 5400, .int .i64 0]) ∧ Below w.heap.size w w') := fun w h => parse_at [57, 48] w (5400, 0) (by decide) (by decide +kernel) h
  have P2 : Hid (∀ w, Env7 w → Calls Tryd.prog 11 #[.string ⟨#[49, 45, 50]⟩] w fun e w' => e = .returned (.tuple #[.int .i64 93600, .int .i64 0]) ∧ Below w.heap.size w w') := fun w h => parse_at [49, 45, 50] w (93600, 0) (by decide) (by decide +kernel) h
  have P3 : Hid (∀ w, Env7 w → Calls Tryd.prog 11 #[.string ⟨#[48, 58, 51, 48]⟩] w fun e w' => e = .returned (.tuple #[.int .i64 30, .int .i64 0]) ∧ Below w.heap.size w w') := fun w h => parse_at [48, 58, 51, 48] w (30, 0) (by decide) (by decide +kernel) h
  have P4 : Hid (∀ w, Env7 w → Calls Tryd.prog 11 #[.string ⟨#[49, 58, 54, 48]⟩] w fun e w' => e = .returned (.tuple #[.int .i64 0, .int .i64 2]) ∧ Below w.heap.size w w') := fun w h => parse_at [49, 58, 54, 48] w (0, 2) (by decide) (by decide +kernel) h
  have P5 : Hid (∀ w, Env7 w → Calls Tryd.prog 11 #[.string ⟨#[49, 58]⟩] w fun e w' => e = .returned (.tuple #[.int .i64 0, .int .i64 60]) ∧ Below w.heap.size w w') := fun w h => parse_at [49, 58] w (0, 60) (by decide) (by decide +kernel) h
  have P6 : Hid (∀ w, Env7 w → Calls Tryd.prog 13 #[.int .i64 93600] w fun e w' => e = .returned (.tuple #[.string ⟨#[49, 45, 48, 50, 58, 48, 48, 58, 48, 48]⟩, .int .i64 0]) ∧ Below w.heap.size w w') := fun w h => by
    have := print_in 93600 w (by omega) (by omega) h
    rw [printS_b] at this; exact this
  have P7 : Hid (∀ w, Env7 w → Calls Tryd.prog 13 #[.int .i64 5400] w fun e w' => e = .returned (.tuple #[.string ⟨#[48, 49, 58, 51, 48, 58, 48, 48]⟩, .int .i64 0]) ∧ Below w.heap.size w w') := fun w h => by
    have := print_in 5400 w (by omega) (by omega) h
    rw [printS_a] at this; exact this
  have P8 : Hid (∀ w, Calls Tryd.prog 15 #[.int .i64 61] w fun e w' => e = .returned (.int .i64 2) ∧ w' = w) := fun w => mins_any 61 w (by omega) (by omega)
  have E0 := Lib.hid hE
  clear hE
  go_enter Tryd.func10, Tryd.ntmps10
  go_wp2_with fail
  refine (P1.out _ E0.out).mono ?_; rintro e w1 ⟨rfl, b1⟩
  have B1 := Lib.hid b1; have E1 := Lib.hid (E0.out.next b1); clear b1 E0 P1
  go_wp2_with fail
  refine (P2.out _ E1.out).mono ?_; rintro e w2 ⟨rfl, b2⟩
  have B2 := Lib.hid (below_next b2 B1.out); have E2 := Lib.hid (E1.out.next b2); clear b2 E1 B1 P2
  go_wp2_with fail
  refine (P3.out _ E2.out).mono ?_; rintro e w3 ⟨rfl, b3⟩
  have B3 := Lib.hid (below_next b3 B2.out); have E3 := Lib.hid (E2.out.next b3); clear b3 E2 B2 P3
  go_wp2_with fail
  refine (P4.out _ E3.out).mono ?_; rintro e w4 ⟨rfl, b4⟩
  have B4 := Lib.hid (below_next b4 B3.out); have E4 := Lib.hid (E3.out.next b4); clear b4 E3 B3 P4
  go_wp2_with fail
  refine (P5.out _ E4.out).mono ?_; rintro e w5 ⟨rfl, b5⟩
  have B5 := Lib.hid (below_next b5 B4.out); have E5 := Lib.hid (E4.out.next b5); clear b5 E4 B4 P5
  go_wp2_with fail
  refine (P6.out _ E5.out).mono ?_; rintro e w6 ⟨rfl, b6⟩
  have B6 := Lib.hid (below_next b6 B5.out); have E6 := Lib.hid (E5.out.next b6); clear b6 E5 B5 P6
  go_wp2_with fail
  refine (P7.out _ E6.out).mono ?_; rintro e w7 ⟨rfl, b7⟩
  have B7 := Lib.hid (below_next b7 B6.out); clear b7 E6 B6 P7
  go_wp2_with fail
  refine (P8.out _).mono ?_; rintro e w8 ⟨rfl, hw⟩
  subst hw
  go_wp2_with fail
  go_ret
  exact ⟨rfl, B7.out⟩
end Go.Proofs.YtndlgjphkpceoaaDoor
