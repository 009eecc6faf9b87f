/-
  gangerlaw05.known is true.
-/
import Derived.Test.YtnbgipegfnpobaaLvR
import Derived.Test.YtnbgipegfnpobaaPrK
namespace Go.Proofs.Ytnbgipegfnpobaa
open Go Go.RowKit Go.Lib
set_option linter.unusedVariables false

theorem new_known : newV 10 4 = (q0, 0) := if_pos ok0
theorem three_row {w : World} {b : Nat} {t f t' f' t2 f2 : Int} {ty : TypeId} (h : Blk w b #[.int .i64 t, .int .i64 f, .int .i64 t', .int .i64 f', .int .i64 t2, .int .i64 f2] ty) : LRow w (.slice (some ⟨b, 0, none⟩) 3 3) [(t, f), (t', f'), (t2, f2)] :=
  .inr ⟨b, 0, 3, rfl, Nat.zero_lt_succ 2, Nat.le_refl _, by unfold maxLen; omega, h.lt, fun j hj => by
    have hj' : j < 3 := by simpa using hj
    rcases (by omega : j = 0 ∨ j = 1 ∨ j = 2) with rfl | rfl | rfl
    · exact ⟨by simpa [lv] using h.cell 0, by simpa [lv] using h.cell 1⟩
    · exact ⟨by simpa [lv] using h.cell 2, by simpa [lv] using h.cell 3⟩
    · exact ⟨by simpa [lv] using h.cell 4, by simpa [lv] using h.cell 5⟩⟩
set_option maxRecDepth 100000 in
set_option maxHeartbeats 4000000 in
theorem known5_any (w : World) : Calls Try.prog 12 #[] w fun e w' => e = .returned (.bool true) ∧ Below w.heap.size w w' := by
  have N := Lib.hid (new_any 10 4 w)
  rw [new_known] at N
  have CH : Hid (∀ v w1, LRow w1 v q0 → Calls Try.prog 25 #[v, .int .i64 12, .int .i64 5, .int .i64 (-3)] w1 fun e w' => ∃ v', e = .returned (.tuple #[v', .int .i64 0]) ∧ LRow w' v' q1 ∧ Below w1.heap.size w1 w') := fun v w1 h => by
    refine (change_any v q0 12 5 (-3) w1 (by decide) h).mono ?_
    rw [change_known]
    rintro e w' ⟨v', rfl, o, b⟩
    exact ⟨v', rfl, lrow_of_owns o, b⟩
  have F1 : Hid (∀ v w1, LRow w1 v q1 → Calls Try.prog 23 #[v, .int .i64 10, .int .i64 3, .int .i64 2] w1 fun e w' => e = .returned (.tuple #[.int .i64 17, .int .i64 0]) ∧ Below w1.heap.size w1 w') := fun v w1 h => by
    have := fit_any v q1 10 3 2 w1 (by decide) h
    rwa [fit_k1] at this
  have F2 : Hid (∀ v w1, LRow w1 v q1 → Calls Try.prog 23 #[v, .int .i64 10, .int .i64 2, .int .i64 2] w1 fun e w' => e = .returned (.tuple #[.int .i64 10, .int .i64 0]) ∧ Below w1.heap.size w1 w') := fun v w1 h => by
    have := fit_any v q1 10 2 2 w1 (by decide) h
    rwa [fit_k2] at this
  have F3 : Hid (∀ v w1, LRow w1 v q1 → Calls Try.prog 23 #[v, .int .i64 10, .int .i64 3, .int .i64 5] w1 fun e w' => e = .returned (.tuple #[.int .i64 0, .int .i64 5]) ∧ Below w1.heap.size w1 w') := fun v w1 h => by
    have := fit_any v q1 10 3 5 w1 (by decide) h
    rwa [fit_k3] at this
  have AT : Hid (∀ v w1, LRow w1 v q1 → Calls Try.prog 15 #[v, .int .i64 13] w1 fun e w' => e = .returned (.int .i64 1) ∧ Below w1.heap.size w1 w') := fun v w1 h => by
    have := at_any v q1 13 w1 (by decide) h
    rwa [at_k] at this
  have CK : Hid (∀ w1, Calls Try.prog 14 #[.slice none 0 0] w1 fun e w' => e = .returned (.int .i64 50) ∧ Below w1.heap.size w1 w') := fun w1 => by
    have := check_any _ [] w1 (by decide) (lrow_nil w1)
    rwa [check_k] at this
  have SA : Hid (∀ v b w1 ty, LRow w1 v q1 → Blk w1 b #[.int .i64 10, .int .i64 4, .int .i64 12, .int .i64 1, .int .i64 17, .int .i64 4] ty → Calls Try.prog 22 #[v, .slice (some ⟨b, 0, none⟩) 3 3] w1 fun e w' => e = .returned (.bool true) ∧ Below w1.heap.size w1 w') := fun v b w1 ty h hk => by
    have := same_any v _ q1 q1 w1 (by decide) (by decide) h (three_row hk)
    rwa [show decide (q1 = q1) = true from decide_eq_true rfl] at this
  generalize q0 = p0 at *
  generalize q1 = p1 at *
  go_enter Try.func12, Try.ntmps12
  go_wp2_with fail
  refine N.out.mono ?_; rintro e w1 ⟨v1, rfl, r1, b1⟩
  have R1 := Lib.hid r1
  have B1 := Lib.hid b1
  clear r1 b1 N
  go_wp2_with fail
  refine (CH.out _ _ R1.out).mono ?_; rintro e w2 ⟨v2, rfl, r2, b2⟩
  have R2 := Lib.hid r2
  have B2 := Lib.hid (below_next b2 B1.out)
  clear r2 b2 B1 R1 CH
  go_wp2_with fail
  refine (F1.out _ _ R2.out).mono ?_; rintro e w3 ⟨rfl, b3⟩
  have R3 := Lib.hid (R2.out.kept b3)
  have B3 := Lib.hid (below_next b3 B2.out)
  clear b3 B2 R2 F1
  go_wp2_with fail
  refine (F2.out _ _ R3.out).mono ?_; rintro e w4 ⟨rfl, b4⟩
  have R4 := Lib.hid (R3.out.kept b4)
  have B4 := Lib.hid (below_next b4 B3.out)
  clear b4 B3 R3 F2
  go_wp2_with fail
  refine (F3.out _ _ R4.out).mono ?_; rintro e w5 ⟨rfl, b5⟩
  have R5 := Lib.hid (R4.out.kept b5)
  have B5 := Lib.hid (below_next b5 B4.out)
  clear b5 B4 R4 F3
  go_wp2_with fail
  have R6 := Lib.hid (R5.out.kept ((Below.refl _ w5).alloc (Nat.le_refl _) (.cells #[.int .i64 10, .int .i64 4, .int .i64 12, .int .i64 1, .int .i64 17, .int .i64 4] 49)))
  refine (SA.out _ _ _ _ R6.out (Blk.new _ _ _)).mono ?_; rintro e w6 ⟨rfl, b6⟩
  have R7 := Lib.hid (R6.out.kept b6)
  have B6 := Lib.hid (below_next b6 (B5.out.alloc B5.out.size _))
  clear b6 B5 R5 R6 SA
  go_wp2_with fail
  refine (AT.out _ _ R7.out).mono ?_; rintro e w7 ⟨rfl, b7⟩
  have B7 := Lib.hid (below_next b7 B6.out)
  clear b7 B6 R7 AT
  go_wp2_with fail
  refine (CK.out _).mono ?_; rintro e w8 ⟨rfl, b8⟩
  have B8 := Lib.hid (below_next b8 B7.out)
  clear b8 B7
  go_wp2_with fail
  go_ret
  exact ⟨rfl, B8.out⟩
end Go.Proofs.Ytnbgipegfnpobaa
