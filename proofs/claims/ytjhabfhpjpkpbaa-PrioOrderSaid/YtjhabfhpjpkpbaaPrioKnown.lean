/-
  gangerlaw12.known: what the chapter's examples fix holds.
-/
import Derived.Test.YtjhabfhpjpkpbaaPrioAny
namespace Go.Proofs.Ytjhabfhpjpkpbaa
open Go.ChangeShapes Go.WideShapes Go.ChangeAt Go.RowKit
set_option linter.unusedVariables false

theorem known12_any (w : World) : Calls Try.prog 16 #[] w fun e w' => e = .returned (.bool true) ∧ Below w.heap.size w w' := by
  have K1 : Hid (∀ w, Calls Try.prog 17 #[.agg #[.int .i64 1000, .int .i64 100, .int .i64 0, .int .i64 0, .int .i64 0], .agg #[.int .u32 1, .int .i64 0, .int .i64 0, .int .i64 0, .int .i64 0, .int .i64 0, .int .i64 32768], .int .i64 1048576, .int .i64 8] w
      fun e w' => e = .returned (.tuple #[.int .i64 600, .int .i64 0]) ∧ Below w.heap.size w w') := fun w =>
    (prio_any 1000 100 0 0 0 1 0 0 0 0 0 32768 1048576 8 w (by decide) (by decide) (by decide) (by decide) (by decide) (by decide)).mono fun _ _ ⟨h, h'⟩ => ⟨h.trans (ret_tup2 (by decide) (by decide)), h'⟩
  have K2 : Hid (∀ w, Calls Try.prog 17 #[.agg #[.int .i64 1000, .int .i64 100, .int .i64 0, .int .i64 0, .int .i64 0], .agg #[.int .u32 1, .int .i64 0, .int .i64 0, .int .i64 7, .int .i64 0, .int .i64 0, .int .i64 32768], .int .i64 1048576, .int .i64 8] w
      fun e w' => e = .returned (.tuple #[.int .i64 593, .int .i64 0]) ∧ Below w.heap.size w w') := fun w =>
    (prio_any 1000 100 0 0 0 1 0 0 7 0 0 32768 1048576 8 w (by decide) (by decide) (by decide) (by decide) (by decide) (by decide)).mono fun _ _ ⟨h, h'⟩ => ⟨h.trans (ret_tup2 (by decide) (by decide)), h'⟩
  have K3 : Hid (∀ w, Calls Try.prog 17 #[.agg #[.int .i64 1000, .int .i64 100, .int .i64 0, .int .i64 0, .int .i64 0], .agg #[.int .u32 0, .int .i64 0, .int .i64 0, .int .i64 0, .int .i64 0, .int .i64 0, .int .i64 0], .int .i64 0, .int .i64 8] w
      fun e w' => e = .returned (.tuple #[.int .i64 0, .int .i64 2]) ∧ Below w.heap.size w w') := fun w =>
    (prio_any 1000 100 0 0 0 0 0 0 0 0 0 0 0 8 w (by decide) (by decide) (by decide) (by decide) (by decide) (by decide)).mono fun _ _ ⟨h, h'⟩ => ⟨h.trans (ret_tup2 (by decide) (by decide)), h'⟩
  have K4 : Hid (∀ w, Calls Try.prog 11 #[.int .i64 2, .int .i64 8] w fun e w' => e = .returned (.int .i64 16384) ∧ Below w.heap.size w w') := fun w =>
    (prioSize_any 2 8 w (by decide) (by decide)).mono fun _ _ ⟨h, h'⟩ => ⟨h.trans (ret_int (by decide)), h'⟩
  have K5 : Hid (∀ w, Calls Try.prog 12 #[.int .i64 9, .int .i64 3] w fun e w' => e = .returned (.int .i64 65536) ∧ Below w.heap.size w w') := fun w =>
    (prioOf_any 9 3 w (by decide) (by decide)).mono fun _ _ ⟨h, h'⟩ => ⟨h.trans (ret_int (by decide)), h'⟩
  go_enter Try.func16, Try.ntmps16
  go_wp2_with fail
  refine (K1.out _).mono ?_; rintro e w1 ⟨rfl, b1⟩
  have X1 : Blk w1 w.heap.size #[.int .i64 1000, .int .i64 100, .int .i64 0, .int .i64 0, .int .i64 0] 26 := (Blk.new _ _ _).kept b1
  have y0 := X1.cell 0; simp at y0
  have y1 := X1.cell 1; simp at y1
  have y2 := X1.cell 2; simp at y2
  have y3 := X1.cell 3; simp at y3
  have y4 := X1.cell 4; simp at y4
  go_wp2_with fail
  refine (K2.out _).mono ?_; rintro e w2 ⟨rfl, b2⟩
  have X2 := X1.kept b2
  have z0 := X2.cell 0; simp at z0
  have z1 := X2.cell 1; simp at z1
  have z2 := X2.cell 2; simp at z2
  have z3 := X2.cell 3; simp at z3
  have z4 := X2.cell 4; simp at z4
  go_wp2_with fail
  refine (K3.out _).mono ?_; rintro e w3 ⟨rfl, b3⟩
  go_wp2_with fail
  refine (K4.out _).mono ?_; rintro e w4 ⟨rfl, b4⟩
  go_wp2_with fail
  refine (K5.out _).mono ?_; rintro e w5 ⟨rfl, b5⟩
  go_wp2_with fail
  go_ret
  exact ⟨rfl, below_next b5 (below_next b4 (below_next b3 (below_next b2 (below_next b1 (below_new _ _)))))⟩

end Go.Proofs.Ytjhabfhpjpkpbaa
