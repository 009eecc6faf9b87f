/-
  gangerlaw15.many.
-/
import Derived.Test.YtioeblljabohbaaBfPlan
namespace Go.Proofs.Ytioeblljabohbaa
open Go Go.RowKit Go.Lib
set_option linter.unusedVariables false

/-- More than is looked at. -/
def manyB (N : Int) (LF LH LW : Nat) : Bool := decide (60 < LH ∧ LH ≤ 300 ∨ 500 < LH ∨ 1100 < LF ∨ 40 < LW ∧ LW ≤ 300 ∨ 500 < LW ∨ 6 < N ∧ N ≤ 10)
set_option maxRecDepth 100000 in
set_option maxHeartbeats 8000000 in
theorem many_any (N : Int) (fa ha wa : Option Addr) (LF LH LW fc hc wc : Nat) (w : World) (h1 : LF ≤ 9223372036854775807) (h2 : LH ≤ 9223372036854775807) (h3 : LW ≤ 9223372036854775807) :
    Calls Try.prog 8 #[.agg #[.int .i64 N, .slice fa LF fc, .slice ha LH hc], .slice wa LW wc] w fun e w' => e = .returned (.bool (manyB N LF LH LW)) ∧ Below w.heap.size w w' := by
  obtain ⟨W, hW⟩ : ∃ W, W = w.alloc (.cells #[.int .i64 N, .slice fa LF fc, .slice ha LH hc] 25) := ⟨_, rfl⟩
  obtain ⟨gS, hgS⟩ : ∃ g, g = w.heap.size := ⟨_, rfl⟩
  have HBW : Hid (Below w.heap.size w W) := by unfold Hid; rw [hW]; exact (Below.refl _ _).alloc (Nat.le_refl _) _
  have HS : Blk W gS #[.int .i64 N, .slice fa LF fc, .slice ha LH hc] 25 := by rw [hW, hgS]; exact Blk.new w _ _
  have s0 := HS.cell 0
  have s1 := HS.cell 1
  have s2 := HS.cell 2
  simp at s0 s1 s2
  clear HS
  obtain ⟨r, hr⟩ : ∃ r, r = manyB N LF LH LW := ⟨_, rfl⟩
  rw [← hr]
  have HR := Lib.hid hr
  clear hr
  go_enter Try.func8, Try.ntmps8
  go_upto_region 1 with fail
  rw [← hgS, ← hW]
  clear hgS hW
  go_wp2_with fail
  all_goals
    go_ret
    refine ⟨?_, HBW.out⟩
    rw [HR.out]
    unfold manyB
    show Ending.returned (Value.bool _) = Ending.returned (Value.bool _)
    refine congrArg Ending.returned (congrArg Value.bool ?_)
    rw [Bool.eq_iff_iff]
    simp only [Bool.or_eq_true, decide_eq_true_eq]
    try simp only [true_iff]
    omega
end Go.Proofs.Ytioeblljabohbaa
