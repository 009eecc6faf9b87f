/-
  gangerlaw17.known: what the chapter's examples fix holds.
-/
import Derived.Test.YtgohnidndjbjiaaCrateD
import Derived.Lib.SlBytesConst
import Derived.Deep.RegionHeld3
namespace Go.Proofs.Ytgohnidndjbjiaa
open Go Go.RowKit Go.Lib
set_option linter.unusedVariables false

theorem k_put : putB [] = [197, 0, 0, 210, 119, 97, 241] := by kernel_rfl
theorem k_sum : sumB [49, 50, 51, 52, 53, 54, 55, 56, 57] = 3808858755 := by kernel_rfl
theorem k_is : isB [197, 0, 0, 210, 119, 97, 241] = true := by kernel_rfl
theorem k_len : lenB [197, 0, 0, 210, 119, 97, 241] = 0 := by kernel_rfl
theorem k_rows : rowsB [197, 0, 0, 210, 119, 97, 241] = [[]] := by
  rw [rowsB_yes k_is, k_len]
  rw [show ([197, 0, 0, 210, 119, 97, 241] : List UInt8).drop (0 + 7) = [] from rfl, rowsB_no isB_nil]
  unfold bodyB; rw [k_len]; rfl
theorem k_err : errB [197, 0, 0, 210, 119, 97, 241] = 0 := by unfold errB; rw [k_rows]; rfl
/-- A literal of bytes, just made. -/
theorem rd_lit (w : World) (xs : List UInt8) (n : Nat) (hn : xs.length = n) (hm : n ≤ maxLen) (b : Nat) (hb : w.heap.size = b) (fr : Nat × Nat) : Rd (w.alloc (.cells (bts xs).toArray 5 fr)) (fun k => k = b) (.slice (some ⟨b, 0, none⟩) n n) (bts xs) := by
  subst hn hb
  refine ⟨_, _, by rw [bts_len], by rw [bts_len]; exact Nat.le_refl _, hm, fun _ => ⟨w.heap.size, 0, rfl, rfl, by simp, fun j u hj => ?_⟩⟩
  rw [Nat.zero_add, cell_of_row _ w.heap.size j _ _ _ (heap_alloc_new w (.cells (bts xs).toArray 5 fr))]
  simpa using hj
theorem owned_rd {w : World} {base n : Nat} {v : Value} {xs : List UInt8} (h : w.ownsRow base 5 1 v n (bts xs)) : Rd w (fun _ => True) v (bts xs) := by
  have hl := h.1
  rw [Nat.mul_one] at hl
  rw [← hl] at h
  exact Rd.of_owns h fun _ _ => trivial
end Go.Proofs.Ytgohnidndjbjiaa
