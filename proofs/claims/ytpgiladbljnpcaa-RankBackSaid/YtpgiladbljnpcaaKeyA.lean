/-
  cmp.Or at three numbers, cmp.Compare, rank.compare, rank.Less, gangerref03.Less: at any keys.
-/
import Derived.Test.YtpgiladbljnpcaaShelf
import Derived.Test.YtpgiladbljnpcaaKey
import Derived.Test.YtpgiladbljnpcaaMem
import Derived.Deep.RegionHeld3
import Derived.Deep.DrawnRows
import Derived.BigQuiet
import Derived.Lib.Hide
import Derived.Shelf.SlicesG.Cmp
namespace Go.Proofs.Ytpgiladbljnpcaa
open Go.ChangeShapes Go.WideShapes Go.ChangeAt Go.RowKit Go.Lib Go.Sort
set_option linter.unusedVariables false

theorem kret_bool {a b : Bool} (h : a = b) : Ending.returned (.bool a) = .returned (.bool b) := by rw [h]
theorem kret_int {k : IntKind} {a b : Int} (h : a = b) : Ending.returned (.int k a) = .returned (.int k b) := by rw [h]

theorem cmp_int_any (x y : Int) (w : World) : Calls Try.prog 48 #[.int .i64 x, .int .i64 y] w fun e w' => e = .returned (.int .i64 (compareInt x y)) ∧ w' = w :=
  Try.cmp_Compare_int x y w

theorem nan_u32 (x : Int) (w : World) : Calls Try.prog 58 #[.int .u32 x] w fun e w' => e = .returned (.bool false) ∧ w' = w := by
  go_enter Try.func58, Try.ntmps58
  go_wp2_with fail
  go_ret
  exact ⟨rfl, rfl⟩
theorem cmp_u32_any (x y : Int) (w : World) : Calls Try.prog 49 #[.int .u32 x, .int .u32 y] w fun e w' => e = .returned (.int .i64 (compareInt x y)) ∧ w' = w := by
  by_cases h1 : x < y
  · have e : compareInt x y = -1 := by simp [compareInt, h1]
    rw [e]
    go_enter Try.func49, Try.ntmps49
    go_wp2_with (go_at_call 58; refine (nan_u32 _ _).mono ?_; rintro e w1 ⟨rfl, rfl⟩)
    go_ret
    exact ⟨rfl, rfl⟩
  · by_cases h2 : y < x
    · have e : compareInt x y = 1 := by simp [compareInt, h1, h2]
      rw [e]
      go_enter Try.func49, Try.ntmps49
      go_wp2_with (go_at_call 58; refine (nan_u32 _ _).mono ?_; rintro e w1 ⟨rfl, rfl⟩)
      go_ret
      exact ⟨rfl, rfl⟩
    · have e : compareInt x y = 0 := by simp [compareInt, h1, h2]
      rw [e]
      go_enter Try.func49, Try.ntmps49
      go_wp2_with (go_at_call 58; refine (nan_u32 _ _).mono ?_; rintro e w1 ⟨rfl, rfl⟩)
      go_ret
      exact ⟨rfl, rfl⟩

theorem or_any (b : Nat) (x y z : Int) (w : World) (h : Blk w b #[.int .i64 x, .int .i64 y, .int .i64 z] 3) :
    Calls Try.prog 47 #[.slice (some ⟨b, 0, none⟩) 3 3] w fun e w' => e = .returned (.int .i64 (orI x (orI y z))) ∧ w' = w := by
  have c0 := h.cell 0; simp at c0
  have c1 := h.cell 1; simp at c1
  have c2 := h.cell 2; simp at c2
  clear h
  by_cases hx : x = 0
  · subst hx
    by_cases hy : y = 0
    · subst hy
      by_cases hz : z = 0
      · subst hz
        go_enter Try.func47, Try.ntmps47
        go_wp2_with fail
        refine wp_loop_rounds 4 ?_
        rw [rounds_succ]
        go_wp2_with fail
        rw [rounds_succ]
        go_wp2_with fail
        rw [rounds_succ]
        go_wp2_with fail
        rw [rounds_succ]
        go_wp2_with fail
        go_ret
        exact ⟨rfl, rfl⟩
      · have t : (z == 0) = false := by simpa using hz
        have t' : (z != 0) = true := by simpa using hz
        have e : orI 0 (orI 0 z) = z := rfl
        rw [e]
        go_enter Try.func47, Try.ntmps47
        go_wp2_with fail
        refine wp_loop_rounds 4 ?_
        rw [rounds_succ]
        go_wp2_with fail
        rw [rounds_succ]
        go_wp2_with fail
        rw [rounds_succ]
        go_wp2_with fail
        go_ret
        exact ⟨rfl, rfl⟩
    · have t : (y == 0) = false := by simpa using hy
      have t' : (y != 0) = true := by simpa using hy
      have e : orI 0 (orI y z) = y := by simp [orI, hy]
      rw [e]
      go_enter Try.func47, Try.ntmps47
      go_wp2_with fail
      refine wp_loop_rounds 4 ?_
      rw [rounds_succ]
      go_wp2_with fail
      rw [rounds_succ]
      go_wp2_with fail
      go_ret
      exact ⟨rfl, rfl⟩
  · have t : (x == 0) = false := by simpa using hx
    have t' : (x != 0) = true := by simpa using hx
    have e : orI x (orI y z) = x := by simp [orI, hx]
    rw [e]
    go_enter Try.func47, Try.ntmps47
    go_wp2_with fail
    refine wp_loop_rounds 4 ?_
    rw [rounds_succ]
    go_wp2_with fail
    go_ret
    exact ⟨rfl, rfl⟩
end Go.Proofs.Ytpgiladbljnpcaa
