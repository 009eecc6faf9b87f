/-
  Layer 18, the spool's own small functions: fails, keep, On, at any block.
-/
import Derived.Test.YtgohnidndjbjiaaDat
import Derived.Test.YtgohnidndjbjiaaProg
import Derived.Deep.RegionHeld3
import Derived.Deep.DeepCutAuto
import Derived.Deep.CutBlock
import Derived.Deep.QuietTactic
import Derived.BigQuiet
import Derived.Lib.Hide
namespace Go.Proofs.Ytgohnidndjbjiaa
open Go Go.RowKit Go.Lib
set_option linter.unusedVariables false

/-- A spool: room, data, how many are sure, what is left, off. -/
abbrev spl (room : Int) (dv : Value) (sure left : Int) (off : Bool) : Array Value := #[.int .i64 room, dv, .int .i64 sure, .int .i64 left, .bool off]
abbrev SB (w : World) (sb : Nat) (room : Int) (dv : Value) (sure left : Int) (off : Bool) : Prop := Blk w sb (spl room dv sure left off) 61

theorem SB.cells {w : World} {sb : Nat} {room : Int} {dv : Value} {sure left : Int} {off : Bool} (h : SB w sb room dv sure left off) :
    w.cell? ⟨sb, 0, none⟩ = some (.int .i64 room) ∧ w.cell? ⟨sb, 1, none⟩ = some dv ∧ w.cell? ⟨sb, 2, none⟩ = some (.int .i64 sure) ∧ w.cell? ⟨sb, 3, none⟩ = some (.int .i64 left) ∧ w.cell? ⟨sb, 4, none⟩ = some (.bool off) ∧
    (∀ o, w.frozen? ⟨sb, o, none⟩ = false) :=
  ⟨h.cell 0, h.cell 1, h.cell 2, h.cell 3, h.cell 4, h.frees⟩

theorem fails_zero (w : World) (sb : Nat) (room : Int) (dv : Value) (sure : Int) (h : SB w sb room dv sure 0 false) :
    Calls Try.prog 52 #[.pointer (some ⟨sb, 0, none⟩)] w fun e w' => e = .returned (.bool true) ∧ w' = w.setCell ⟨sb, 4, none⟩ (.bool true) := by
  obtain ⟨c0, c1, c2, c3, c4, f⟩ := h.cells
  have f4 := f 4
  clear f h
  go_enter Try.func52, Try.ntmps52
  go_wp2_with fail
  go_returns
  exact ⟨rfl, rfl⟩
theorem fails_pos (w : World) (sb : Nat) (room : Int) (dv : Value) (sure left : Int) (h : SB w sb room dv sure left false) (hl : 0 < left) (hb : left ≤ 9223372036854775807) :
    Calls Try.prog 52 #[.pointer (some ⟨sb, 0, none⟩)] w fun e w' => e = .returned (.bool false) ∧ w' = w.setCell ⟨sb, 3, none⟩ (.int .i64 (left - 1)) := by
  obtain ⟨c0, c1, c2, c3, c4, f⟩ := h.cells
  have f3 := f 3
  have t1 : (left == 0) = false := by simp; omega
  clear f h
  go_enter Try.func52, Try.ntmps52
  go_wp2_with fail
  go_returns
  exact ⟨rfl, rfl⟩
theorem fails_never (w : World) (sb : Nat) (room : Int) (dv : Value) (sure left : Int) (h : SB w sb room dv sure left false) (hl : left < 0) :
    Calls Try.prog 52 #[.pointer (some ⟨sb, 0, none⟩)] w fun e w' => e = .returned (.bool false) ∧ w' = w := by
  obtain ⟨c0, c1, c2, c3, c4, f⟩ := h.cells
  have t1 : (left == 0) = false := by simp; omega
  have t2 : ¬ 0 < left := by omega
  clear f h hl
  go_enter Try.func52, Try.ntmps52
  go_wp2_with fail
  go_returns
  exact ⟨rfl, rfl⟩
theorem keep_any (w : World) (sb : Nat) (room : Int) (A : Option Addr) (len c n : Nat) (sure left : Int) (off : Bool) (h : SB w sb room (.slice A len c) sure left off) (hn : n ≤ c) (hc : c ≤ maxLen) :
    Calls Try.prog 44 #[.pointer (some ⟨sb, 0, none⟩), .int .i64 n] w
      fun e w' => e = .returned (.tuple #[]) ∧ w' = (w.setCell ⟨sb, 1, none⟩ (.slice A n n)).setCell ⟨sb, 2, none⟩ (.int .i64 n) := by
  obtain ⟨c0, c1, c2, c3, c4, f⟩ := h.cells
  have f1 := f 1
  have f2 := f 2
  clear f h
  unfold maxLen at hc
  go_enter Try.func44, Try.ntmps44
  go_wp2_with fail
  go_returns
  exact ⟨rfl, rfl⟩
theorem on_any (w : World) (sb : Nat) (room : Int) (dv : Value) (sure left : Int) (off : Bool) (h : SB w sb room dv sure left off) :
    Calls Try.prog 47 #[.pointer (some ⟨sb, 0, none⟩)] w fun e w' => e = .returned (.bool (!off)) ∧ w' = w := by
  obtain ⟨c0, c1, c2, c3, c4, f⟩ := h.cells
  clear f h
  go_enter Try.func47, Try.ntmps47
  go_wp2_with fail
  go_returns
  exact ⟨rfl, rfl⟩
theorem on_nil (w : World) :
    Calls Try.prog 47 #[.pointer none] w fun e w' => e = .returned (.bool false) ∧ w' = w := by
  go_enter Try.func47, Try.ntmps47
  go_wp2_with fail
  go_returns
  exact ⟨rfl, rfl⟩
end Go.Proofs.Ytgohnidndjbjiaa
