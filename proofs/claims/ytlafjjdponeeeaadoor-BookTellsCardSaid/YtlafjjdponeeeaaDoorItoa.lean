/-
  strconv.Itoa: at any number that is not below nought, as digS says it.
-/
import Derived.Test.YtlafjjdponeeeaaDoorDig
import Derived.Test.YtlafjjdponeeeaaDoorShelf
import Derived.Lib.AppendIntMem
namespace Go.Proofs.YtlafjjdponeeeaaDoor
open Go Go.RowKit Go.Lib
set_option linter.unusedVariables false

/-- The library's table of powers. -/
abbrev TabW (w : World) : Prop := Lib.TabIs Tryd.prog w "internal/strconv.uint64pow10" .u64 Lib.pow10Tab
theorem TabW.next {w w' : World} (h : TabW w) (hb : Below w.heap.size w w') : TabW w' := tabBelow_of_tabIs h w' hb
theorem itoa_tab (n : Nat) (w : World) (hn : n ≤ 9223372036854775807) (hE : TabW w) :
    Calls Tryd.prog 21 #[.int .i64 n] w fun e w' => e = .returned (.string (digS n)) ∧ Below w.heap.size w w' := by
  refine (Tryd.strconv_Itoa n (by omega) (by omega) w hE).mono ?_
  rintro e w' ⟨rfl, k, os, rfl⟩
  exact ⟨by simp [Lib.itoa, digS], below_grow w.heap.size w (Nat.le_refl _) k os⟩
end Go.Proofs.YtlafjjdponeeeaaDoor
