/-
  What the row's listed variables and the world's shape give to the calls of layer 7.
-/
import Derived.Test.YtndlgjphkpceoaaDoorClkK
import Derived.Test.YtndlgjphkpceoaaDoorLaid
import Derived.Test.YtndlgjphkpceoaaDoorRows
import Derived.MakeChecks
import Derived.Shelf.Vars
namespace Go.Proofs.YtndlgjphkpceoaaDoor
open Go
set_option linter.unusedVariables false

/-- What the rows list. -/
def laid7 : List (String × DataW Unit) := [("math/bits.deBruijn32tab", Rows.laid_math_bits_deBruijn32tab), ("math/bits.deBruijn64tab", Rows.laid_math_bits_deBruijn64tab), ("internal/strconv.uint64pow10", Rows.laid_internal_strconv_uint64pow10), ("unicode/utf8.acceptRanges", Rows.laid_unicode_utf8_acceptRanges), ("unicode/utf8.first", Rows.laid_unicode_utf8_first)]
theorem env7_of {W : World} (hL : laidMetH Tryd.prog laid7 W) (hS : W.ShapedOpen Tryd.prog) : Env7 W := by
  refine ⟨cell_of_shapedOpen_int (g := 0) (t := 3) (zero := #[.int .i64 0]) hS (by decide +kernel) (by kernel_rfl) rfl (by kernel_rfl) (by kernel_rfl) Tryd.underlying3, ?_⟩
  rw [MakeChecks.laidMetH_plain _ _ _ (by kernel_rfl)] at hL
  obtain ⟨ps, hv, _⟩ := hL
  exact tab_of_laid (g := 1) (t := 72) (e := 63) (n := 20) (by kernel_rfl) (by kernel_rfl) Tryd.underlying72 Tryd.underlying63 (by kernel_rfl) (by kernel_rfl) (.tail _ (.tail _ (.head _))) hv
end Go.Proofs.YtndlgjphkpceoaaDoor
