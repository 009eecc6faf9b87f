/-
  What the row's listed variables give to the calls of layer 6.
-/
import Derived.Test.YtdhkinknhjpjmaaDoorIxV
import Derived.Test.YtdhkinknhjpjmaaDoorLaid
import Derived.Test.YtdhkinknhjpjmaaDoorRows
import Derived.MakeChecks
import Derived.Shelf.Vars
namespace Go.Proofs.YtdhkinknhjpjmaaDoor
open Go
set_option linter.unusedVariables false

/-- What the rows list. -/
def laid6 : List (String × DataW Unit) := [("math/bits.deBruijn32tab", Rows.laid_math_bits_deBruijn32tab), ("math/bits.deBruijn64tab", Rows.laid_math_bits_deBruijn64tab), ("internal/strconv.uint64pow10", Rows.laid_internal_strconv_uint64pow10)]
theorem env6_of {W : World} (hL : laidMetH Tryd.prog laid6 W) (hS : W.ShapedOpen Tryd.prog) : TabW W := by
  rw [MakeChecks.laidMetH_plain _ _ _ (by kernel_rfl)] at hL
  obtain ⟨ps, hv, _⟩ := hL
  exact tab_of_laid (g := 0) (t := 93) (e := 83) (n := 20) (by kernel_rfl) (by kernel_rfl) Tryd.underlying93 Tryd.underlying83 (by kernel_rfl) (by kernel_rfl) (.tail _ (.tail _ (.head _))) hv
end Go.Proofs.YtdhkinknhjpjmaaDoor
