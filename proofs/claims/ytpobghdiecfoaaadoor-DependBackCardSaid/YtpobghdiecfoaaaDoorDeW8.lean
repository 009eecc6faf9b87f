/-
  What the row's listed variables and the world's shape give to the calls of layer 8.
-/
import Derived.Test.YtpobghdiecfoaaaDoorDeKn
import Derived.Test.YtpobghdiecfoaaaDoorLaid
import Derived.Test.YtpobghdiecfoaaaDoorRows
import Derived.MakeChecks
import Derived.Shelf.Vars
namespace Go.Proofs.YtpobghdiecfoaaaDoor
open Go
set_option linter.unusedVariables false

/-- What the rows list. -/
def laid8 : List (String × DataW Unit) := [("math/bits.deBruijn32tab", Rows.laid_math_bits_deBruijn32tab), ("math/bits.deBruijn64tab", Rows.laid_math_bits_deBruijn64tab), ("internal/strconv.uint64pow10", Rows.laid_internal_strconv_uint64pow10)]
theorem env8_of {W : World} (hL : laidMetH Tryd.prog laid8 W) (hS : W.ShapedOpen Tryd.prog) : Env8 W := by
  refine ⟨cell_of_shapedOpen_int (g := 1) (t := 3) (zero := #[.int .i64 0]) hS (by decide +kernel) (by kernel_rfl) rfl (by kernel_rfl) (by kernel_rfl) Tryd.underlying3, ?_⟩
  rw [MakeChecks.laidMetH_plain _ _ _ (by kernel_rfl)] at hL
  obtain ⟨ps, hv, _⟩ := hL
  exact tab_of_laid (g := 0) (t := 129) (e := 62) (n := 20) (by kernel_rfl) (by kernel_rfl) Tryd.underlying129 Tryd.underlying62 (by kernel_rfl) (by kernel_rfl) (.tail _ (.tail _ (.head _))) hv
end Go.Proofs.YtpobghdiecfoaaaDoor
