/-
  What the row's listed variables and the world's shape give to the calls of layer 20.
-/
import Derived.Test.YtlafjjdponeeeaaDoorBkT
import Derived.Test.YtlafjjdponeeeaaDoorLaid
import Derived.Test.YtlafjjdponeeeaaDoorRows
import Derived.MakeChecks
import Derived.Shelf.Vars
import Derived.Lib.LaidU8T
namespace Go.Proofs.YtlafjjdponeeeaaDoor
open Go
set_option linter.unusedVariables false

/-- What the rows list. -/
def laid20 : List (String × DataW Unit) := [("math/bits.deBruijn32tab", Rows.laid_math_bits_deBruijn32tab), ("math/bits.deBruijn64tab", Rows.laid_math_bits_deBruijn64tab), ("internal/strconv.uint64pow10", Rows.laid_internal_strconv_uint64pow10), ("unicode/utf8.acceptRanges", Rows.laid_unicode_utf8_acceptRanges), ("unicode/utf8.first", Rows.laid_unicode_utf8_first)]
theorem u8_extra : U8Extra Tryd.prog Tryd.laysValid_ren := ⟨by kernel_rfl, by kernel_rfl, by kernel_rfl, by kernel_rfl, by kernel_rfl, by kernel_rfl, by kernel_rfl⟩
theorem env20_of {W : World} (hL : laidMetH Tryd.prog laid20 W) (hS : W.ShapedOpen Tryd.prog) : EnvB W := by
  rw [MakeChecks.laidMetH_plain _ _ _ (by kernel_rfl)] at hL
  refine ⟨cell_of_shapedOpen_int (g := 3) (t := 3) (zero := #[.int .i64 0]) hS (by decide +kernel) (by kernel_rfl) rfl (by kernel_rfl) (by kernel_rfl) Tryd.underlying3, ?_, ?_⟩
  · obtain ⟨ps, hv, _⟩ := hL
    exact tab_of_laid (g := 2) (t := 115) (e := 49) (n := 20) (by kernel_rfl) (by kernel_rfl) Tryd.underlying115 Tryd.underlying49 (by kernel_rfl) (by kernel_rfl) (.tail _ (.tail _ (.head _))) hv
  · have h3 : Lib.VarReads Tryd.prog W "unicode/utf8.first" Lib.firstData := Lib.laidMet.reads hL (by
      have e : Rows.laid_unicode_utf8_first = Lib.firstData := by kernel_rfl
      rw [← e]; exact .tail _ (.tail _ (.tail _ (.tail _ (.head _)))))
    have h4 : Lib.VarReads Tryd.prog W "unicode/utf8.acceptRanges" Lib.acceptData := Lib.laidMet.reads hL (by
      have e : Rows.laid_unicode_utf8_acceptRanges = Lib.acceptData := by kernel_rfl
      rw [← e]; exact .tail _ (.tail _ (.tail _ (.head _))))
    exact utf8Tabs_of_readsT (U8Types.of196 Tryd.laysValid) u8_extra h3 h4
end Go.Proofs.YtlafjjdponeeeaaDoor
