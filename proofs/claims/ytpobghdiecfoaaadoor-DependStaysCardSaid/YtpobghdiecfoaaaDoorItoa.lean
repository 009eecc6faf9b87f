/-
  strconv.Itoa: at any number that is not below nought, as digS says it.
-/
import Derived.Test.YtpobghdiecfoaaaDoorDig
import Derived.Test.YtpobghdiecfoaaaDoorShelf
import Derived.Lib.AppendIntMem
namespace Go.Proofs.YtpobghdiecfoaaaDoor
open Go Go.RowKit Go.Lib
set_option linter.unusedVariables false

/-- The library's table of powers. -/
abbrev TabW (w : World) : Prop := Lib.TabIs Tryd.prog w "internal/strconv.uint64pow10" .u64 Lib.pow10Tab
theorem TabW.next {w w' : World} (h : TabW w) (hb : Below w.heap.size w w') : TabW w' := tabBelow_of_tabIs h w' hb
end Go.Proofs.YtpobghdiecfoaaaDoor
