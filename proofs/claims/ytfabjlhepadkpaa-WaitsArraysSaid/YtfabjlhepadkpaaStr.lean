/-
  Strings compare as their bytes. No program is imported.
-/
import Derived.Test.YtfabjlhepadkpaaMem
namespace Go.Proofs.Ytfabjlhepadkpaa
set_option linter.unusedVariables false

theorem str_beq (a b : ByteArray) : (a.toList == b.toList) = decide (a = b) := by
  rw [ByteArray.toList_eq, ByteArray.toList_eq, Bool.eq_iff_iff, beq_iff_eq, decide_eq_true_eq]
  exact ⟨fun h => ByteArray.ext (Array.toList_inj.1 h), fun h => by rw [h]⟩
end Go.Proofs.Ytfabjlhepadkpaa
