/-
  What the chapter's examples come to, plainly.
-/
import Derived.Test.YtdhkinknhjpjmaaDoorIxT
import Derived.Test.YtdhkinknhjpjmaaDoorIxF
namespace Go.Proofs.YtdhkinknhjpjmaaDoor
open Go Go.RowKit Go.Lib
set_option linter.unusedVariables false

abbrev t1 : Bs := [48, 45, 56, 58, 52, 44, 50, 48, 37, 51]
abbrev t2 : Bs := [49, 44, 44, 50]
abbrev t3 : Bs := [53, 45, 51]
theorem k1_list : listO (parseM t1) = [0, 4, 8, 20] := by decide +kernel
theorem k1_rest : mostO (parseM t1) = 3 ∧ posO (parseM t1) = 0 ∧ errO (parseM t1) = 0 := by decide +kernel
theorem k2_rest : mostO (parseM t2) = 0 ∧ posO (parseM t2) = 2 ∧ errO (parseM t2) = 60 ∧ listO (parseM t2) = [] := by decide +kernel
theorem k3_rest : mostO (parseM t3) = 0 ∧ posO (parseM t3) = 0 ∧ errO (parseM t3) = 2 ∧ listO (parseM t3) = [] := by decide +kernel
theorem k4_ok : OkZ [1, 2, 3, 7] 0 := by
  refine ⟨by decide, by decide, by decide, fun k hk => ?_⟩
  have hk' : k < 4 := hk
  unfold okZ
  rcases (by omega : k = 0 ∨ k = 1 ∨ k = 2 ∨ k = 3) with rfl | rfl | rfl | rfl <;> decide
theorem k4_print : printZ [1, 2, 3, 7] 0 = ⟨#[49, 45, 51, 44, 55]⟩ := by
  rw [show printZ [1, 2, 3, 7] 0 = ⟨(printT (toN [1, 2, 3, 7]) (0 : Int).toNat).toArray⟩ from if_pos k4_ok]
  have e : printT (toN [1, 2, 3, 7]) (0 : Int).toNat = D 1 ++ 45 :: D 3 ++ (44 :: D 7 ++ []) ++ [] := rfl
  rw [e, D_low (by omega), D_low (by omega), D_low (by omega)]
  rfl
end Go.Proofs.YtdhkinknhjpjmaaDoor
