/-
  The last one kept; two rows put together, plainly. No program is imported.
-/
import Derived.Test.YtnbgipegfnpobaaPr7
namespace Go.Proofs.Ytnbgipegfnpobaa
set_option linter.unusedVariables false

theorem cN_last {xs : List Lv} : ∀ {k : Nat}, 1 ≤ k → 0 < (cN xs k).length ∧ (lv (cN xs k) ((cN xs k).length - 1)).2 = (lv xs (k - 1)).2
  | 0, h => absurd h (by omega)
  | k + 1, _ => by
    by_cases hd : dupAt xs k
    · rw [cN_succ_dup hd, Nat.add_sub_cancel, ← hd.2]
      exact cN_last hd.1
    · rw [cN_succ_new hd, Nat.add_sub_cancel, List.length_append, List.length_cons, List.length_nil, Nat.zero_add, Nat.add_sub_cancel, lv_append_mid]
      exact ⟨Nat.succ_pos _, rfl⟩
theorem lv_zip {l r : List Int} {i : Nat} (h1 : i < l.length) (h2 : i < r.length) : lv (l.zip r) i = (l.getD i 0, r.getD i 0) := by
  have e : (l.zip r)[i]? = some (l[i], r[i]) := List.getElem?_zip_eq_some.2 ⟨List.getElem?_eq_getElem h1, List.getElem?_eq_getElem h2⟩
  unfold lv
  rw [List.getD_eq_getElem?_getD, List.getD_eq_getElem?_getD, List.getD_eq_getElem?_getD, e, List.getElem?_eq_getElem h1, List.getElem?_eq_getElem h2]
  rfl
theorem zip_fn (l : List Int) (g : Int → Int) : l.zip (l.map g) = l.map fun t => (t, g t) := by
  induction l with
  | nil => rfl
  | cons a r ih => rw [List.map_cons, List.zip_cons_cons, ih]; rfl
end Go.Proofs.Ytnbgipegfnpobaa
