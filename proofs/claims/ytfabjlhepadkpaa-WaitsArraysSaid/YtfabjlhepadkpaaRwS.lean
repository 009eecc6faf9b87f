/-
  Rows of elements as what is appended. No program is imported.
-/
import Derived.Test.YtfabjlhepadkpaaRwO
import Derived.Test.YtfabjlhepadkpaaApp
namespace Go.Proofs.Ytfabjlhepadkpaa
open Go Go.RowKit
set_option linter.unusedVariables false

theorem src_of_rowG {α : Type} {s : Nat} {enc : α → List Value} (hs : ∀ x, (enc x).length = s) (h0 : 0 < s) {w : World} {v : Value} {l : List α} (h : RowG s enc w v l) : Src w s v l.length (l.flatMap enc) := by
  refine ⟨flatG_len hs l, ?_⟩
  rcases h with ⟨rfl, a, c, rfl⟩ | ⟨b, off, c, rfl, hl, hc⟩
  · cases a with
    | none => exact .inl ⟨c, rfl, rfl⟩
    | some a => exact .inr ⟨a, c, rfl, fun j u hu => by simp at hu⟩
  · refine .inr ⟨_, c, rfl, fun t u hu => ?_⟩
    have ht : t < l.length * s := by rw [← flatG_len hs]; exact (List.getElem?_eq_some_iff.1 hu).1
    have hj : t / s < l.length := by rw [Nat.div_lt_iff_lt_mul h0]; exact ht
    have hr : t % s < s := Nat.mod_lt _ h0
    have e := Nat.div_add_mod t s
    have h1 := flatG_get hs l (t / s) hj (t % s) hr
    rw [Nat.mul_comm (t / s) s, e, hu] at h1
    have h2 := hc (t / s) hj (t % s) u h1.symm
    rw [Addr.add_lit]
    have e2 : off + t = off + t / s * s + t % s := by rw [Nat.mul_comm (t / s) s]; omega
    rw [e2]; exact h2
end Go.Proofs.Ytfabjlhepadkpaa
