/-
  Where the first one of a row is of which somebody says so (PLAIN).
-/
import Derived.Test.YtfabjlhepadkpaaMem
namespace Go.Proofs.Ytfabjlhepadkpaa
open Go Go.RowKit
set_option linter.unusedVariables false

/-- Where the first one is, or -1. -/
def idxG {α : Type} (g : α → Bool) (l : List α) : Int := match l.findIdx? g with | some i => (i : Nat) | none => -1
theorem idxG_at {α : Type} {g : α → Bool} {l : List α} {k : Nat} (hk : k < l.length) (h1 : ∀ q (hq : q < l.length), q < k → g l[q] = false) (h2 : g l[k] = true) : idxG g l = k := by
  have : l.findIdx? g = some k := by
    rw [List.findIdx?_eq_some_iff_getElem]
    exact ⟨hk, h2, fun j hj => by rw [h1 j (by omega) hj]; simp⟩
  unfold idxG; rw [this]
theorem idxG_none {α : Type} {g : α → Bool} {l : List α} (h1 : ∀ q (hq : q < l.length), g l[q] = false) : idxG g l = -1 := by
  have : l.findIdx? g = none := by
    rw [List.findIdx?_eq_none_iff]
    intro x hx
    obtain ⟨j, hj, rfl⟩ := List.mem_iff_getElem.1 hx
    exact h1 j hj
  unfold idxG; rw [this]
theorem idxG_any {α : Type} (g : α → Bool) (l : List α) : decide (0 ≤ idxG g l) = l.any g := by
  unfold idxG
  cases h : l.findIdx? g with
  | none =>
    rw [List.findIdx?_eq_none_iff] at h
    have : l.any g = false := by rw [List.any_eq_false]; intro x hx; rw [h x hx]; simp
    rw [this]; rfl
  | some i =>
    rw [List.findIdx?_eq_some_iff_getElem] at h
    obtain ⟨hi, h1, _⟩ := h
    have : l.any g = true := List.any_eq_true.2 ⟨_, List.getElem_mem hi, h1⟩
    rw [this]; simp
end Go.Proofs.Ytfabjlhepadkpaa
