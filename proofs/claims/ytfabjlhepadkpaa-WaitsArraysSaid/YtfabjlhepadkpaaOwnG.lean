/-
  Rows that the call owns: a lower base, where they lie. No program is imported.
-/
import Derived.Test.YtfabjlhepadkpaaChg
namespace Go.Proofs.Ytfabjlhepadkpaa
open Go Go.RowKit
set_option linter.unusedVariables false

theorem own_low {w : World} {base b' n size : Nat} {e : TypeId} {v : Value} {xs : List Value} (h : w.ownsRow base e size v n xs) (hb : b' ≤ base) : w.ownsRow b' e size v n xs := by
  obtain ⟨h1, h2 | ⟨g, cap, cur, hv, hg, hr⟩⟩ := h
  · exact ⟨h1, .inl h2⟩
  · exact ⟨h1, .inr ⟨g, cap, cur, hv, by omega, hr⟩⟩
theorem own_ge {w : World} {base n size : Nat} {e : TypeId} {v : Value} {xs : List Value} (h : w.ownsRow base e size v n xs) {g : Nat} (hg : v.ownBlock = some g) : base ≤ g ∧ g < w.heap.size := by
  obtain ⟨h1, ⟨rfl, _⟩ | ⟨g', cap, cur, rfl, hg', hc, hr⟩⟩ := h
  · cases hg
  · injection hg with hg
    subst hg
    exact ⟨hg', (Array.getElem?_eq_some_iff.1 hc).1⟩
theorem owns_put {w : World} {base g n cap s j : Nat} {e : TypeId} {xs : List Value} (h : w.ownsRow base e s (.slice (some ⟨g, 0, none⟩) n cap) n xs) (hj : j < n * s) (u : Value) :
    (∃ c, w.cell? ⟨g, j, none⟩ = some c) ∧ w.frozen? ⟨g, j, none⟩ = false ∧ (w.setCell ⟨g, j, none⟩ u).ownsRow base e s (.slice (some ⟨g, 0, none⟩) n cap) n (xs.set j u) ∧ Chg (fun k => k = g) w (w.setCell ⟨g, j, none⟩ u) := by
  have hl : xs.length = n * s := h.1
  have hx : xs[j]? = some (xs[j]'(by omega)) := List.getElem?_eq_getElem _
  have h1 := h.cells (g := g) rfl j _ hx
  rw [Addr.add_lit, Nat.zero_add] at h1
  refine ⟨⟨_, h1⟩, ?_, (h.stored j u).1, Chg.setCell j u rfl⟩
  rcases h.2 with ⟨e, _⟩ | ⟨g', cap', cur, e, _, hg, _⟩
  · cases e
  · injection e with e1
    injection e1 with e1
    injection e1 with e1
    subst e1
    simp [World.frozen?, hg]
/-- Where a row lies that is not empty. -/
theorem own_some {w : World} {base n size : Nat} {e : TypeId} {a : Option Addr} {c : Nat} {xs : List Value} (h : w.ownsRow base e size (.slice a n c) n xs) (hn : 0 < n) : ∃ g, a = some ⟨g, 0, none⟩ ∧ base ≤ g ∧ g < w.heap.size := by
  obtain ⟨h1, ⟨_, h2⟩ | ⟨g, cap, cur, e, hb, hg, _⟩⟩ := h
  · omega
  · injection e with e1
    exact ⟨g, e1, hb, (Array.getElem?_eq_some_iff.1 hg).1⟩
end Go.Proofs.Ytfabjlhepadkpaa
