/-
  Rows of elements that the call makes: read as rows. No program is imported.
-/
import Derived.Test.YtfabjlhepadkpaaRwG
namespace Go.Proofs.Ytfabjlhepadkpaa
open Go Go.RowKit
set_option linter.unusedVariables false

theorem flatG_len {α : Type} {s : Nat} {enc : α → List Value} (hs : ∀ x, (enc x).length = s) (l : List α) : (l.flatMap enc).length = l.length * s := by
  induction l with
  | nil => simp
  | cons x l ih => rw [List.flatMap_cons, List.length_append, ih, hs, List.length_cons, Nat.succ_mul]; omega
theorem flatG_get {α : Type} {s : Nat} {enc : α → List Value} (hs : ∀ x, (enc x).length = s) (l : List α) : ∀ i (h : i < l.length) j, j < s → (l.flatMap enc)[i * s + j]? = (enc l[i])[j]? := by
  induction l with
  | nil => intro i h; simp at h
  | cons x l ih =>
    intro i h j hj
    rw [List.flatMap_cons, List.getElem?_append]
    cases i with
    | zero => rw [if_pos (by rw [hs]; omega), Nat.zero_mul, Nat.zero_add]; rfl
    | succ i =>
      rw [if_neg (by rw [hs, Nat.succ_mul]; omega)]
      have e : (i + 1) * s + j - (enc x).length = i * s + j := by rw [hs, Nat.succ_mul]; omega
      rw [e, ih i (by simpa using h) j hj]
      rfl
theorem rowG_of_own {α : Type} {s : Nat} {enc : α → List Value} (hs : ∀ x, (enc x).length = s) {w : World} {base : Nat} {e : TypeId} {v : Value} {l : List α} (h : w.ownsRow base e s v l.length (l.flatMap enc)) : RowG s enc w v l := by
  obtain ⟨_, ⟨rfl, hn⟩ | ⟨g, cap, cur, rfl, hb, hg, h1, h2, h3, h4⟩⟩ := h
  · exact .inl ⟨List.eq_nil_of_length_eq_zero hn, _, _, rfl⟩
  · by_cases h0 : 0 < l.length
    · refine .inr ⟨g, 0, cap, rfl, h0, fun i hi j u hu => ?_⟩
      have hj : j < s := by have := (List.getElem?_eq_some_iff.1 hu).1; rw [hs] at this; exact this
      have hlt : i * s + j < l.length * s := by
        have : (i + 1) * s ≤ l.length * s := Nat.mul_le_mul_right s hi
        rw [Nat.succ_mul] at this; omega
      have e1 : (cur.toList.take (l.length * s))[i * s + j]? = cur.toList[i * s + j]? := by rw [List.getElem?_take, if_pos hlt]
      rw [h4, flatG_get hs l i hi j hj, hu] at e1
      have e2 : cur[i * s + j]? = some u := by rw [← Array.getElem?_toList]; exact e1.symm
      simp [World.cell?, hg, e2]
    · have hn : l.length = 0 := by omega
      exact .inl ⟨List.eq_nil_of_length_eq_zero hn, _, _, by rw [hn]⟩
/-- A block of one's own, as a row. -/
theorem own_of_blk {w : World} {g base n s : Nat} {e : TypeId} {cs : Array Value} (h : Blk w g cs e) (hb : base ≤ g) (hn : cs.size = n * s) (hm : n ≤ maxLen) : w.ownsRow base e s (.slice (some ⟨g, 0, none⟩) n n) n cs.toList :=
  ⟨by simpa using hn, .inr ⟨g, n, cs, rfl, hb, h, Nat.le_refl _, hm, hn, List.take_of_length_le (by rw [Array.length_toList]; omega)⟩⟩
end Go.Proofs.Ytfabjlhepadkpaa
