/-
  What the laws say of cells, plainly. No program is imported.
-/
import Derived.Test.YtfobapnncjjeiaaGaKp
namespace Go.Proofs.Ytfobapnncjjeiaa
set_option linter.unusedVariables false

/-- Each cell of the first has its job and block in the second, in no later row. -/
structure NoLater (l l' : List Ce) : Prop where
  len : l'.length = l.length
  of : ∀ c ∈ l, ∃ d ∈ l', d.1 = c.1 ∧ d.st = c.st ∧ d.ord = c.ord ∧ d.row ≤ c.row
theorem NoLater.refl (l : List Ce) : NoLater l l := ⟨rfl, fun c hc => ⟨c, hc, rfl, rfl, rfl, Nat.le_refl _⟩⟩
theorem NoLater.trans {a b c : List Ce} (h : NoLater a b) (k : NoLater b c) : NoLater a c :=
  ⟨k.len.trans h.len, fun x hx => by
    obtain ⟨y, hy, h1, h2, h3, h4⟩ := h.of x hx
    obtain ⟨z, hz, k1, k2, k3, k4⟩ := k.of y hy
    exact ⟨z, hz, k1.trans h1, k2.trans h2, k3.trans h3, Nat.le_trans k4 h4⟩⟩
theorem insG_erase {n : Nat} {l : List Ce} (h : OkG n l) {c : Ce} {k : Nat} (h3 : ∀ d ∈ l, d.1 ≠ c.1) (hk : IsFind (insG l c) c.1 (some k)) : (insG l c).eraseIdx k = l := by
  rcases hk with ⟨h5, _⟩ | ⟨q, hq, h5, h6, h7⟩
  · cases h5
  · injection h5 with h5; subst h5
    have hp := posG_le l c
    have hkp : k = posG l c := by
      rw [insG_len] at hq
      rcases Nat.lt_trichotomy k (posG l c) with h8 | h8 | h8
      · have : (insG l c)[k]'(by rw [insG_len]; exact hq) ∈ l := by
          simp only [insG_pos]
          rw [List.getElem_append_left (by rw [List.length_take]; omega), List.getElem_take]
          exact List.getElem_mem _
        exact absurd h6 (h3 _ this)
      · exact h8
      · have : (insG l c)[k]'(by rw [insG_len]; exact hq) ∈ l := by
          simp only [insG_pos]
          rw [List.getElem_append_right (by rw [List.length_take]; omega)]
          have he : k - (l.take (posG l c)).length = (k - (posG l c) - 1) + 1 := by rw [List.length_take]; omega
          simp only [he, List.getElem_cons_succ, List.getElem_drop]
          exact List.getElem_mem _
        exact absurd h6 (h3 _ this)
    subst hkp
    rw [insG_pos, List.eraseIdx_append_of_length_le (by rw [List.length_take]; omega)]
    have : posG l c - (l.take (posG l c)).length = 0 := by rw [List.length_take]; omega
    rw [this, List.eraseIdx_cons_zero, List.take_append_drop]
theorem insG_find {n : Nat} {l : List Ce} {c : Ce} : ∃ k, IsFind (insG l c) c.1 (some k) := by
  have hc : c ∈ insG l c := mem_insG.2 (.inl rfl)
  cases hr : (insG l c).findIdx? (fun d => decide (d.1 = c.1)) with
  | none =>
    rw [List.findIdx?_eq_none_iff] at hr
    have := hr c hc
    simp at this
  | some k =>
    rw [List.findIdx?_eq_some_iff_getElem] at hr
    obtain ⟨hk, h1, h2⟩ := hr
    exact ⟨k, .inr ⟨k, hk, rfl, by simpa using h1, fun j hj hjk e => by have := h2 j hjk; simp [e] at this⟩⟩
/-- Is a cell among the first k in a row and has a worker of a block? -/
def HeldK (l : List Ce) (row s o k : Nat) : Prop := ∃ j, ∃ h : j < l.length, j < k ∧ l[j].row = row ∧ meetC l[j].st l[j].ord s o
theorem heldK_zero {l : List Ce} {row s o : Nat} : ¬ HeldK l row s o 0 := fun ⟨j, _, h, _⟩ => absurd h (Nat.not_lt_zero _)
theorem heldK_succ {l : List Ce} {row s o k : Nat} (hk : k < l.length) : HeldK l row s o (k + 1) ↔ HeldK l row s o k ∨ (l[k].row = row ∧ meetC l[k].st l[k].ord s o) := by
  constructor
  · rintro ⟨j, hj, h1, h2⟩
    rcases Nat.lt_or_ge j k with h | h
    · exact .inl ⟨j, hj, h, h2⟩
    · obtain rfl : j = k := by omega
      exact .inr h2
  · rintro (⟨j, hj, h1, h2⟩ | h)
    · exact ⟨j, hj, by omega, h2⟩
    · exact ⟨k, hk, by omega, h⟩
theorem heldK_all {l : List Ce} {row s o : Nat} : HeldK l row s o l.length ↔ ¬ FreeG l row s o := by
  unfold FreeG
  constructor
  · rintro ⟨j, hj, _, h1, h2⟩ h
    exact h _ (List.getElem_mem hj) h1 h2
  · intro h
    by_cases hh : HeldK l row s o l.length
    · exact hh
    · refine absurd (fun c hc hr hm => hh ?_) h
      obtain ⟨j, hj, rfl⟩ := List.getElem_of_mem hc
      exact ⟨j, hj, hj, hr, hm⟩
end Go.Proofs.Ytfobapnncjjeiaa
