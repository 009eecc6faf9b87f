/-
  Arguments that are rows of elements of any number of cells, opened. No program is imported.
-/
import Derived.Test.YtfabjlhepadkpaaRwG
import Derived.ChangeSlices
import Derived.Deep.Slices
namespace Go.Proofs.Ytfabjlhepadkpaa
open Go Go.ChangeShapes Go.WideShapes Go.ChangeAt Go.RowKit Go.Deep
set_option linter.unusedVariables false

section
variable {H : Type} {enc : TypeId × Value → H} {P : Program} {W : World} {α : Type}
theorem open_rowG (s : Nat) (encE : α → List Value) (Ok : α → Prop) (hsz : 0 < s) (hlen : ∀ x, (encE x).length = s) {t e : TypeId} (ht : P.underlying t = some (.slice e)) (hC : P.cellsOf e = s)
    (elem : ∀ (n : Nat) (cs : List Value) (x : DataW H × List MemPlace), DataW.trod enc P W 0 (fun _ => true) true n e cs = some x → ∃ k : α, cs = encE k ∧ Ok k)
    {v : Value} {d : DataW H} {p : List MemPlace} (h : DataW.Trod enc P W 0 (fun _ => true) true t v d p) (hv : ∃ a len cap, v = .slice a len cap) : ∃ xs : List α, RowG s encE W v xs ∧ xs.length ≤ maxLen ∧ ∀ x ∈ xs, Ok x := by
  obtain ⟨n, hf⟩ := h
  obtain ⟨a0, len0, cap0, rfl⟩ := hv
  rcases open_slice ht hf with ⟨hcs, _⟩ | ⟨a, len, cap, m, q, D, Pl, hcs, _, hl, hm, hmm, _, hi⟩
  · have e1 : Value.slice a0 len0 cap0 = .slice none 0 0 := by simpa [Value.cells] using hcs
    rw [e1]
    exact ⟨[], .inl ⟨rfl, none, 0, rfl⟩, Nat.zero_le _, fun x hx => nomatch hx⟩
  · have e1 : Value.slice a0 len0 cap0 = .slice (some a) len cap := by simpa [Value.cells] using hcs
    rw [e1]
    simp only [if_true] at hmm
    rw [hC] at hi
    by_cases h0 : len = 0
    · subst h0
      exact ⟨[], .inl ⟨rfl, some a, cap, rfl⟩, Nat.zero_le _, fun x hx => nomatch hx⟩
    · have hk : ∀ i, i < len → ∃ k : α, Ok k ∧ ∀ j, j < s → W.cell? (a.add (i * s + j)) = (encE k)[j]? := by
        intro i hil
        obtain ⟨cs', hc, ht⟩ := hi i (by omega)
        obtain ⟨k, rfl, hok⟩ := elem _ _ _ ht
        obtain ⟨_, _, hat⟩ := World.cells?_some hc
        refine ⟨k, hok, fun j hj => ?_⟩
        rw [← hat j hj, add_add]
      obtain ⟨b, off, spot⟩ := a
      have hspot : spot = none := by
        obtain ⟨k, _, hh⟩ := hk 0 (by omega)
        have h1 := hh 0 hsz
        rw [List.getElem?_eq_getElem (by rw [hlen]; exact hsz)] at h1
        simpa [Addr.add] using World.cell?_spot h1
      subst hspot
      let f : ∀ i, i < len → α := fun i h => (hk i h).choose
      let xs : List α := (List.range len).pmap f (fun i hi => by simpa using hi)
      have hxl : xs.length = len := by simp [xs]
      have hat : ∀ i (h : i < xs.length), xs[i] = f i (by rw [← hxl]; exact h) := fun i h => by simp [xs]
      refine ⟨xs, .inr ⟨b, off, cap, by rw [hxl], by omega, fun i hi j u hu => ?_⟩, by omega, fun x hx => ?_⟩
      · have hi' : i < len := by rw [← hxl]; exact hi
        rw [hat i hi] at hu
        have hj : j < s := by have := (List.getElem?_eq_some_iff.1 hu).1; rw [hlen] at this; exact this
        have hh := (hk i hi').choose_spec.2 j hj
        rw [Addr.add_lit, ← Nat.add_assoc] at hh
        rw [hh]; exact hu
      · obtain ⟨i, hi, rfl⟩ := List.getElem_of_mem hx
        rw [hat i hi]
        exact (hk i (by rw [← hxl]; exact hi)).choose_spec.1
end
end Go.Proofs.Ytfabjlhepadkpaa
