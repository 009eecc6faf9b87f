/-
  indexes.Print: at any row of numbers and any limit.
-/
import Derived.Test.YtdhkinknhjpjmaaDoorIxN
namespace Go.Proofs.YtdhkinknhjpjmaaDoor
open Go Go.RowKit Go.Lib
set_option linter.unusedVariables false

theorem okZ_at {l : List Int} {m : Int} (h : OkZ l m) {i : Nat} (hi : i < l.length) : 0 ≤ l[i] ∧ l[i] ≤ 1000 ∧ (∀ (h0 : 0 < i), l[i - 1] < l[i]) := by
  have g : ∀ j (hj : j < l.length), l.getD j 0 = l[j] := fun j hj => by rw [List.getD_eq_getElem?_getD, List.getElem?_eq_getElem hj]; rfl
  obtain ⟨h1, h2, h3⟩ := h.2.2.2 i hi
  rw [g i hi] at h1 h2 h3
  exact ⟨h1, h2, fun h0 => by have := h3 h0; rw [g (i - 1) (by omega)] at this; exact this⟩
theorem okZ_step {l : List Int} {m : Int} (h : OkZ l m) : ∀ (d i : Nat) (hi : i + d + 1 < l.length), l[i] < l[i + d + 1]
  | 0, i, hi => by
    have := (okZ_at h hi).2.2 (by omega)
    simpa using this
  | d + 1, i, hi => by
    have h1 := okZ_step h d i (by omega)
    have h2 := (okZ_at h hi).2.2 (by omega)
    have h3 : l[i + (d + 1) + 1 - 1] = l[i + d + 1] := by congr 1
    rw [h3] at h2
    exact Int.lt_trans h1 h2
/-- The numbers as Nats. -/
def toN (l : List Int) : List Nat := l.map Int.toNat
theorem ofN_toN {l : List Int} {m : Int} (h : OkZ l m) : ofN (toN l) = l := by
  unfold ofN toN
  rw [List.map_map]
  apply List.ext_getElem (by simp)
  intro i h1 h2
  have := (okZ_at h h2).1
  simp only [List.getElem_map, Function.comp]
  exact Int.toNat_of_nonneg this
theorem okN_of {l : List Int} {m : Int} (h : OkZ l m) : OkN (toN l) m.toNat := by
  refine ⟨fun e => ?_, ?_, fun x hx => ?_, by have := h.2.1; have := h.2.2.1; omega⟩
  · have := h.1
    unfold toN at e
    rw [List.map_eq_nil_iff] at e
    rw [e] at this; simp at this
  · rw [List.pairwise_iff_getElem]
    intro i j hi hj hij
    unfold toN at hi hj ⊢
    rw [List.length_map] at hi hj
    obtain ⟨d, rfl⟩ : ∃ d, j = i + d + 1 := ⟨j - i - 1, by omega⟩
    have h1 := okZ_step h d i hj
    have h2 := (okZ_at h hi).1
    simp only [List.getElem_map]
    omega
  · unfold toN at hx
    obtain ⟨y, hy, rfl⟩ := List.mem_map.1 hx
    obtain ⟨i, hi, rfl⟩ := List.mem_iff_getElem.1 hy
    have := (okZ_at h hi).2.1
    omega
open Classical in
noncomputable def printZ (l : List Int) (m : Int) : ByteArray := if OkZ l m then ⟨(printT (toN l) m.toNat).toArray⟩ else ⟨#[]⟩
theorem print_any (v : Value) (l : List Int) (m : Int) (w : World) (hn : l.length ≤ 1048576) (htab : TabW w) (h : NRow w v l) :
    Calls Tryd.prog 15 #[arrV v m] w fun e w' => e = .returned (.tuple #[.string (printZ l m), .int .i64 (checkZ l m)]) ∧ Below w.heap.size w w' := by
  by_cases hz : OkZ l m
  · rw [show printZ l m = ⟨(printT (toN l) m.toNat).toArray⟩ from if_pos hz, checkZ_ok hz]
    have hm : m = ((m.toNat : Nat) : Int) := (Int.toNat_of_nonneg hz.2.1).symm
    have hl := ofN_toN hz
    have hll : (toN l).length = l.length := by simp [toN]
    rcases h with ⟨rfl, _⟩ | ⟨b, off, c, rfl, h0, h1, h2, h3, h4⟩
    · have := hz.1; simp at this
    · have key := print_ok b off c (toN l) m.toNat w (by omega) (okN_of hz) htab (by omega) h2 h3 (fun j hj => by
        rw [← ofN_get, hl]; exact h4 j (by omega))
      rw [hll, ← hm] at key
      exact key
  · rw [show printZ l m = ⟨#[]⟩ from if_neg hz, checkZ_no hz]
    exact print_no v l m w hn h hz
end Go.Proofs.YtdhkinknhjpjmaaDoor
