/-
  Change's loop, plainly: what it has made of the levels when its index stands at a. No program is imported.
-/
import Derived.Test.YtnbgipegfnpobaaPr6
namespace Go.Proofs.Ytnbgipegfnpobaa
set_option linter.unusedVariables false

/-- The first a levels have more, where they lie within. -/
def addTo (q : List Lv) (f n k : Int) (a : Nat) : List Lv := addV (q.take a) f n k ++ q.drop a
theorem addTo_len (q : List Lv) (f n k : Int) (a : Nat) : (addTo q f n k a).length = q.length := by
  unfold addTo addV; rw [List.length_append, List.length_map, List.length_take, List.length_drop]; omega
theorem addTo_all (q : List Lv) (f n k : Int) : addTo q f n k q.length = addV q f n k := by
  unfold addTo; rw [List.take_length, List.drop_length, List.append_nil]
theorem lv_addTo {q : List Lv} {f n k : Int} {a i : Nat} (hi : i < q.length) : lv (addTo q f n k a) i = if i < a then addL f n k (lv q i) else lv q i := by
  have e : (addTo q f n k a)[i]? = some (if i < a then addL f n k (lv q i) else lv q i) := by
    unfold addTo addV
    rw [List.getElem?_append, List.length_map, List.length_take]
    by_cases h : i < a
    · rw [if_pos (by omega), if_pos h, List.getElem?_map, List.getElem?_take, if_pos h, lv_get hi]; rfl
    · rw [if_neg (by omega), if_neg h, List.getElem?_drop, show a + (i - min a q.length) = i by omega, lv_get hi]
  unfold lv at e ⊢
  rw [List.getD_eq_getElem?_getD, e]; rfl
theorem lv_ext {a b : List Lv} (hl : a.length = b.length) (h : ∀ i, i < a.length → lv a i = lv b i) : a = b := by
  apply List.ext_getElem?
  intro i
  by_cases hi : i < a.length
  · rw [lv_get hi, lv_get (by omega), h i hi]
  · rw [List.getElem?_eq_none (by omega), List.getElem?_eq_none (by omega)]
theorem addTo_same {q : List Lv} {f n k : Int} {a b : Nat} (h : ∀ i, i < q.length → ((i < a ∧ ¬ i < b) ∨ (i < b ∧ ¬ i < a)) → ¬ inW f n (lv q i).1) : addTo q f n k a = addTo q f n k b := by
  refine lv_ext (by rw [addTo_len, addTo_len]) fun i hi => ?_
  rw [addTo_len] at hi
  rw [lv_addTo hi, lv_addTo hi]
  have hx : ¬ inW f n (lv q i).1 → addL f n k (lv q i) = lv q i := fun hw => by unfold addL; rw [if_neg hw]
  by_cases h1 : i < a <;> by_cases h2 : i < b
  · rw [if_pos h1, if_pos h2]
  · rw [if_pos h1, if_neg h2, hx (h i hi (.inl ⟨h1, h2⟩))]
  · rw [if_neg h1, if_pos h2, hx (h i hi (.inr ⟨h2, h1⟩))]
  · rw [if_neg h1, if_neg h2]
structure ChSt (q : List Lv) (f n k : Int) (a : Nat) : Prop where
  lt : a < q.length
  ge : f ≤ (lv q a).1
  fine : ∀ i, i < a → inW f n (lv q i).1 → ¬ overT ((lv q i).2 + k)
theorem ChSt.over {q : List Lv} {f n k : Int} {a : Nat} (h : ChSt q f n k a) (h1 : (lv q a).1 < f + n) (ho : overT ((lv q a).2 + k)) : ∃ x ∈ q, inW f n x.1 ∧ overT (x.2 + k) :=
  ⟨lv q a, lv_mem h.lt, ⟨h.ge, h1⟩, ho⟩
theorem ats_lv {q : List Lv} {t : Int} (h : t ∈ ats q) : ∃ e, e < q.length ∧ (lv q e).1 = t := by
  obtain ⟨x, hx, rfl⟩ := List.mem_map.1 h
  obtain ⟨e, he, rfl⟩ := List.getElem_of_mem hx
  refine ⟨e, he, ?_⟩
  have := lv_get he
  rw [List.getElem?_eq_getElem he] at this
  rw [← Option.some.inj this]
theorem ChSt.next {q : List Lv} {f n k : Int} {a : Nat} (hq : Inc q) (he : f + n ∈ ats q) (h : ChSt q f n k a) (h1 : (lv q a).1 < f + n) (ho : ¬ overT ((lv q a).2 + k)) : ChSt q f n k (a + 1) := by
  obtain ⟨e, h2, h3⟩ := ats_lv he
  have hlt : a < e := by
    rcases Nat.lt_trichotomy a e with h4 | h4 | h4
    · exact h4
    · subst h4; omega
    · have := hq.at _ _ h4 h.lt; omega
  refine ⟨by omega, ?_, fun i hi hw => ?_⟩
  · have := hq.at a (a + 1) (by omega) (by omega)
    have := h.ge
    omega
  · rcases Nat.lt_succ_iff_lt_or_eq.1 hi with h4 | rfl
    · exact h.fine i h4 hw
    · exact ho
theorem ChSt.done {q : List Lv} {f n k : Int} {a : Nat} (hq : Inc q) (h : ChSt q f n k a) (h1 : f + n ≤ (lv q a).1) : addTo q f n k a = addV q f n k ∧ ¬ ∃ x ∈ q, inW f n x.1 ∧ overT (x.2 + k) := by
  have hno : ∀ i, a ≤ i → i < q.length → ¬ inW f n (lv q i).1 := fun i h2 h3 hw => by
    rcases Nat.eq_or_lt_of_le h2 with rfl | h4
    · have := hw.2; omega
    · have := hq.at _ _ h4 h3
      have := hw.2; omega
  refine ⟨?_, ?_⟩
  · rw [← addTo_all]
    exact addTo_same fun i hi h2 => hno i (by omega) hi
  · rintro ⟨x, hx, hw, ho⟩
    obtain ⟨e, he, rfl⟩ := List.getElem_of_mem hx
    have hv := lv_get he
    rw [List.getElem?_eq_getElem he] at hv
    rw [Option.some.inj hv] at hw ho
    rcases Nat.lt_or_ge e a with h2 | h2
    · exact h.fine e h2 hw ho
    · exact hno e h2 he hw
theorem ChSt.start {q : List Lv} {f n k : Int} (hq : Inc q) (h : f ∈ ats q) : ChSt q f n k (num q f - 1) ∧ addTo q f n k (num q f - 1) = q ∧ num q f ≠ 0 := by
  obtain ⟨e, h2, h3⟩ := ats_lv h
  have hn : num q f = e + 1 := num_uniq hq (by omega) (fun i hi => by
    rcases Nat.lt_succ_iff_lt_or_eq.1 hi with h4 | rfl
    · have := hq.at _ _ h4 h2; omega
    · omega) fun i h4 h5 => by have := hq.at _ _ (show e < i by omega) h5; omega
  rw [hn, Nat.add_sub_cancel]
  have hno : ∀ i, i < e → ¬ inW f n (lv q i).1 := fun i hi hw => by
    have := hq.at _ _ hi h2
    have := hw.1; omega
  refine ⟨⟨h2, by omega, fun i hi hw => absurd hw (hno i hi)⟩, ?_, by omega⟩
  rw [addTo_same (b := 0) fun i hi h4 => hno i (by omega)]
  unfold addTo addV; simp
theorem addTo_next {q : List Lv} {f n k : Int} {a i : Nat} (h : ChSt q f n k a) (h1 : (lv q a).1 < f + n) (hi : i < q.length) :
    lv (addTo q f n k (a + 1)) i = if i = a then ((lv q a).1, (lv q a).2 + k) else lv (addTo q f n k a) i := by
  rw [lv_addTo hi, lv_addTo hi]
  by_cases e : i = a
  · subst e
    rw [if_pos (by omega), if_pos rfl]
    unfold addL; rw [if_pos ⟨h.ge, h1⟩]
  · rw [if_neg e]
    by_cases h2 : i < a
    · rw [if_pos (by omega), if_pos h2]
    · rw [if_neg (by omega), if_neg h2]
end Go.Proofs.Ytnbgipegfnpobaa
