/-
  slices.SortFunc at rows of elements of any number of cells: from the library's contract to rows that are owned. No program is imported.
-/
import Derived.Test.YtioeblljabohbaaRwO
import Derived.Test.YtioeblljabohbaaGrw
import Derived.Lib.SliceRun
namespace Go.Proofs.Ytioeblljabohbaa
open Go Go.RowKit Go.Lib Go.Sort
set_option linter.unusedVariables false

section
variable {α : Type} [Inhabited α] {enc : α → List Value} {k : Nat}
theorem to_getG (xs : List α) (j : Nat) (h : j < xs.length) : xs.toArray[j]! = xs[j] := by
  rw [getElem!_pos _ j (by simpa using h)]; simp
theorem flatK_eqG (hk : ∀ x, (enc x).length = k) (h0 : 0 < k) (xs : List α) : flatK enc k xs.toArray = (xs.flatMap enc).toArray := by
  apply Array.ext_getElem?
  intro t
  by_cases ht : t < xs.length * k
  · have hj : t / k < xs.length := by rw [Nat.div_lt_iff_lt_mul h0]; exact ht
    have hr : t % k < k := Nat.mod_lt _ h0
    have e := Nat.div_add_mod t k
    have h1 := flatG_get hk xs (t / k) hj (t % k) hr
    rw [Nat.mul_comm (t / k) k, e] at h1
    rw [show (xs.flatMap enc).toArray[t]? = (xs.flatMap enc)[t]? by simp, h1]
    unfold flatK
    rw [Array.getElem?_map, Array.getElem?_range]
    simp only [List.size_toArray, ht, if_true, Option.map_some]
    rw [to_getG xs _ hj]
    rw [List.getElem?_eq_getElem (by rw [hk]; exact hr)]
    simp [getElem!_pos, hk, hr]
  · rw [Array.getElem?_eq_none (by unfold flatK; simp; omega), Array.getElem?_eq_none (by simp only [List.size_toArray]; rw [flatG_len hk]; omega)]
theorem putFlatG (hk : ∀ x, (enc x).length = k) (h0 : 0 < k) (cur : Array Value) (ys : List α) (h : ys.length * k ≤ cur.size) : (putCells id 0 (flatK enc k ys.toArray) cur).toList.take (ys.length * k) = ys.flatMap enc := by
  rw [flatK_eqG hk h0]
  have hl := flatG_len hk ys
  generalize ys.flatMap enc = Z at *
  apply List.ext_getElem?
  intro j
  by_cases hj : j < ys.length * k
  · rw [List.getElem?_take_of_lt hj, Array.getElem?_toList]
    have hj' : j < Z.length := by rw [hl]; exact hj
    simp [putCells, hj', show j < cur.size by omega]
  · rw [List.getElem?_take_eq_none (by omega), List.getElem?_eq_none (by rw [hl]; omega)]
theorem heap_sortedG {w : World} {g n : Nat} {os : Array Obj} {cur : Array Value} {e : TypeId} {fr : Nat × Nat} (d : Array α) (hb : w.heap[g]? = some (.cells cur e fr)) :
    (sortWorldK enc k w g 0 n d os).heap[g]? = some (.cells (putCells id 0 (flatK enc k d) cur) e fr) := by
  have hg : g < w.heap.size := (Array.getElem?_eq_some_iff.1 hb).1
  unfold sortWorldK putRowK
  rw [heap_grow_old _ _ (by simpa using hg)]
  simp [putRow, mapBlock, Sort.ahead, Array.getElem?_modify, hb, onCells]
theorem grownBy_sortedG {w : World} {g n : Nat} {os : Array Obj} (d : Array α) : w.grownBy (sortWorldK enc k w g 0 n d os) (some g) := by
  refine ⟨rfl, rfl, rfl, by simp [sortWorldK, putRowK], fun j hj hne => ?_⟩
  unfold sortWorldK putRowK
  rw [heap_grow_old _ _ (by simpa using hj)]
  have : g ≠ j := fun e => hne (by rw [e])
  simp [putRow, mapBlock, Sort.ahead, Array.getElem?_modify, this]
theorem holds_ofG (hk : ∀ x, (enc x).length = k) (h0 : 0 < k) {w : World} {g : Nat} {cur : Array Value} {e : TypeId} {xs : List α} (hb : w.heap[g]? = some (.cells cur e (0, 0))) (ht : cur.toList.take (xs.length * k) = xs.flatMap enc) :
    HoldsK enc k w g 0 xs.toArray := by
  unfold HoldsK
  rw [flatK_eqG hk h0]
  have hl := flatG_len hk xs
  generalize xs.flatMap enc = Z at *
  intro j hj
  have hj' : j < Z.length := by simpa using hj
  have hj3 : j < xs.length * k := by rw [← hl]; exact hj'
  refine ⟨?_, by simp [World.frozen?, hb]⟩
  have h1 : (cur.toList.take (xs.length * k))[j]? = Z[j]? := by rw [ht]
  rw [List.getElem?_take_of_lt hj3] at h1
  simp only [World.cell?, hb, Nat.zero_add]
  simp only [Option.isSome_none, Bool.false_eq_true, if_false]
  rw [← Array.getElem?_toList, h1]
  simp [hj']
/-- Each element is no more than the next one. -/
def WeakG (lt : α → α → Bool) (S : List α) : Prop := ∀ i, (h : i + 1 < S.length) → lt S[i + 1] S[i] = false
theorem sortG_own {P : Program} {fS : FuncId} {clos : Value} {e : TypeId} (hk : ∀ x, (enc x).length = k) (h0 : 0 < k) (cf : α → α → Int) (base : Nat) (v : Value) (xs : List α) (w : World) (h : w.ownsRow base e k v xs.length (xs.flatMap enc))
    (hnone : Calls P fS #[.slice none 0 0, clos] w fun e w' => e = .returned (.tuple #[]) ∧ w' = w)
    (hsome : ∀ g cap, HoldsK enc k w g 0 xs.toArray → g < w.heap.size → Calls P fS #[.slice (some ⟨g, 0, none⟩) xs.toArray.size cap, clos] w fun e w' => e = .returned (.tuple #[]) ∧ ∃ d' n os, PermIn 0 xs.toArray.size xs.toArray d' ∧ SortedIn (ltOf cf) 0 xs.toArray.size d' ∧ w' = sortWorldK enc k w g 0 n d' os) :
    Calls P fS #[v, clos] w fun e' w' => e' = .returned (.tuple #[]) ∧ ∃ S : List α, S.Perm xs ∧ WeakG (ltOf cf) S ∧ w'.ownsRow base e k v S.length (S.flatMap enc) ∧ w.grownBy w' v.ownBlock := by
  obtain ⟨hl, ⟨rfl, hn0⟩ | ⟨g, cap, cur, rfl, hg, hcur, hcap, hmax, hsz, htk⟩⟩ := id h
  · have hx := List.eq_nil_of_length_eq_zero hn0
    subst hx
    exact hnone.mono fun e w' ⟨he, hw⟩ => by
      subst hw
      exact ⟨he, [], .refl _, fun i h => by simp at h, h, ⟨rfl, rfl, rfl, Nat.le_refl _, fun _ _ _ => rfl⟩⟩
  · have hcon := hsome g cap (holds_ofG hk h0 hcur htk) (Array.getElem?_eq_some_iff.1 hcur).1
    have hsz' : xs.toArray.size = xs.length := by simp
    rw [hsz'] at hcon
    exact hcon.mono fun e' w' ⟨he, d, n, os, hp, hs, hw⟩ => by
      subst hw
      obtain ⟨hp1, _, hp3⟩ := hp
      rw [hsz'] at hp1
      have hd : (d.extract 0 xs.length).toList = d.toList := by rw [← hp1]; simp
      have hx : (xs.toArray.extract 0 xs.length).toList = xs := by simp
      rw [hd, hx] at hp3
      have hlen : d.toList.length = xs.length := by simpa using hp1
      refine ⟨he, d.toList, hp3, fun i hi => ?_, ?_, grownBy_sortedG _⟩
      · have h1 := hs i (i + 1) (Nat.zero_le _) (Nat.lt_succ_self _) (by omega)
        have e : ∀ j, (hj : j < d.toList.length) → d[j]! = d.toList[j] := fun j hj => by have := to_getG d.toList j hj; simpa using this
        rw [e i (by omega), e (i + 1) hi] at h1
        exact h1
      · have ed : d.toList.toArray = d := by simp
        have hle : d.toList.length * k ≤ cur.size := by rw [hlen, hsz]; exact Nat.mul_le_mul_right k hcap
        have := putFlatG hk h0 cur d.toList hle
        rw [ed] at this
        rw [hlen]
        rw [hlen] at this
        exact ⟨by rw [flatG_len hk, hlen], .inr ⟨g, cap, _, rfl, hg, heap_sortedG _ hcur, hcap, hmax, by simp [putCells, hsz], this⟩⟩
end
end Go.Proofs.Ytioeblljabohbaa
