/-
  A number stored into a row of integers that is owned.
-/
import Derived.Test.YtioeblljabohbaaGRw
import Derived.Test.YtioeblljabohbaaChg
namespace Go.Proofs.Ytioeblljabohbaa
open Go Go.RowKit
set_option linter.unusedVariables false

theorem nown_blk {w : World} {base g n c : Nat} {l : List Int} (h : NOwn w base (.slice (some ⟨g, 0, none⟩) n c) l) : ∃ cur : Array Value, Blk w g cur 3 ∧ base ≤ g ∧ l.length ≤ cur.size := by
  obtain ⟨hl, ⟨e, _⟩ | ⟨g', cap, cur, e, hb, hg, h1, h2, h3, h4⟩⟩ := h
  · cases e
  · injection e with e1 e2 e3
    injection e1 with e1; injection e1 with e1
    subst e1
    exact ⟨cur, hg, hb, by omega⟩
theorem nown_cell {w : World} {base g n c : Nat} {l : List Int} (h : NOwn w base (.slice (some ⟨g, 0, none⟩) n c) l) {k : Nat} (hk : k < l.length) :
    w.cell? ⟨g, k, none⟩ = some (.int .i64 (l.getD k 0)) ∧ w.frozen? ⟨g, k, none⟩ = false ∧ base ≤ g ∧ g < w.heap.size := by
  obtain ⟨cur, hc, hb, hs⟩ := nown_blk h
  obtain ⟨g', cap, e, _, _, _, _, h3⟩ := nown_parts h (by omega)
  injection e with e1 e2 e3
  injection e1 with e1; injection e1 with e1
  subst e1
  exact ⟨h3 k hk, hc.free k, hb, hc.lt⟩
theorem nown_store {w : World} {base g n c : Nat} {l : List Int} (h : NOwn w base (.slice (some ⟨g, 0, none⟩) n c) l) {k : Nat} (hk : k < l.length) (x : Int) :
    NOwn (w.setCell ⟨g, k, none⟩ (.int .i64 x)) base (.slice (some ⟨g, 0, none⟩) n c) (l.set k x) := by
  obtain ⟨hl, ⟨e, _⟩ | ⟨g', cap, cur, e, hb, hg, h1, h2, h3, h4⟩⟩ := h
  · cases e
  · injection e with e1 e2 e3
    injection e1 with e1; injection e1 with e1
    subst e1
    have hB : Blk w g cur 3 := hg
    have hB2 := hB.set k (.int .i64 x)
    refine ⟨by simp [numsL], .inr ⟨g, c, cur.setIfInBounds k (.int .i64 x), by rw [List.length_set, e2], hb, hB2, ?_, ?_, ?_, ?_⟩⟩
    · rw [List.length_set]; omega
    · omega
    · first | (rw [Array.size_setIfInBounds]; exact h3) | (simp; omega) | (simp; exact h3)
    · rw [List.length_set, Array.toList_setIfInBounds, List.take_set, h4]
      unfold numsL
      rw [List.map_set]
/-- A row of numbers by places. -/
def rowI (f : Nat → Nat) (k : Nat) : List Int := (List.range k).map fun i => (f i : Int)
theorem rowI_len (f : Nat → Nat) (k : Nat) : (rowI f k).length = k := by unfold rowI; simp
theorem rowI_succ (f : Nat → Nat) (k : Nat) : rowI f (k + 1) = rowI f k ++ [(f k : Int)] := by unfold rowI; rw [List.range_succ, List.map_append]; rfl
theorem rowI_get (f : Nat → Nat) (k i : Nat) : (rowI f k)[i]? = if i < k then some (f i : Int) else none := by
  unfold rowI
  rw [List.getElem?_map]
  by_cases h : i < k
  · rw [if_pos h, List.getElem?_range h]; rfl
  · rw [if_neg h, List.getElem?_eq_none (by simpa using h)]; rfl
theorem rowI_at (f : Nat → Nat) {k i : Nat} (h : i < k) : (rowI f k).getD i 0 = (f i : Int) := by
  rw [List.getD_eq_getElem?_getD, rowI_get, if_pos h]; rfl
theorem rowI_congr {f g : Nat → Nat} {k : Nat} (h : ∀ i, i < k → f i = g i) : rowI f k = rowI g k := by
  unfold rowI
  exact List.map_congr_left fun i hi => by rw [h i (by simpa using hi)]
theorem rowI_set (f : Nat → Nat) {k i x : Nat} : (rowI f k).set i (x : Int) = rowI (fun j => if j = i then x else f j) k := by
  apply List.ext_getElem?
  intro j
  rw [List.getElem?_set, rowI_get, rowI_get, rowI_len]
  by_cases e : i = j
  · subst e
    rw [if_pos rfl, if_pos rfl]
  · rw [if_neg e]
    have e2 : ¬ j = i := fun h => e h.symm
    simp only [if_neg e2]
/-- The first k changed. -/
def mixF (p s : Nat → Nat) (k i : Nat) : Nat := if i < k then p i else s i
theorem mix_zero (p s : Nat → Nat) (n : Nat) : rowI (mixF p s 0) n = rowI s n := rowI_congr fun i _ => if_neg (by omega)
theorem mix_all (p s : Nat → Nat) (n : Nat) : rowI (mixF p s n) n = rowI p n := rowI_congr fun i h => if_pos h
theorem mix_at (p s : Nat → Nat) (k : Nat) : mixF p s k k = s k := if_neg (by omega)
theorem mix_set (p s : Nat → Nat) (k n : Nat) : (rowI (mixF p s k) n).set k (p k : Nat) = rowI (mixF p s (k + 1)) n := by
  rw [rowI_set]
  refine rowI_congr fun i _ => ?_
  unfold mixF
  by_cases e : i = k
  · subst e; rw [if_pos rfl, if_pos (by omega)]
  · rw [if_neg e]
    by_cases h : i < k
    · rw [if_pos h, if_pos (by omega)]
    · rw [if_neg h, if_neg (by omega)]
end Go.Proofs.Ytioeblljabohbaa
