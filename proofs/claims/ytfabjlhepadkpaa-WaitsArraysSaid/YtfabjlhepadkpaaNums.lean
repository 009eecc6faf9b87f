/-
  Rows of integers: owned, and read.
-/
import Derived.Test.YtfabjlhepadkpaaProg
import Derived.Test.YtfabjlhepadkpaaMem
import Derived.OwnWalk
namespace Go.Proofs.Ytfabjlhepadkpaa
open Go Go.RowKit
set_option linter.unusedVariables false

def numsL (l : List Int) : List Value := l.map (.int .i64)
theorem numsL_len (l : List Int) : (numsL l).length = l.length := by simp [numsL]
theorem numsL_one (l : List Int) : ∀ u ∈ numsL l, u.oneCell' = true := fun u hu => by
  obtain ⟨x, _, rfl⟩ := List.mem_map.1 hu; rfl
theorem numsL_app (a b : List Int) : numsL (a ++ b) = numsL a ++ numsL b := by simp [numsL]
theorem numsL_get {l : List Int} {i : Nat} (h : i < l.length) : (numsL l)[i]? = some (.int .i64 (l.getD i 0)) := by
  unfold numsL; rw [List.getElem?_map, List.getD_eq_getElem?_getD, List.getElem?_eq_getElem h]; rfl
theorem Try.infoNum : (Try.prog.info? 3).map (fun i => (i.zero, i.size, i.bytes)) = some (some (.int .i64 0), 1, 8) := by kernel_rfl
/-- v owns the numbers l. -/
abbrev NOwn (w : World) (base : Nat) (v : Value) (l : List Int) : Prop := w.ownsRow base 3 1 v l.length (numsL l)
theorem NOwn.none (w : World) (base : Nat) : NOwn w base (.slice Option.none 0 0) [] := ⟨rfl, .inl ⟨rfl, rfl⟩⟩
theorem own_older {w : World} {base size n : Nat} {e : TypeId} {v : Value} {xs : List Value} (h : w.ownsRow base e size v n xs) {w' : World} (hB : Below w.heap.size w w') : w'.ownsRow base e size v n xs :=
  h.kept (row := Option.none) ⟨hB.os, hB.tape, hB.output, hB.size, fun j hj _ => hB.block j hj⟩ (by cases v.ownBlock <;> simp)
theorem own_slice {w : World} {base size n : Nat} {e : TypeId} {v : Value} {xs : List Value} (h : w.ownsRow base e size v n xs) : ∃ a c, v = .slice a n c := by
  obtain ⟨_, ⟨rfl, rfl⟩ | ⟨g, cap, cur, rfl, _⟩⟩ := h
  · exact ⟨_, _, rfl⟩
  · exact ⟨_, _, rfl⟩
/-- v is a row of the numbers l. -/
def NRow (w : World) (v : Value) (l : List Int) : Prop :=
  (l = [] ∧ ∃ a c, v = .slice a 0 c ∧ c ≤ maxLen) ∨ ∃ b off c, v = .slice (some ⟨b, off, none⟩) l.length c ∧ 0 < l.length ∧ l.length ≤ c ∧ c ≤ maxLen ∧ b < w.heap.size ∧ ∀ j, j < l.length → w.cell? ⟨b, off + j, none⟩ = some (.int .i64 (l.getD j 0))
theorem NRow.kept {w w' : World} {v : Value} {l : List Int} (h : NRow w v l) (hb : Below w.heap.size w w') : NRow w' v l := by
  rcases h with h | ⟨b, off, c, h1, h2, h3, h4, h5, h6⟩
  · exact .inl h
  · exact .inr ⟨b, off, c, h1, h2, h3, h4, Nat.lt_of_lt_of_le h5 hb.size, fun j hj => cell_next hb (h6 j hj)⟩
theorem NRow.slice {w : World} {v : Value} {l : List Int} (h : NRow w v l) : ∃ a c, v = .slice a l.length c := by
  rcases h with ⟨rfl, a, c, rfl, _⟩ | ⟨b, off, c, rfl, _⟩
  · exact ⟨a, c, rfl⟩
  · exact ⟨_, c, rfl⟩
theorem NRow.none (w : World) : NRow w (.slice Option.none 0 0) [] := .inl ⟨rfl, Option.none, 0, rfl, Nat.zero_le _⟩
theorem nown_parts {w : World} {base : Nat} {v : Value} {l : List Int} (h : NOwn w base v l) (h0 : 0 < l.length) :
    ∃ g cap, v = .slice (some ⟨g, 0, Option.none⟩) l.length cap ∧ base ≤ g ∧ g < w.heap.size ∧ l.length ≤ cap ∧ cap ≤ maxLen ∧ ∀ i, i < l.length → w.cell? ⟨g, i, Option.none⟩ = some (.int .i64 (l.getD i 0)) := by
  obtain ⟨_, ⟨rfl, e⟩ | ⟨g, cap, cur, rfl, hb, hg, h1, h2, h3, h4⟩⟩ := h
  · omega
  · refine ⟨g, cap, rfl, hb, (Array.getElem?_eq_some_iff.1 hg).1, h1, h2, fun i hi => ?_⟩
    have e : (cur.toList.take (l.length * 1))[i]? = cur.toList[i]? := by rw [List.getElem?_take, if_pos (by omega)]
    rw [h4, numsL_get hi] at e
    simp [World.cell?, hg, ← Array.getElem?_toList, ← e]
theorem nrow_of_own {w : World} {base : Nat} {v : Value} {l : List Int} (h : NOwn w base v l) : NRow w v l := by
  rcases Nat.eq_zero_or_pos l.length with h0 | h0
  · obtain ⟨_, ⟨rfl, e⟩ | ⟨g, cap, cur, rfl, hb, hg, h1, h2, h3, h4⟩⟩ := h
    · exact .inl ⟨List.eq_nil_of_length_eq_zero h0, Option.none, 0, rfl, Nat.zero_le _⟩
    · exact .inl ⟨List.eq_nil_of_length_eq_zero h0, some ⟨g, 0, Option.none⟩, cap, by rw [h0], h2⟩
  · obtain ⟨g, cap, rfl, hb, hg, h1, h2, h3⟩ := nown_parts h h0
    exact .inr ⟨g, 0, cap, rfl, h0, h1, h2, hg, fun j hj => by rw [Nat.zero_add]; exact h3 j hj⟩
end Go.Proofs.Ytfabjlhepadkpaa
