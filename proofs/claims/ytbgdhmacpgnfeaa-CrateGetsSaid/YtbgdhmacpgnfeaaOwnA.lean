/-
  gangerref00.Own, plain: rows of bytes, each in a block of its own; filled, appended to, and read again.
-/
import Derived.Test.YtbgdhmacpgnfeaaOwn0
namespace Go.Proofs.Ytbgdhmacpgnfeaa
open Go.ChangeShapes Go.WideShapes Go.ChangeAt Go.RowKit Go.Lib Go.Sort Go.Maps
set_option linter.unusedVariables false

abbrev BRows := List (Value × Nat)
/-- No two rows lie in one block. -/
def Apart (vs : BRows) : Prop := ∀ (i j : Nat) (x y : Value × Nat), i ≠ j → vs[i]? = some x → vs[j]? = some y → x.1.ownBlock = none ∨ x.1.ownBlock ≠ y.1.ownBlock
def fillB (i j : Nat) : Int := ((i * 31 + j % 7 : Nat) : Int) % 256
def tailB (i k : Nat) : Int := ((200 + i * 5 + k : Nat) : Int) % 256

/-- The first m rows are filled, and of row m the first j0 bytes. -/
def FillSt (base : Nat) (vs : BRows) (m j0 : Nat) (w : World) : Prop :=
  ∀ (i : Nat) (v : Value) (n : Nat), vs[i]? = some (v, n) → ∃ xs, w.ownsRow base 5 1 v n (cellsB xs) ∧ ∀ j, j < n → (i < m ∨ (i = m ∧ j < j0)) → xs[j]? = some (fillB i j)

theorem FillSt.zero {base : Nat} {vs : BRows} {w : World} (h : ∀ (i : Nat) (v : Value) (n : Nat), vs[i]? = some (v, n) → ∃ xs, w.ownsRow base 5 1 v n (cellsB xs)) : FillSt base vs 0 0 w := by
  intro i v n hi
  obtain ⟨xs, hx⟩ := h i v n hi
  exact ⟨xs, hx, fun j _ h => by omega⟩
theorem FillSt.next {base : Nat} {vs : BRows} {m n : Nat} {v : Value} {w : World} (h : FillSt base vs m n w) (hm : vs[m]? = some (v, n)) : FillSt base vs (m + 1) 0 w := by
  intro i v' n' hi
  obtain ⟨xs, hx, hf⟩ := h i v' n' hi
  refine ⟨xs, hx, fun j hj hc => ?_⟩
  by_cases e : i = m
  · subst e
    rw [hm] at hi
    obtain ⟨rfl, rfl⟩ : v = v' ∧ n = n' := by simpa using hi
    exact hf j hj (.inr ⟨rfl, hj⟩)
  · exact hf j hj (.inl (by omega))

theorem cellsB_set (l : List Int) (j : Nat) (b : Int) : (cellsB l).set j (.int .u8 b) = cellsB (l.set j b) := by simp [cellsB, List.map_set]

theorem FillSt.step {base : Nat} {vs : BRows} {m j0 n : Nat} {v : Value} {w : World} (hap : Apart vs) (h : FillSt base vs m j0 w) (hm : vs[m]? = some (v, n)) (hj : j0 < n) :
    ∃ g cap u, v = .slice (some ⟨g, 0, none⟩) n cap ∧ base ≤ g ∧ w.cell? ⟨g, j0, none⟩ = some u ∧ w.frozen? ⟨g, j0, none⟩ = false ∧
      ∀ b, b = fillB m j0 → FillSt base vs m (j0 + 1) (w.setCell ⟨g, j0, none⟩ (.int .u8 b)) ∧ w.grownBy (w.setCell ⟨g, j0, none⟩ (.int .u8 b)) (some g) := by
  obtain ⟨xs, hx, hf⟩ := h m v n hm
  obtain ⟨g, cap, cur, rfl, hb, hblk, hnc, hcm, hcs, htake⟩ := owns_pos hx (by omega)
  have hl : xs.length = n := by have := hx.1; simpa [cellsB] using this
  refine ⟨g, cap, .int .u8 (xs.getD j0 0), rfl, hb, ?_, hx.frozenAt j0, ?_⟩
  · rw [hx.cellAt j0 (by omega)]
    exact cellsB_get (by omega)
  · rintro b rfl
    have hst := hx.stored j0 (.int .u8 (fillB m j0))
    refine ⟨?_, hst.2⟩
    intro i v' n' hi
    by_cases e : i = m
    · subst e
      rw [hm] at hi
      obtain ⟨rfl, rfl⟩ : _ = v' ∧ n = n' := by simpa using hi
      refine ⟨xs.set j0 (fillB i j0), by rw [← cellsB_set]; exact hst.1, fun j hjn hc => ?_⟩
      rw [List.getElem?_set]
      by_cases e : j0 = j
      · rw [if_pos e, if_pos (by omega), e]
      · rw [if_neg e]; exact hf j hjn (by omega)
    · obtain ⟨ys, hy, hfy⟩ := h i v' n' hi
      refine ⟨ys, hy.kept hst.2 ?_, fun j hjn hc => hfy j hjn (by omega)⟩
      exact (hap i m _ _ e hi hm).imp id (fun q => by simpa [Value.ownBlock] using q)

theorem FillSt.kept {base : Nat} {vs : BRows} {m j0 : Nat} {w w' : World} {row : Option Nat} (h : FillSt base vs m j0 w) (hg : w.grownBy w' row)
    (hr : ∀ (i : Nat) (v : Value) (n : Nat), vs[i]? = some (v, n) → v.ownBlock = none ∨ v.ownBlock ≠ row) : FillSt base vs m j0 w' := by
  intro i v n hi
  obtain ⟨xs, hx, hf⟩ := h i v n hi
  exact ⟨xs, hx.kept hg (hr i v n hi), hf⟩

theorem grown_trans {a b c : World} {r r' : Option Nat} (h : a.grownBy b r) (k : b.grownBy c r') (hr : r' = r ∨ r' = none ∨ ∃ g, r' = some g ∧ a.heap.size ≤ g) : a.grownBy c r :=
  ⟨k.os.trans h.os, k.tape.trans h.tape, k.output.trans h.output, Nat.le_trans h.size k.size, fun j hj hne => by
    rw [k.block j (Nat.lt_of_lt_of_le hj h.size), h.block j hj hne]
    rcases hr with rfl | rfl | ⟨g, rfl, hg⟩
    · exact hne
    · simp
    · intro e; simp at e; omega⟩

/-- What the row held before an append in place, it holds still. -/
theorem owns_prefix {w0 w : World} {base n m : Nat} {e : TypeId} {v v' : Value} {xs ys zs : List Value} (h0 : w0.ownsRow base e 1 v n zs) (h : w.ownsRow base e 1 v' m (xs ++ ys)) (hx : xs.length = n)
    (hv : ∃ g cap, v = .slice (some ⟨g, 0, none⟩) n cap ∧ v' = .slice (some ⟨g, 0, none⟩) m cap) : w.ownsRow base e 1 v n xs := by
  obtain ⟨g, cap, rfl, rfl⟩ := hv
  have hl := h.1
  rcases h.2 with ⟨q, _⟩ | ⟨g', cap', cur, q, hb, hg, hnc, hcm, hcs, htake⟩
  · cases q
  · simp only [Value.slice.injEq, Option.some.injEq, Addr.mk.injEq, and_true, true_and] at q
    obtain ⟨rfl, rfl⟩ := q
    rw [List.length_append, Nat.mul_one] at hl
    refine ⟨by rw [hx, Nat.mul_one], .inr ⟨g, cap, cur, rfl, hb, hg, by omega, hcm, hcs, ?_⟩⟩
    have : (cur.toList.take (m * 1)).take n = xs := by rw [htake, ← hx, List.take_left]
    rw [List.take_take] at this
    rw [Nat.mul_one, ← this]
    congr 1; omega
end Go.Proofs.Ytbgdhmacpgnfeaa
