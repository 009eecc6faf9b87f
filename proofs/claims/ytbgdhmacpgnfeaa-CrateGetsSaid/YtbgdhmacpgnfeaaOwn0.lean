/-
  What XOwnA to XOwn take of the other texts, for seats without keys.
-/
import Derived.Test.YtbgdhmacpgnfeaaCrateB
import Derived.Laws.OwnMore
import Derived.OwnWalk
import Derived.Laws.BytesArg
import Derived.Sort.Defs
import Derived.Maps.OwnSet
import Derived.Maps.AppendAt
import Derived.Lib.SliceRun
import Derived.WalkMore
namespace Go.Proofs.Ytbgdhmacpgnfeaa
open Go Go.RowKit Go.Lib
set_option linter.unusedVariables false

theorem Try.infoByte : (Try.prog.info? 5).map (fun i => (i.zero, i.size, i.bytes)) = some (some (.int .u8 0), 1, 1) := by kernel_rfl
def cellsB (l : List Int) : List Value := l.map fun b => .int .u8 b
theorem cellsB_snoc (l : List Int) (b : Int) : cellsB (l ++ [b]) = cellsB l ++ [.int .u8 b] := by simp [cellsB]
theorem cellsB_app (a b : List Int) : cellsB (a ++ b) = cellsB a ++ cellsB b := by simp [cellsB]
theorem cellsB_one (l : List Int) : ∀ u ∈ cellsB l, u.oneCell' = true := by
  intro u hu
  obtain ⟨b, _, rfl⟩ := List.mem_map.1 hu
  rfl
theorem cellsB_get {l : List Int} {i : Nat} (h : i < l.length) : (cellsB l)[i]? = some (.int .u8 (l.getD i 0)) := by
  simp [cellsB, List.getElem?_eq_getElem h, List.getD]
theorem owns_pos {w : World} {base size n : Nat} {e : TypeId} {v : Value} {xs : List Value} (h : w.ownsRow base e size v n xs) (h0 : 0 < n) :
    ∃ g cap cur, v = .slice (some ⟨g, 0, none⟩) n cap ∧ base ≤ g ∧ Blk w g cur e ∧ n ≤ cap ∧ cap ≤ maxLen ∧ cur.size = cap * size ∧ cur.toList.take (n * size) = xs := by
  obtain ⟨hl, ⟨_, hn⟩ | ⟨g, cap, cur, hv, hg, r⟩⟩ := h
  · omega
  · exact ⟨g, cap, cur, hv, hg, r⟩
/-- Bytes, as the rows of gangerref00.Own take them. -/
theorem bts_cellsB (xs : List UInt8) : bts xs = cellsB (xs.map fun b => (b.toNat : Int)) := by simp [bts, cellsB]
end Go.Proofs.Ytbgdhmacpgnfeaa
