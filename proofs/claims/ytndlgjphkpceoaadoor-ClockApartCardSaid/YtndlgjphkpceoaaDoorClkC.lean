/-
  clock.colons, clock.split: at any text.
-/
import Derived.Test.YtndlgjphkpceoaaDoorClkA
import Derived.Test.YtndlgjphkpceoaaDoorShelf
import Derived.Test.YtndlgjphkpceoaaDoorApp
namespace Go.Proofs.YtndlgjphkpceoaaDoor
open Go Go.RowKit Go.Lib
set_option linter.unusedVariables false

/-- The texts of the words. -/
def strs (ws : List Bs) : List Value := ws.map fun l => .string ⟨l.toArray⟩
theorem cells_split (s : ByteArray) : (Lib.splitB ⟨#[58]⟩ 0 (min 4 (s.size + 1) - 1) s).map Value.string = strs (splitK 58 3 s.data.toList) := by
  have h := Lib.splitB_data ⟨#[58]⟩ 0 (min 4 (s.size + 1) - 1) s
  have e : (⟨#[58]⟩ : ByteArray).data.toList = [58] := rfl
  have hl : s.data.toList.length = s.size := Array.length_toList
  rw [e, ← hl, splitN_four] at h
  rw [← hl]
  unfold strs
  rw [← h, List.map_map]
  rfl
theorem len_split (s : ByteArray) : (Lib.splitB ⟨#[58]⟩ 0 (min 4 (s.size + 1) - 1) s).length = (splitK 58 3 s.data.toList).length := by
  have := congrArg List.length (cells_split s)
  simpa [strs] using this

theorem colons_any (s : ByteArray) (m : Int) (w : World) (hs : s.size < 4294967281) (hm : w.cell? ⟨0, 0, none⟩ = some (.int .i64 m)) :
    Calls Tryd.prog 26 #[.string s] w fun e w' => ∃ c, e = .returned (.slice (some ⟨w.heap.size, 0, none⟩) (splitK 58 3 s.data.toList).length c) ∧ (splitK 58 3 s.data.toList).length ≤ c ∧ c ≤ 4 ∧
      (∃ arr, Blk w' w.heap.size arr 9 ∧ arr.toList.take (splitK 58 3 s.data.toList).length = strs (splitK 58 3 s.data.toList)) ∧ Below w.heap.size w w' := by
  have H := Lib.hid (Tryd.strings_SplitN s ⟨#[58]⟩ 4 m w hs hm (by decide) (by decide) (by decide))
  have hl := len_split s
  have hc := cells_split s
  have hle : (Lib.splitB ⟨#[58]⟩ 0 (min 4 (s.size + 1) - 1) s).length ≤ min 4 (s.size + 1) := by
    have := Lib.splitB_length_le ⟨#[58]⟩ 0 (min 4 (s.size + 1) - 1) s; omega
  have h4 : min 4 (s.size + 1) ≤ 4 := by omega
  unfold Lib.cellsOf at H
  rw [hc, hl] at H
  rw [hl] at hle
  have HL := Lib.hid hle
  have H4 := Lib.hid h4
  clear hl hc hle h4
  generalize min 4 (s.size + 1) = q at *
  have hsl : (strs (splitK 58 3 s.data.toList)).length = (splitK 58 3 s.data.toList).length := by simp [strs]
  generalize strs (splitK 58 3 s.data.toList) = vs at *
  generalize (splitK 58 3 s.data.toList).length = n at *
  go_enter Tryd.func26, Tryd.ntmps26
  go_wp2_with fail
  refine Calls.mono (P := Tryd.prog) H.out ?_
  rintro e w' ⟨rfl, rfl⟩
  go_wp2_with fail
  go_ret
  refine ⟨q, rfl, HL.out, H4.out, ⟨_, Blk.new _ _ _, ?_⟩, (Below.refl _ _).alloc (Nat.le_refl _) _⟩
  show List.take _ _ = _
  exact List.take_left' hsl
end Go.Proofs.YtndlgjphkpceoaaDoor
