/-
  The reader's zero value. (Its row is looked up by the kernel: slow, so it has a text of its own.)
-/
import Derived.Test.YtdhkinknhjpjmaaDoorIxD
import Derived.Deep.WholeRow
namespace Go.Proofs.YtdhkinknhjpjmaaDoor
open Go Go.RowKit Go.Lib
set_option linter.unusedVariables false

def zeroC (i : Nat) : Value := if i < 7 then .int .i64 0 else if i < 1008 then .bool false else .int .i64 0
def zeroR : Array Value := Array.ofFn (n := 1009) fun i => zeroC i
theorem zero_info : (Tryd.prog.info? 53).map (fun i => (i.zero, i.size)) = some (some (.agg zeroR), 1009) := by kernel_rfl
theorem zero_size : zeroR.size = 1009 := by simp [zeroR]
theorem zero_reader (w : World) : (zeroValue 53).run Tryd.prog w = .ok (.agg zeroR) w := (zero_of_info zero_info).1 w
theorem init_cells : zeroR.setIfInBounds 1008 (.int .i64 (-1)) = St.init.cells := by
  apply Array.ext_getElem?
  intro i
  rw [Array.getElem?_setIfInBounds]
  by_cases hi9 : i < 1009
  · rw [cells_get _ hi9]
    by_cases h : 1008 = i
    · subst h
      rw [if_pos rfl, if_pos (by rw [zero_size]; omega)]
      rfl
    · rw [if_neg h]
      unfold zeroR
      rw [Array.getElem?_ofFn, dif_pos hi9]
      unfold zeroC fieldV
      dsimp only
      by_cases h0 : i = 0
      · rw [if_pos (by omega), if_pos h0]; rfl
      · by_cases h1 : i = 1
        · rw [if_pos (by omega), if_neg h0, if_pos h1]; rfl
        · by_cases h2 : i = 2
          · rw [if_pos (by omega), if_neg h0, if_neg h1, if_pos h2]; rfl
          · by_cases h7 : i < 7
            · rw [if_pos h7, if_neg h0, if_neg h1, if_neg h2, if_pos h7]; rfl
            · rw [if_neg h7, if_pos (by omega), if_neg h0, if_neg h1, if_neg h2, if_neg h7, if_pos (by omega)]; rfl
  · rw [if_neg (by omega), Array.getElem?_eq_none (by rw [zero_size]; omega), Array.getElem?_eq_none (by rw [cells_size]; omega)]
theorem field_one (s : St) (i : Nat) : (fieldV s i).oneCell' = true := by
  unfold fieldV
  split
  · rfl
  · split
    · rfl
    · split
      · rfl
      · split
        · rfl
        · split <;> rfl
/-- A reader is laid whole into its new block. -/
theorem store_init (w : World) : (storeCells ⟨w.heap.size, 0, none⟩ St.init.cells.toList 0).run Tryd.prog (w.alloc (.cells zeroR 53)) = .ok () (w.alloc (.cells St.init.cells 53)) := by
  refine run_storeCells_new w _ _ _ ?_ (by rw [zero_size, cells_size]) ?_
  · rw [cells_size]; exact (zero_of_info zero_info).2
  · rw [Array.all_eq_true]
    intro i hi
    rw [cells_size] at hi
    have := cells_get St.init hi
    rw [Array.getElem?_eq_getElem (by rw [cells_size]; exact hi)] at this
    rw [Option.some.inj this]
    exact field_one _ _
end Go.Proofs.YtdhkinknhjpjmaaDoor
