/-
  A matrix' zero value, and New. (The row of its type is looked up by the kernel: slow, so it has a text of its own.)
-/
import Derived.Test.YtfobapnncjjeiaaGaD
import Derived.Deep.WholeRow
namespace Go.Proofs.Ytfobapnncjjeiaa
open Go Go.RowKit Go.Lib
set_option linter.unusedVariables false

def gZero : Array Value := gCells 0 0 (.slice none 0 0) (fun _ => 0)
theorem gzero_info : (Try.prog.info? 65).map (fun i => (i.zero, i.size)) = some (some (.agg gZero), 259) := by kernel_rfl
theorem gzero_size : gZero.size = 259 := gCells_size _ _ _ _
theorem gzero_val (w : World) : (zeroValue 65).run Try.prog w = .ok (.agg gZero) w := (zero_of_info gzero_info).1 w
theorem ginit_cells (n : Nat) : gZero.setIfInBounds 0 (.int .i64 (n : Nat)) = gCells n 0 (.slice none 0 0) (fun _ => 0) := by
  apply Array.ext_getElem?
  intro i
  rw [Array.getElem?_setIfInBounds]
  by_cases hi9 : i < 259
  · rw [gCells_get _ _ _ _ hi9]
    by_cases h : 0 = i
    · subst h
      rw [if_pos rfl, if_pos (by rw [gzero_size]; omega)]
      rfl
    · rw [if_neg h]
      unfold gZero
      rw [gCells_get _ _ _ _ hi9]
      unfold gField
      simp only [if_neg (show ¬ i = 0 from fun e => h e.symm)]
  · rw [if_neg (by omega), Array.getElem?_eq_none (by rw [gzero_size]; omega), Array.getElem?_eq_none (by rw [gCells_size]; omega)]
theorem gfield_one (n a : Nat) (W : Nat → Nat) (i : Nat) : (gField n a (.slice none 0 0) W i).oneCell' = true := by
  unfold gField
  split
  · rfl
  · split
    · rfl
    · split <;> rfl
theorem gstore_init (n : Nat) (w : World) : (storeCells ⟨w.heap.size, 0, none⟩ (gCells n 0 (.slice none 0 0) (fun _ => 0)).toList 0).run Try.prog (w.alloc (.cells gZero 65)) = .ok () (w.alloc (.cells (gCells n 0 (.slice none 0 0) (fun _ => 0)) 65)) := by
  refine run_storeCells_new w _ _ _ ?_ (by rw [gzero_size, gCells_size]) ?_
  · rw [gCells_size]; exact (zero_of_info gzero_info).2
  · rw [Array.all_eq_true]
    intro i hi
    rw [gCells_size] at hi
    have := gCells_get n 0 (.slice none 0 0) (fun _ => 0) hi
    rw [Array.getElem?_eq_getElem (by rw [gCells_size]; exact hi)] at this
    rw [Option.some.inj this]
    exact gfield_one _ _ _ _
theorem new_gm {n : Nat} (hn : n ≤ 10) (w : World) (b : Nat) (hb : b ≤ w.heap.size) : GM (w.alloc (.cells (gCells n 0 (.slice none 0 0) (fun _ => 0)) 65)) w.heap.size (fun k => b ≤ k) n 0 [] := by
  refine ⟨.slice none 0 0, fun _ => 0, ⟨⟨Blk.new w _ _⟩, ⟨rfl, .inl ⟨rfl, rfl⟩⟩, hb, fun k hk => ?_, fun g hg => by cases hg⟩, fun r _ => Words.none.congr fun x => ?_, OkG.nil hn, .inr rfl⟩
  · have : w.heap.size + 1 ≤ k := by simpa using hk
    show b ≤ k
    omega
  · constructor
    · exact False.elim
    · rintro ⟨c, hc, _⟩; cases hc
set_option maxRecDepth 100000 in
set_option maxHeartbeats 4000000 in
theorem gnew_ok (n : Nat) (w : World) (hn : n ≤ 10) (b : Nat) (hb : b ≤ w.heap.size) :
    Calls Try.prog 11 #[.int .i64 (n : Nat)] w fun e w' => (∃ m, e = .returned (.tuple #[.pointer (some ⟨m, 0, none⟩), .int .i64 0]) ∧ w.heap.size ≤ m ∧ GM w' m (fun k => b ≤ k) n 0 []) ∧ Below w.heap.size w w' := by
  have H := Lib.hid (new_gm hn w b hb)
  have hst := gstore_init n w
  have hzv := gzero_val
  have hzs := gzero_size
  have hYs := gCells_size n 0 (.slice none 0 0) (fun _ => 0)
  have hY := ginit_cells n
  generalize gZero = Z at *
  generalize gCells n 0 (.slice none 0 0) (fun _ => 0) = Y at *
  have hZ0 : ¬ Z = #[] := by intro e; rw [e] at hzs; simp at hzs
  have hY0 : ¬ Y = #[] := by intro e; rw [e] at hYs; simp at hYs
  have d1 : decide ((n : Int) < 0) = false := decide_eq_false (by omega)
  have d2 : decide ((n : Int) > 10) = false := decide_eq_false (by omega)
  have d3 : decide ((10 : Int) < (n : Int)) = false := decide_eq_false (by omega)
  have d4 : decide (10 < n) = false := decide_eq_false (by omega)
  go_enter Try.func11, Try.ntmps11
  go_wp2_with fail
  go_ret2
  exact ⟨⟨_, rfl, Nat.le_refl _, H.out⟩, (Below.refl _ _).alloc (Nat.le_refl _) _⟩
theorem gnew_no (N : Int) (w : World) (h : ¬ (0 ≤ N ∧ N ≤ 10)) :
    Calls Try.prog 11 #[.int .i64 N] w fun e w' => e = .returned (.tuple #[.pointer none, .int .i64 2]) ∧ Below w.heap.size w w' := by
  by_cases h1 : N < 0
  · have d1 : decide (N < 0) = true := decide_eq_true h1
    go_enter Try.func11, Try.ntmps11
    go_wp2_with fail
    go_returns
    exact ⟨rfl, Below.refl _ _⟩
  · have d1 : decide (N < 0) = false := decide_eq_false h1
    have d2 : decide (N > 10) = true := decide_eq_true (by omega)
    have d3 : decide ((10 : Int) < N) = true := decide_eq_true (by omega)
    go_enter Try.func11, Try.ntmps11
    go_wp2_with fail
    go_returns
    exact ⟨rfl, Below.refl _ _⟩
end Go.Proofs.Ytfobapnncjjeiaa
