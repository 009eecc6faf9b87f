/-
  Matrix.closeUp.
-/
import Derived.Test.YtfobapnncjjeiaaGaO
import Derived.Test.YtfobapnncjjeiaaGaU
import Derived.Test.YtfobapnncjjeiaaGaJ
import Derived.Deep.WholeRow
import Derived.Laws.CopyRow
namespace Go.Proofs.Ytfobapnncjjeiaa
open Go Go.RowKit Go.Lib
set_option linter.unusedVariables false

def nC (f : Nat → Nat) : Array Value := Array.ofFn (n := 16) fun i => .int .i64 ((f i : Nat) : Int)
theorem nC_size (f : Nat → Nat) : (nC f).size = 16 := by simp [nC]
theorem nC_get (f : Nat → Nat) {i : Nat} (h : i < 16) : (nC f)[i]? = some (.int .i64 ((f i : Nat) : Int)) := by
  unfold nC; rw [Array.getElem?_ofFn, dif_pos h]
theorem nC_set (f : Nat → Nat) {r : Nat} (x : Nat) (hr : r < 16) : (nC f).setIfInBounds r (.int .i64 (x : Int)) = nC (fun i => if i = r then x else f i) := by
  apply Array.ext_getElem?
  intro i
  by_cases hi : i < 16
  · rw [nC_get _ hi]
    by_cases e : i = r
    · subst e
      rw [Array.getElem?_setIfInBounds_self_of_lt (by rw [nC_size]; exact hi), if_pos rfl]
    · rw [Array.getElem?_setIfInBounds_ne (fun h => e h.symm), nC_get _ hi, if_neg e]
  · rw [Array.getElem?_eq_none (by simp [nC_size]; omega), Array.getElem?_eq_none (by rw [nC_size]; omega)]
theorem nC_zero : nC (fun _ => 0) = #[.int .i64 0, .int .i64 0, .int .i64 0, .int .i64 0, .int .i64 0, .int .i64 0, .int .i64 0, .int .i64 0, .int .i64 0, .int .i64 0, .int .i64 0, .int .i64 0, .int .i64 0, .int .i64 0, .int .i64 0, .int .i64 0] := rfl
theorem nC_congr {f g : Nat → Nat} (h : ∀ i, i < 16 → f i = g i) : nC f = nC g := by
  unfold nC; congr 1; funext i; rw [h i i.2]
/-- Another block that has been made lies beside the matrix. -/
theorem GI.minus {w w' : World} {m n a g : Nat} {own : Nat → Prop} {v : Value} {W : Nat → Nat} {l : List Ce} (h : GI w m own n a v W l) (hb : Below w.heap.size w w') (h1 : w.heap.size ≤ g) (h2 : g < w'.heap.size) : GI w' m (fun k => own k ∧ k ≠ g) n a v W l := by
  have q := h.kept hb
  refine ⟨q.gb, q.row, ⟨h.bown, by have := h.gb.lt; omega⟩, fun k hk => ⟨h.new k (Nat.le_trans hb.size hk), by omega⟩, fun k hk => ⟨⟨(h.ob k hk).1, by have := (h.row.lt k hk).2; omega⟩, (h.ob k hk).2⟩⟩
theorem GN.minus {w w' : World} {m n a g : Nat} {own : Nat → Prop} {l : List Ce} (h : GN w m own n a l) (hb : Below w.heap.size w w') (h1 : w.heap.size ≤ g) (h2 : g < w'.heap.size) : GN w' m (fun k => own k ∧ k ≠ g) n a l := by
  obtain ⟨v, W, q1, q2⟩ := h; exact ⟨v, W, q1.minus hb h1 h2, q2⟩
def zeroW : Array Value := Array.ofFn (n := 256) fun _ => .int .u64 0
theorem zeroW_info : (Try.prog.info? 63).map (fun i => (i.zero, i.size)) = some (some (.agg zeroW), 256) := by kernel_rfl
theorem zeroW_val (w : World) : (zeroValue 63).run Try.prog w = .ok (.agg zeroW) w := (zero_of_info zeroW_info).1 w
theorem zeroW_size : zeroW.size = 256 := by simp [zeroW]
/-- All words are written over with nought. -/
theorem clear_words {w : World} {m n a : Nat} {v : Value} {W : Nat → Nat} (h : GB w m n a v W) :
    ∃ w', (storeCells ⟨m, 3, none⟩ zeroW.toList 0).run Try.prog w = .ok () w' ∧ GB w' m n a v (fun _ => 0) ∧ Chg (One m) w w' := by
  have hb := h.blk
  have hsz := gCells_size n a v W
  have h1 : ∀ u ∈ zeroW.toList, u.oneCell' = true := fun u hu => by
    unfold zeroW at hu
    rw [Array.toList_ofFn, List.mem_ofFn] at hu
    obtain ⟨i, rfl⟩ := hu
    rfl
  have hl : zeroW.toList.length = 256 := by rw [Array.length_toList, zeroW_size]
  refine ⟨_, run_storeCells_at _ m 3 65 zeroW.toList 0 (gCells n a v W) w hb (by rw [hl, hsz]; omega) h1, ⟨?_⟩, ?_⟩
  · have e : ((gCells n a v W).toList.take (3 + 0) ++ zeroW.toList ++ (gCells n a v W).toList.drop (3 + 0 + zeroW.toList.length)).toArray = gCells n a v (fun _ => 0) := by
      apply Array.ext_getElem?
      intro i
      rw [hl, List.getElem?_toArray]
      rw [List.drop_eq_nil_of_le (by rw [Array.length_toList, hsz]; omega), List.append_nil]
      have ht : ((gCells n a v W).toList.take (3 + 0)).length = 3 := by rw [List.length_take, Array.length_toList, hsz]; omega
      by_cases h3 : i < 3
      · rw [List.getElem?_append_left (by omega), List.getElem?_take, if_pos (by omega), Array.getElem?_toList, gCells_get _ _ _ _ (by omega), gCells_get _ _ _ _ (by omega)]
        unfold gField
        rcases (by omega : i = 0 ∨ i = 1 ∨ i = 2) with rfl | rfl | rfl <;> rfl
      · rw [List.getElem?_append_right (by omega), ht, Array.getElem?_toList]
        by_cases h9 : i < 259
        · rw [gCells_get _ _ _ _ h9]
          unfold zeroW gField
          rw [Array.getElem?_ofFn, dif_pos (by omega), if_neg (by omega), if_neg (by omega), if_neg (by omega)]
          rfl
        · rw [Array.getElem?_eq_none (by rw [zeroW_size]; omega), Array.getElem?_eq_none (by rw [gCells_size]; omega)]
    rw [e]
    exact setRow_heap w m _ _ _ _ hb
  · refine ⟨rfl, rfl, rfl, ?_, fun k hk hn => ?_⟩
    · simp [World.setRow]
    · simp only [World.setRow]
      rw [Array.getElem?_modify, if_neg (fun e => hn e.symm)]
def unifyA (l : List Ce) (a : Nat) : Nat := if hasR l a then num l a else 0
theorem unifyA_act {n : Nat} {l : List Ce} (h : OkG n l) (a : Nat) : unifyA l a < rowsG (closeG l) ∨ unifyA l a = 0 := by
  unfold unifyA
  split
  · rename_i hr
    obtain ⟨c, hc, e⟩ := hasR_iff.1 hr
    left
    have := rowsG_lt (closeG_ok h).srt (List.mem_map_of_mem (f := closeC l) hc)
    have e2 : (closeC l c).row = num l a := by rw [← e]; rfl
    omega
  · exact .inr rfl
end Go.Proofs.Ytfobapnncjjeiaa
