/-
  Sixteen whole rows of order 1, plainly.
-/
import Derived.Test.YtfobapnncjjeiaaGaLw
namespace Go.Proofs.Ytfobapnncjjeiaa
set_option linter.unusedVariables false

def rowN (f i : Nat) : Ce := (f + i, i, 0, 1)
def lN (f k : Nat) : List Ce := (List.range k).map (rowN f)
theorem lN_mem {f k : Nat} {c : Ce} : c ∈ lN f k ↔ ∃ i, i < k ∧ c = rowN f i := by
  unfold lN
  rw [List.mem_map]
  exact ⟨fun ⟨i, h, e⟩ => ⟨i, List.mem_range.1 h, e.symm⟩, fun ⟨i, h, e⟩ => ⟨i, List.mem_range.2 h, e.symm⟩⟩
theorem lN_succ (f k : Nat) : lN f (k + 1) = lN f k ++ [rowN f k] := by unfold lN; rw [List.range_succ, List.map_append]; rfl
theorem lN_find {f k j : Nat} (h : k ≤ j) : ∀ c ∈ lN f k, c.1 ≠ f + j := fun c hc => by
  obtain ⟨i, hi, rfl⟩ := lN_mem.1 hc
  show f + i ≠ f + j
  omega
theorem place_row {f k : Nat} {c : Ce} {er : Int} {l' : List Ce} (hk : k < 16) (hf : 1 ≤ f) (h : PlaceR 1 (lN f k) (f + k) 1 c er l') : c = (f + k, k, 0, 1) ∧ er = 0 ∧ l' = lN f (k + 1) := by
  have h0 : IsPlace 1 (lN f k) (f + k) 1 (some (f + k, k, 0, 1)) := by
    show IsPlace 1 (lN f k) (f + k) 1 (some (f + k, k, 0 * 2 ^ 1, 1))
    refine .some k 0 hk (by decide) (fun c hc hr => ?_) (fun r' hr' j hj hfr => ?_) (fun j hj => absurd hj (Nat.not_lt_zero _))
    · obtain ⟨i, hi, rfl⟩ := lN_mem.1 hc
      have : i = k := hr
      omega
    · have hj0 : j = 0 := by simp at hj; exact hj
      subst hj0
      exact hfr (rowN f r') (lN_mem.2 ⟨r', hr', rfl⟩) rfl (by show meetC 0 1 (0 * 2 ^ 1) 1; decide)
  obtain ⟨rfl, rfl, rfl⟩ := place_is (o := 1) h0 (by omega) (by decide) (lN_find (Nat.le_refl _)) h
  refine ⟨rfl, rfl, ?_⟩
  rw [lN_succ]
  exact insG_end fun d hd => by
    obtain ⟨i, hi, rfl⟩ := lN_mem.1 hd
    exact .inl hi
theorem place_full {f : Nat} {c : Ce} {er : Int} {l' : List Ce} (hf : 1 ≤ f) (h : PlaceR 1 (lN f 16) (f + 16) 0 c er l') : c = (0, 0, 0, 0) ∧ er = 5 ∧ l' = lN f 16 := by
  cases h with
  | arg h => omega
  | twice h c hc h2 => exact absurd h2 (lN_find (Nat.le_refl _) c hc)
  | full o h0 h1 h2 h3 h => exact ⟨rfl, rfl, rfl⟩
  | ok o h0 h1 h2 h3 c h =>
    obtain rfl : o = 0 := by omega
    cases h with
    | some r i hr hi hfr h1 h2 =>
      refine absurd (hfr (rowN f r) (lN_mem.2 ⟨r, hr, rfl⟩) rfl) (fun h => h ?_)
      have hi2 : i < 2 := hi
      show meetC 0 1 (i * 2 ^ 0) 0
      unfold meetC; omega
def lM (f : Nat) : List Ce := (lN f 16).eraseIdx 3
theorem lM_eq (f : Nat) : lM f = [rowN f 0, rowN f 1, rowN f 2, rowN f 4, rowN f 5, rowN f 6, rowN f 7, rowN f 8, rowN f 9, rowN f 10, rowN f 11, rowN f 12, rowN f 13, rowN f 14, rowN f 15] := rfl
theorem lM_mem {f : Nat} {c : Ce} (h : c ∈ lM f) : ∃ i, i < 16 ∧ i ≠ 3 ∧ c = rowN f i := by
  rw [lM_eq] at h
  simp only [List.mem_cons, List.not_mem_nil, or_false] at h
  rcases h with h | h | h | h | h | h | h | h | h | h | h | h | h | h | h <;> exact ⟨_, by decide, by decide, h⟩
theorem lN_len (f k : Nat) : (lN f k).length = k := by simp [lN]
theorem lN_get {f k j : Nat} (h : j < (lN f k).length) : (lN f k)[j] = rowN f j := by simp [lN]
theorem find3 (f : Nat) : IsFind (lN f 16) (f + 3) (some 3) := by
  refine .inr ⟨3, by rw [lN_len]; decide, rfl, by rw [lN_get]; rfl, fun j hj hj3 e => ?_⟩
  rw [lN_get] at e
  have : f + j = f + 3 := e
  omega
theorem rem_three {f a : Nat} {er : Int} {a' : Nat} {l' : List Ce} (h : RemR (lN f 16) a (f + 3) er a' l') : er = 0 ∧ l' = lM f := by
  obtain ⟨rfl, _, rfl⟩ := rem_is (find3 f) h
  exact ⟨rfl, rfl⟩
theorem place_three {f : Nat} {c : Ce} {er : Int} {l' : List Ce} (hf : 1 ≤ f) (h : PlaceR 1 (lM f) (f + 17) 0 c er l') : c = (f + 17, 3, 0, 0) ∧ er = 0 ∧ l' = insG (lM f) (f + 17, 3, 0, 0) := by
  have h0 : IsPlace 1 (lM f) (f + 17) 0 (some (f + 17, 3, 0, 0)) := by
    show IsPlace 1 (lM f) (f + 17) 0 (some (f + 17, 3, 0 * 2 ^ 0, 0))
    refine .some 3 0 (by decide) (by decide) (fun c hc hr => ?_) (fun r' hr' j hj hfr => ?_) (fun j hj => absurd hj (Nat.not_lt_zero _))
    · obtain ⟨i, hi, h3, rfl⟩ := lM_mem hc
      exact absurd hr h3
    · have hj2 : j < 2 := hj
      have hm : rowN f r' ∈ lM f := by
        rw [lM_eq]
        rcases (by omega : r' = 0 ∨ r' = 1 ∨ r' = 2) with rfl | rfl | rfl <;> simp
      refine hfr (rowN f r') hm rfl ?_
      show meetC 0 1 (j * 2 ^ 0) 0
      unfold meetC; omega
  exact place_is (o := 0) h0 (by omega) (by decide) (fun d hd => by
    obtain ⟨i, hi, h3, rfl⟩ := lM_mem hd
    show f + i ≠ f + 17
    omega) h
theorem rows_three {f n : Nat} (h : OkG n (insG (lM f) (f + 17, 3, 0, 0))) : rowsG (insG (lM f) (f + 17, 3, 0, 0)) = 16 := by
  have h1 := rowsG_16 h
  have h2 := rowsG_lt h.srt (c := rowN f 15) (mem_insG.2 (.inr (by rw [lM_eq]; simp)))
  have h3 : 15 < rowsG (insG (lM f) (f + 17, 3, 0, 0)) := h2
  omega
end Go.Proofs.Ytfobapnncjjeiaa
