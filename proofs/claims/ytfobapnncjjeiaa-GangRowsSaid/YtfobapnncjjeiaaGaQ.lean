/-
  Who runs, plainly. No program is imported.
-/
import Derived.Test.YtfobapnncjjeiaaGaP
namespace Go.Proofs.Ytfobapnncjjeiaa
set_option linter.unusedVariables false

def accF (acc : List Ce) (s o : Nat) : Bool := acc.all fun c => !decide (meetC c.st c.ord s o)
def CovA (acc : List Ce) (x : Nat) : Prop := ∃ c ∈ acc, inC c.st c.ord x
theorem accF_iff {acc : List Ce} {s o : Nat} : accF acc s o = true ↔ ∀ x, inC s o x → ¬ CovA acc x := by
  unfold accF
  rw [List.all_eq_true]
  constructor
  · rintro h x hx ⟨c, hc, hi⟩
    have := h c hc
    simp only [Bool.not_eq_true', decide_eq_false_iff_not] at this
    exact this (meetC_iff.2 ⟨x, hi, hx⟩)
  · intro h c hc
    simp only [Bool.not_eq_true', decide_eq_false_iff_not]
    intro hm
    obtain ⟨x, h1, h2⟩ := meetC_iff.1 hm
    exact h x h2 ⟨c, hc, h1⟩
theorem covA_snoc {acc : List Ce} {c : Ce} {x : Nat} : CovA (acc ++ [c]) x ↔ CovA acc x ∨ inC c.st c.ord x := by
  unfold CovA
  constructor
  · rintro ⟨d, hd, h⟩
    rcases List.mem_append.1 hd with hd | hd
    · exact .inl ⟨d, hd, h⟩
    · rw [List.mem_singleton] at hd; subst hd; exact .inr h
  · rintro (⟨d, hd, h⟩ | h)
    · exact ⟨d, List.mem_append.2 (.inl hd), h⟩
    · exact ⟨c, List.mem_append.2 (.inr (List.mem_singleton.2 rfl)), h⟩
def runStep (row : Nat) (acc : List Ce) (c : Ce) : List Ce := if c.row = row ∧ accF acc c.st c.ord = true then acc ++ [c] else acc
def runRow (l : List Ce) (row : Nat) (acc : List Ce) : List Ce := l.foldl (runStep row) acc
def rowAt (l : List Ce) (a i : Nat) : Nat := (a + i) % rowsG l
def runTo (l : List Ce) (a : Nat) : Nat → List Ce
  | 0 => []
  | i + 1 => runRow l (rowAt l a i) (runTo l a i)
def runsG (l : List Ce) (a : Nat) : List Ce := runTo l a (rowsG l)
theorem runStep_len (row : Nat) (acc : List Ce) (c : Ce) : (runStep row acc c).length ≤ acc.length + 1 := by
  unfold runStep; split <;> simp
theorem runStep_mem {row : Nat} {acc : List Ce} {c d : Ce} (h : d ∈ runStep row acc c) : d ∈ acc ∨ d = c := by
  unfold runStep at h
  split at h
  · rcases List.mem_append.1 h with h | h
    · exact .inl h
    · exact .inr (by simpa using h)
  · exact .inl h
theorem foldl_take {l : List Ce} {row : Nat} {acc : List Ce} {k : Nat} (h : k < l.length) : (l.take (k + 1)).foldl (runStep row) acc = runStep row ((l.take k).foldl (runStep row) acc) l[k] := by
  rw [List.take_add_one, List.getElem?_eq_getElem h, List.foldl_append]; rfl
theorem fold_len (row : Nat) : ∀ (l acc : List Ce), (l.foldl (runStep row) acc).length ≤ acc.length + l.length
  | [], acc => by simp
  | c :: l, acc => by
    rw [List.foldl_cons]
    have h1 := fold_len row l (runStep row acc c)
    have h2 := runStep_len row acc c
    rw [List.length_cons]; omega
theorem runTo_len (l : List Ce) (a : Nat) : ∀ i, (runTo l a i).length ≤ i * l.length
  | 0 => by simp [runTo]
  | i + 1 => by
    have h1 := runTo_len l a i
    have h2 := fold_len (rowAt l a i) l (runTo l a i)
    rw [Nat.succ_mul]
    show (l.foldl (runStep (rowAt l a i)) (runTo l a i)).length ≤ _
    omega
end Go.Proofs.Ytfobapnncjjeiaa
