/-
  What is printed is read again: clock.Parse at clock.Print's text; how what is read may be.
-/
import Derived.Test.YtndlgjphkpceoaaDoorClkK
namespace Go.Proofs.YtndlgjphkpceoaaDoor
open Go Go.RowKit Go.Lib
set_option linter.unusedVariables false

theorem printA_len {n : Nat} (h : n ≤ 1073741824) : (printA n).length ≤ 28 := by
  have ht : (timeA n).length = 8 := rfl
  unfold printA
  split
  · omega
  · have := decDigits_len 18 (n / 86400) (by omega)
    rw [List.length_append, List.length_cons]
    omega
theorem parse_printed (n : Nat) (w : World) (h0 : 0 < n) (h1 : n ≤ 1073741824) (hE : Env7 w) :
    Calls Tryd.prog 11 #[.string (printS n)] w fun e w' => e = .returned (.tuple #[.int .i64 (n : Nat), .int .i64 0]) ∧ Below w.heap.size w w' := by
  have e : parseA (printA n) = ((n : Int), 0) := by rw [parse_eq]; exact parse_print h0 h1
  exact parse_at (printA n) w _ (by have := printA_len h1; omega) e hE
theorem endA_form (g : Bool) (t : Nat) : endA g t = (0, 2) ∨ ∃ n : Nat, 0 < n ∧ n ≤ 1073741824 ∧ endA g t = ((n : Int), 0) := by
  unfold endA
  split
  · exact .inl rfl
  · rename_i h
    simp only [not_or] at h
    exact .inr ⟨t, by omega, by omega, rfl⟩
theorem parseA_form (s : Bs) : (∃ e : Int, parseA s = (0, e) ∧ (e = 60 ∨ e = 2)) ∨ ∃ n : Nat, 0 < n ∧ n ≤ 1073741824 ∧ parseA s = ((n : Int), 0) := by
  unfold parseA
  split
  · exact .inl ⟨60, rfl, .inl rfl⟩
  · split
    · exact .inl ⟨60, rfl, .inl rfl⟩
    · rcases endA_form (greatA _ _) (totalA _ _) with h | h
      · exact .inl ⟨2, h, .inr rfl⟩
      · exact .inr h
end Go.Proofs.YtndlgjphkpceoaaDoor
