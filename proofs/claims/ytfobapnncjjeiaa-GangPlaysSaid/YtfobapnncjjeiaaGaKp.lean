/-
  What the example reckons, plainly. No program is imported.
-/
import Derived.Test.YtfobapnncjjeiaaGaU
import Derived.Test.YtfobapnncjjeiaaGaQ
namespace Go.Proofs.Ytfobapnncjjeiaa
set_option linter.unusedVariables false

instance (l : List Ce) (r s o : Nat) : Decidable (FreeG l r s o) := by unfold FreeG; infer_instance
theorem ipow_le {n o i : Nat} : i * 2 ^ o = 0 * 2 ^ o → i = 0 := fun h => by
  have := Nat.two_pow_pos o
  rw [Nat.zero_mul] at h
  rcases Nat.mul_eq_zero.1 h with h | h
  · exact h
  · omega
theorem IsPlace.det {n : Nat} {l : List Ce} {id o : Nat} {x y : Option Ce} (h : IsPlace n l id o x) (k : IsPlace n l id o y) : x = y := by
  cases h with
  | none h =>
    cases k with
    | none k => rfl
    | some r i hr hi hf h1 h2 => exact absurd hf (h r hr i hi)
  | some r i hr hi hf h1 h2 =>
    cases k with
    | none k => exact absurd hf (k r hr i hi)
    | some s j hs hj kf k1 k2 =>
      rcases Nat.lt_trichotomy r s with h | h | h
      · exact absurd hf (k1 r h i hi)
      · subst h
        rcases Nat.lt_trichotomy i j with h | h | h
        · exact absurd hf (k2 i h)
        · subst h; rfl
        · exact absurd kf (h2 j h)
      · exact absurd kf (h1 s h j hj)
theorem kp1 : IsPlace 2 [] 1 1 (some (1, 0, 0, 1)) := by
  show IsPlace 2 [] 1 1 (some (1, 0, 0 * 2 ^ 1, 1))
  exact .some 0 0 (by decide) (by decide) (by decide) (fun r h => absurd h (Nat.not_lt_zero _)) (fun r h => absurd h (Nat.not_lt_zero _))
theorem kp2 : IsPlace 2 [(1, 0, 0, 1)] 2 2 (some (2, 1, 0, 2)) := by
  show IsPlace 2 [(1, 0, 0, 1)] 2 2 (some (2, 1, 0 * 2 ^ 2, 2))
  exact .some 1 0 (by decide) (by decide) (by decide) (by decide) (fun r h => absurd h (Nat.not_lt_zero _))
theorem kp3 : IsPlace 2 [(1, 0, 0, 1), (2, 1, 0, 2)] 3 1 (some (3, 0, 2, 1)) := by
  show IsPlace 2 [(1, 0, 0, 1), (2, 1, 0, 2)] 3 1 (some (3, 0, 1 * 2 ^ 1, 1))
  exact .some 0 1 (by decide) (by decide) (by decide) (fun r h => absurd h (Nat.not_lt_zero _)) (by decide)
theorem ki1 : insG [] (1, 0, 0, 1) = [(1, 0, 0, 1)] := by decide
theorem ki2 : insG [(1, 0, 0, 1)] (2, 1, 0, 2) = [(1, 0, 0, 1), (2, 1, 0, 2)] := by decide
theorem ki3 : insG [(1, 0, 0, 1), (2, 1, 0, 2)] (3, 0, 2, 1) = [(1, 0, 0, 1), (3, 0, 2, 1), (2, 1, 0, 2)] := by decide
theorem kr1 : runsG [(1, 0, 0, 1), (3, 0, 2, 1), (2, 1, 0, 2)] 0 = [(1, 0, 0, 1), (3, 0, 2, 1)] := by decide
theorem kr2 : runsG [(3, 0, 2, 1), (2, 1, 0, 2)] 0 = [(3, 0, 2, 1)] := by decide
theorem kr3 : runsG [(3, 0, 2, 1), (2, 1, 0, 2)] 1 = [(2, 1, 0, 2)] := by decide
theorem ku_step {l : List Ce} {d : Nat} (h : URun [(2, 1, 0, 2)] 1 l d) : l = [(2, 0, 0, 2)] ∧ d = 1 := by
  cases h with
  | succ k l1 l' d1 e hk h hs =>
    cases h
    rcases hs with ⟨rfl, rfl, h⟩ | ⟨rfl, r, k, h1, h2, h3, h4, rfl⟩
    · exact absurd (show FreeG [(2, 1, 0, 2)] 0 0 2 by decide) (h 0 (show 0 < 1 from Nat.zero_lt_one))
    · obtain rfl : r = 0 := by
        have : r < 1 := h1
        omega
      rcases h4 with ⟨h5, _⟩ | ⟨q, hq, h5, _⟩
      · cases h5
      · obtain rfl : q = 0 := by simp at hq; omega
        injection h5 with h5; subst h5
        exact ⟨rfl, rfl⟩
theorem perm_one {ys : List Nat} {a : Nat} (h : ys.Perm [a]) : ys = [a] := List.perm_singleton.1 h
theorem perm_two {ys : List Nat} {a b : Nat} (hab : a < b) (h : ys.Perm [a, b]) (hs : ys.Pairwise (· ≤ ·)) : ys = [a, b] := by
  have hl := h.length_eq
  match ys, hl with
  | [x, y], _ =>
    have hx : x = a ∨ x = b := by have := h.mem_iff.1 (show x ∈ [x, y] by simp); simpa using this
    have hy : y = a ∨ y = b := by have := h.mem_iff.1 (show y ∈ [x, y] by simp); simpa using this
    have ha : a = x ∨ a = y := by have := h.mem_iff.2 (show a ∈ [a, b] by simp); simpa using this
    have hb : b = x ∨ b = y := by have := h.mem_iff.2 (show b ∈ [a, b] by simp); simpa using this
    have hle : x ≤ y := by simpa using hs
    have : x = a ∧ y = b := by omega
    rw [this.1, this.2]
end Go.Proofs.Ytfobapnncjjeiaa
