/-
  Texts of limits compare as the limits do, where they have as many bytes. (The plain part.)
-/
import Derived.Test.YtndlgjphkpceoaaDoorClkV
namespace Go.Proofs.YtndlgjphkpceoaaDoor
open Go
set_option linter.unusedVariables false

theorem ll_cons (a b : UInt8) (x y : Bs) : Op.bytesLess (a :: x) (b :: y) = true ↔ a < b ∨ (a = b ∧ Op.bytesLess x y = true) := by simp [Op.bytesLess]
theorem ll_irr (x : Bs) : Op.bytesLess x x = false := by
  induction x with
  | nil => rfl
  | cons a x ih => simp [Op.bytesLess, ih]
theorem ll_asym : ∀ {x y : Bs}, Op.bytesLess x y = true → Op.bytesLess y x = false
  | [], [], h => by simp [Op.bytesLess] at h
  | _ :: _, [], h => by simp [Op.bytesLess] at h
  | [], _ :: _, _ => by simp [Op.bytesLess]
  | a :: x, b :: y, h => by
    rw [ll_cons] at h
    cases hh : Op.bytesLess (b :: y) (a :: x) with
    | false => rfl
    | true =>
      rw [ll_cons] at hh
      rcases h with h | ⟨rfl, h⟩
      · rcases hh with hh | ⟨rfl, hh⟩
        · exact absurd hh (UInt8.lt_asymm h)
        · exact absurd h (UInt8.lt_irrefl _)
      · rcases hh with hh | ⟨_, hh⟩
        · exact absurd hh (UInt8.lt_irrefl _)
        · rw [ll_asym h] at hh; cases hh
theorem ll_left : ∀ {x y : Bs}, x.length = y.length → Op.bytesLess x y = true → ∀ u v : Bs, Op.bytesLess (x ++ u) (y ++ v) = true
  | [], [], _, h, _, _ => by simp [Op.bytesLess] at h
  | [], _ :: _, hl, _, _, _ => by simp at hl
  | _ :: _, [], hl, _, _, _ => by simp at hl
  | a :: x, b :: y, hl, h, u, v => by
    rw [ll_cons] at h
    rw [List.cons_append, List.cons_append, ll_cons]
    rcases h with h | ⟨rfl, h⟩
    · exact .inl h
    · exact .inr ⟨rfl, ll_left (by simpa using hl) h u v⟩
theorem ll_right (x : Bs) {u v : Bs} (h : Op.bytesLess u v = true) : Op.bytesLess (x ++ u) (x ++ v) = true := by
  induction x with
  | nil => exact h
  | cons a x ih => rw [List.cons_append, List.cons_append, ll_cons]; exact .inr ⟨rfl, ih⟩
theorem dig_ll {a b : Nat} (h : a < b) (hb : b < 10) : Op.bytesLess [dig a] [dig b] = true := by
  rw [ll_cons]
  refine .inl ?_
  rw [UInt8.lt_iff_toNat_lt, (dig_is (n := a) (by omega)).2, (dig_is hb).2]
  omega
/-- Two rows, each of a head and a tail, of numbers p < q: by the heads, or, these being the same, by the tails. -/
theorem two_ll {a b : Nat} (h : a < b) (hb : b < 100) : Op.bytesLess (two a) (two b) = true := by
  unfold two
  by_cases e : a / 10 = b / 10
  · rw [e]; exact ll_right [dig (b / 10)] (dig_ll (by omega) (by omega))
  · exact ll_left (x := [dig (a / 10)]) (y := [dig (b / 10)]) rfl (dig_ll (by omega) (by omega)) _ _
theorem dec_hi {n : Nat} (h : ¬ n < 10) : Lib.decDigits n = Lib.decDigits (n / 10) ++ [dig (n % 10)] := by rw [Lib.decDigits, dif_neg h]; rfl
theorem dec_lo {n : Nat} (h : n < 10) : Lib.decDigits n = [dig n] := by rw [Lib.decDigits, dif_pos h]; rfl
theorem dec_ll (k : Nat) : ∀ a b : Nat, b < 10 ^ (k + 1) → a < b → (Lib.decDigits a).length = (Lib.decDigits b).length → Op.bytesLess (Lib.decDigits a) (Lib.decDigits b) = true := by
  induction k with
  | zero =>
    intro a b hb h _
    have hb' : b < 10 := by simpa using hb
    rw [dec_lo (by omega), dec_lo hb']
    exact dig_ll h hb'
  | succ k ih =>
    intro a b hb h hl
    have pos : ∀ n, (Lib.decDigits n).length ≠ 0 := fun n => by rw [Lib.decDigits]; split <;> simp
    by_cases h1 : b < 10
    · rw [dec_lo (by omega), dec_lo h1]
      exact dig_ll h h1
    · by_cases h2 : a < 10
      · rw [dec_lo h2, dec_hi h1] at hl
        have := pos (b / 10)
        simp at hl; exact absurd hl (by simpa using this)
      · rw [dec_hi h2, dec_hi h1] at hl
        rw [dec_hi h2, dec_hi h1]
        have hl' : (Lib.decDigits (a / 10)).length = (Lib.decDigits (b / 10)).length := by simpa using hl
        by_cases e : a / 10 = b / 10
        · rw [e]; exact ll_right _ (dig_ll (by omega) (by omega))
        · exact ll_left hl' (ih (a / 10) (b / 10) (by rw [Nat.pow_succ] at hb; omega) (by omega) hl') _ _
theorem time_ll {a b : Nat} (h : a % 86400 < b % 86400) : Op.bytesLess (timeA a) (timeA b) = true := by
  have q1 : a % 86400 % 3600 = a % 3600 := Nat.mod_mod_of_dvd a ⟨24, rfl⟩
  have q2 : b % 86400 % 3600 = b % 3600 := Nat.mod_mod_of_dvd b ⟨24, rfl⟩
  have q3 : a % 3600 % 60 = a % 60 := Nat.mod_mod_of_dvd a ⟨60, rfl⟩
  have q4 : b % 3600 % 60 = b % 60 := Nat.mod_mod_of_dvd b ⟨60, rfl⟩
  have m1 : a % 86400 < 86400 := Nat.mod_lt _ (by decide)
  have m2 : b % 86400 < 86400 := Nat.mod_lt _ (by decide)
  unfold timeA
  generalize a % 60 = a1 at *
  generalize b % 60 = b1 at *
  generalize a % 3600 = a2 at *
  generalize b % 3600 = b2 at *
  generalize a % 86400 = a3 at *
  generalize b % 86400 = b3 at *
  have w1 : a1 < b1 → Op.bytesLess (two a1) (two b1) = true := fun h => two_ll h (by omega)
  have w2 : a2 / 60 < b2 / 60 → Op.bytesLess (two (a2 / 60)) (two (b2 / 60)) = true := fun h => two_ll h (by omega)
  have w3 : a3 / 3600 < b3 / 3600 → Op.bytesLess (two (a3 / 3600)) (two (b3 / 3600)) = true := fun h => two_ll h (by omega)
  by_cases e1 : a3 / 3600 = b3 / 3600
  · by_cases e2 : a2 / 60 = b2 / 60
    · have e3 : a1 < b1 := by omega
      rw [e1, e2]
      exact ll_right _ (ll_right [58] (ll_right (two (b2 / 60)) (ll_right [58] (w1 e3))))
    · have e3 : a2 / 60 < b2 / 60 := by omega
      rw [e1]
      exact ll_right _ (ll_right [58] (ll_left (x := two (a2 / 60)) (y := two (b2 / 60)) rfl (w2 e3) _ _))
  · exact ll_left (x := two (a3 / 3600)) (y := two (b3 / 3600)) rfl (w3 (by omega)) _ _
theorem print_ll {a b : Nat} (h : a < b) (hb : b ≤ 1073741824) (hl : (printA a).length = (printA b).length) : Op.bytesLess (printA a) (printA b) = true := by
  have t8 : ∀ n, (timeA n).length = 8 := fun n => rfl
  unfold printA at hl ⊢
  by_cases h1 : b < 86400
  · rw [if_pos h1, if_pos (by omega)]
    exact time_ll (by omega)
  · by_cases h2 : a < 86400
    · rw [if_pos h2, if_neg h1, List.length_append, List.length_cons, t8, t8] at hl
      omega
    · rw [if_neg h1, if_neg h2] at hl ⊢
      rw [List.length_append, List.length_append, List.length_cons, List.length_cons, t8, t8] at hl
      by_cases e : a / 86400 = b / 86400
      · rw [e]
        exact ll_right _ (ll_right [45] (time_ll (by omega)))
      · exact ll_left (by omega) (dec_ll 18 _ _ (by omega) (by omega) (by omega)) _ _
theorem print_inj {a b : Nat} (h0 : 0 < a) (h1 : a ≤ 1073741824) (k0 : 0 < b) (k1 : b ≤ 1073741824) (h : printA a = printA b) : a = b := by
  have e1 := parse_print h0 h1
  rw [h, parse_print k0 k1] at e1
  have := congrArg Prod.fst e1
  simp at this; omega
/-- All of it. -/
theorem print_cmp {a b : Nat} (h0 : 0 < a) (h1 : a ≤ 1073741824) (k0 : 0 < b) (k1 : b ≤ 1073741824) (hl : (printA a).length = (printA b).length) : Op.bytesLess (printA a) (printA b) = decide (a < b) := by
  by_cases h : a < b
  · rw [print_ll h k1 hl, decide_eq_true h]
  · rw [decide_eq_false h]
    by_cases e : a = b
    · rw [e]; exact ll_irr _
    · exact ll_asym (print_ll (by omega) h1 hl.symm)
theorem printS_list (n : Nat) : (printS n).toList = printA n := by rw [ByteArray.toList_eq]; rfl
end Go.Proofs.YtndlgjphkpceoaaDoor
