/-
  Layer 17: the reference's sum, bit by bit: plainly.
-/
import Derived.Test.YtgohnidndjbjiaaCrateY
namespace Go.Proofs.Ytgohnidndjbjiaa
open Go Go.RowKit
set_option linter.unusedVariables false

/-- The register behind n bits of a text's number. -/
def regN (N n : Nat) : Nat := fI n (ones ^^^ (N % 2 ^ n))
theorem regN_lt (N n : Nat) (h : n ≤ 0 ∨ True) : ones ^^^ (N % 2 ^ n) < 2 ^ (max 32 n) := by
  refine Nat.xor_lt_two_pow (Nat.lt_of_lt_of_le (by decide : ones < 2 ^ 32) (Nat.pow_le_pow_right (by decide) (Nat.le_max_left _ _))) (Nat.lt_of_lt_of_le (Nat.mod_lt _ (Nat.two_pow_pos n)) (Nat.pow_le_pow_right (by decide) (Nat.le_max_right _ _)))
theorem low_or (N n : Nat) : N % 2 ^ (n + 1) = (N % 2 ^ n) ^^^ ((N / 2 ^ n % 2) * 2 ^ n) := by
  rw [low_succ]
  rcases Nat.mod_two_eq_zero_or_one (N / 2 ^ n) with h | h
  · rw [h]; simp
  · rw [h, Nat.one_mul, low_xor _ _ (Nat.mod_lt _ (Nat.two_pow_pos n))]
theorem regN_succ (N n : Nat) : regN N (n + 1) = fS (regN N n ^^^ (N / 2 ^ n % 2)) := by
  unfold regN
  rw [fI_succ, low_or, ← Nat.xor_assoc, fI_xor, fI_shift]
theorem regN_all (xs : List UInt8) : regN (numB xs) (8 * xs.length) = crcB ones xs := by
  rw [crcB_eq]; unfold regN
  rw [Nat.mod_eq_of_lt (numB_lt xs)]
theorem numB_bit : ∀ (xs : List UInt8) (q j : Nat) (hq : q < xs.length) (hj : j < 8), numB xs / 2 ^ (8 * q + j) % 2 = xs[q].toNat / 2 ^ j % 2
  | [], q, j, hq, _ => by simp at hq
  | c :: xs, 0, j, _, hj => by
    show (c.toNat + 256 * numB xs) / 2 ^ (8 * 0 + j) % 2 = c.toNat / 2 ^ j % 2
    rw [Nat.mul_zero, Nat.zero_add]
    have h8 : (256 : Nat) = 2 ^ j * (2 * 2 ^ (7 - j)) := by
      rw [← Nat.pow_succ', ← Nat.pow_add, show j + (7 - j).succ = 8 by omega]
    rw [h8, Nat.mul_assoc, Nat.mul_assoc, Nat.add_mul_div_left _ _ (Nat.two_pow_pos j), Nat.add_mul_mod_self_left]
  | c :: xs, q + 1, j, hq, hj => by
    show (c.toNat + 256 * numB xs) / 2 ^ (8 * (q + 1) + j) % 2 = _
    rw [show 8 * (q + 1) + j = 8 + (8 * q + j) by omega, Nat.pow_add, ← Nat.div_div_eq_div_mul, show (2 : Nat) ^ 8 = 256 from rfl, Nat.add_mul_div_left _ _ (by decide : 0 < 256), Nat.div_eq_of_lt c.toNat_lt, Nat.zero_add]
    exact numB_bit xs q j (by simpa using hq) hj
theorem fI_lt32 (n : Nat) : ∀ r, r < 2 ^ (32 + n) → fI n r < 2 ^ 32 := by
  induction n with
  | zero => intro r h; exact h
  | succ n ih =>
    intro r h
    refine ih (fS r) ?_
    unfold fS
    have h2 : r / 2 < 2 ^ (32 + n) := by rw [show 32 + (n + 1) = (32 + n) + 1 by omega, Nat.pow_succ] at h; omega
    split
    · exact Nat.xor_lt_two_pow h2 (Nat.lt_of_lt_of_le (by decide : poly < 2 ^ 32) (Nat.pow_le_pow_right (by decide) (by omega)))
    · exact h2
theorem regN_32 (N n : Nat) : regN N n < 2 ^ 32 := by
  refine fI_lt32 n _ ?_
  exact Nat.xor_lt_two_pow (Nat.lt_of_lt_of_le (by decide : ones < 2 ^ 32) (Nat.pow_le_pow_right (by decide) (by omega))) (Nat.lt_of_lt_of_le (Nat.mod_lt _ (Nat.two_pow_pos n)) (Nat.pow_le_pow_right (by decide) (by omega)))
/-- One bit goes in. -/
theorem fS_bit (R b : Nat) (hb : b < 2) : fS (R ^^^ b) = if (R % 2 = 1) ↔ (b = 1) then R / 2 else (R / 2) ^^^ poly := by
  unfold fS
  have hb2 : b / 2 = 0 := by omega
  rw [xor_half, hb2, Nat.xor_zero, xor_mod]
  rcases Nat.mod_two_eq_zero_or_one R with hR | hR <;> rcases (show b = 0 ∨ b = 1 by omega) with h | h <;> subst h <;> simp [hR]
/-- Cells by a function. -/
def cellsF (f : Nat → Bool) : Array Value := ((List.range 32).map fun i => Value.bool (f i)).toArray
theorem cellsF_get (f : Nat → Bool) (i : Nat) (h : i < 32) : (cellsF f)[i]? = some (.bool (f i)) := by simp [cellsF, h]
theorem cellsF_size (f : Nat → Bool) : (cellsF f).size = 32 := by simp [cellsF]
theorem cellsF_set (f : Nat → Bool) (i : Nat) (v : Bool) : (cellsF f).setIfInBounds i (.bool v) = cellsF (fun j => if j = i then v else f j) := by
  apply Array.ext_getElem?
  intro j
  rw [Array.getElem?_setIfInBounds, cellsF_size]
  rcases Nat.lt_or_ge j 32 with h | h
  · rw [cellsF_get _ j h]
    by_cases hj : i = j
    · subst hj; rw [if_pos rfl, if_pos h, cellsF_get _ i h, if_pos rfl]
    · rw [if_neg hj, cellsF_get _ j h, if_neg (fun e => hj e.symm)]
  · rw [Array.getElem?_eq_none (by rw [cellsF_size]; exact h)]
    by_cases hj : i = j
    · subst hj; rw [if_pos rfl, if_neg (by omega)]; exact (Array.getElem?_eq_none (by rw [cellsF_size]; exact h)).symm
    · rw [if_neg hj]; exact (Array.getElem?_eq_none (by rw [cellsF_size]; exact h)).symm
theorem cellsF_ext (f g : Nat → Bool) (h : ∀ i, i < 32 → f i = g i) : cellsF f = cellsF g := by
  unfold cellsF
  congr 1
  refine List.map_congr_left fun i hi => ?_
  rw [h i (by simpa using hi)]
theorem cellsF_false : cellsF (fun _ => false) = (List.replicate 32 (Value.bool false)).toArray := by rfl
def taps : List Nat := [31, 25, 23, 22, 21, 20, 18, 17, 13, 12, 11, 9, 8, 6, 5, 4, 3]
theorem poly_taps : ∀ i, i < 32 → poly.testBit i = taps.contains i := by decide
theorem taps_lt : ∀ k (h : k < taps.length), taps[k] < 32 := by decide
theorem taps_new : ∀ k (h : k < taps.length), (taps.take k).contains taps[k] = false := by decide
/-- Shifted as far as k, taps gone through. -/
def shF (R k i : Nat) : Bool := if i < k then R.testBit (i + 1) else R.testBit i
def tpF (R k i : Nat) : Bool := xor ((R / 2).testBit i) ((taps.take k).contains i)
theorem shF_zero (R : Nat) : ∀ i, i < 32 → shF R 0 i = R.testBit i := fun i _ => by simp [shF]
theorem shF_succ (R k : Nat) : ∀ i, i < 32 → (if i = k then R.testBit (k + 1) else shF R k i) = shF R (k + 1) i := fun i _ => by
  unfold shF
  rcases Nat.lt_trichotomy i k with h | rfl | h
  · rw [if_neg (by omega), if_pos h, if_pos (by omega)]
  · rw [if_pos rfl, if_pos (by omega)]
  · rw [if_neg (by omega), if_neg (by omega), if_neg (by omega)]
theorem shF_last (R : Nat) (h : R < 2 ^ 32) : ∀ i, i < 32 → (if i = 31 then false else shF R 31 i) = (R / 2).testBit i := fun i hi => by
  rw [Nat.testBit_div_two]
  by_cases h31 : i = 31
  · rw [if_pos h31, h31, Nat.testBit_lt_two_pow h]
  · rw [if_neg h31]; unfold shF; rw [if_pos (by omega)]
theorem tpF_zero (R : Nat) : ∀ i, i < 32 → tpF R 0 i = (R / 2).testBit i := fun i _ => by simp [tpF]
theorem tpF_succ (R k : Nat) (hk : k < taps.length) : ∀ i, i < 32 → (if i = taps[k] then !(tpF R k taps[k]) else tpF R k i) = tpF R (k + 1) i := fun i _ => by
  unfold tpF
  rw [List.take_succ_eq_append_getElem hk, List.contains_append]
  by_cases h : i = taps[k]
  · rw [if_pos h, h, taps_new k hk]; simp
  · rw [if_neg h]; simp [h]
theorem tpF_all (R : Nat) : ∀ i, i < 32 → tpF R 17 i = ((R / 2) ^^^ poly).testBit i := fun i hi => by
  unfold tpF
  rw [Nat.testBit_xor, poly_taps i hi]; rfl
/-- The number's bits, from the highest one on. -/
theorem num_step (M i : Nat) : M / 2 ^ i = M / 2 ^ (i + 1) * 2 + (if M.testBit i then 1 else 0) := by
  rw [Nat.pow_succ, ← Nat.div_div_eq_div_mul, Nat.testBit_eq_decide_div_mod_eq]
  generalize M / 2 ^ i = Q
  rcases Nat.mod_two_eq_zero_or_one Q with h | h <;> rw [h] <;> simp <;> omega
theorem ones_bit : ∀ i, i < 32 → ones.testBit i = true := by decide
theorem sum_bit (R i : Nat) (h : i < 32) : (R ^^^ ones).testBit i = !(R.testBit i) := by rw [Nat.testBit_xor, ones_bit i h]; simp
theorem bit_next (R d : Nat) (out : Bool) (hd : d < 2) (hout : out = (R.testBit 0 != decide (d = 1))) : fS (R ^^^ d) = if out then (R / 2) ^^^ poly else R / 2 := by
  rw [fS_bit R d hd, hout, Nat.testBit_zero]
  rcases Nat.mod_two_eq_zero_or_one R with hR | hR <;> rcases (show d = 0 ∨ d = 1 by omega) with h | h <;> subst h <;> simp [hR]
end Go.Proofs.Ytgohnidndjbjiaa
