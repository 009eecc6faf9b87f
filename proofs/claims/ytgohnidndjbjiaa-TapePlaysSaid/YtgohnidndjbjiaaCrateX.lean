/-
  Layer 17: sums of texts laid over one another, and of a text with bits turned: plainly.
-/
import Derived.Test.YtgohnidndjbjiaaCrc
import Derived.Deep.AppendLies
namespace Go.Proofs.Ytgohnidndjbjiaa
open Go Go.RowKit
set_option linter.unusedVariables false

theorem mul_xor (k a b : Nat) : 2 ^ k * (a ^^^ b) = (2 ^ k * a) ^^^ (2 ^ k * b) := by
  apply Nat.eq_of_testBit_eq
  intro i
  rw [Nat.testBit_xor, Nat.testBit_two_pow_mul, Nat.testBit_two_pow_mul, Nat.testBit_two_pow_mul, Nat.testBit_xor]
  by_cases h : k ≤ i <;> simp [h]
theorem numB_cons (c : UInt8) (xs : List UInt8) : numB (c :: xs) = c.toNat ^^^ (2 ^ 8 * numB xs) := cons_xor _ _ c.toNat_lt
theorem xor4 (a b c d : Nat) : (a ^^^ b) ^^^ (c ^^^ d) = (a ^^^ c) ^^^ (b ^^^ d) := by
  apply Nat.eq_of_testBit_eq
  intro i
  simp only [Nat.testBit_xor]
  cases a.testBit i <;> cases b.testBit i <;> cases c.testBit i <;> cases d.testBit i <;> rfl
/-- Two texts laid over one another. -/
def overB : List UInt8 → List UInt8 → List UInt8
  | [], _ => []
  | _, [] => []
  | c :: xs, d :: ys => (c ^^^ d) :: overB xs ys
theorem overB_len : ∀ (xs ys : List UInt8), xs.length = ys.length → (overB xs ys).length = xs.length
  | [], _, _ => rfl
  | _ :: _, [], h => by cases h
  | _ :: xs, _ :: ys, h => by simp [overB, overB_len xs ys (by simpa using h)]
theorem overB_snoc : ∀ (xs ys : List UInt8) (c d : UInt8), xs.length = ys.length → overB (xs ++ [c]) (ys ++ [d]) = overB xs ys ++ [c ^^^ d]
  | [], [], _, _, _ => rfl
  | [], _ :: _, _, _, h => by cases h
  | _ :: _, [], _, _, h => by cases h
  | x :: xs, y :: ys, c, d, h => by simp [overB, overB_snoc xs ys c d (by simpa using h)]
theorem numB_over : ∀ (xs ys : List UInt8), xs.length = ys.length → numB (overB xs ys) = numB xs ^^^ numB ys
  | [], [], _ => rfl
  | [], _ :: _, h => by cases h
  | _ :: _, [], h => by cases h
  | c :: xs, d :: ys, h => by
    show numB ((c ^^^ d) :: overB xs ys) = _
    rw [numB_cons, numB_cons, numB_cons, numB_over xs ys (by simpa using h), mul_xor, UInt8.toNat_xor, xor4]
theorem numB_zeros (n : Nat) : numB (List.replicate n 0) = 0 := by
  induction n with
  | zero => rfl
  | succ n ih => rw [List.replicate_succ]; show (0 : UInt8).toNat + 256 * numB _ = 0; rw [ih]; rfl
theorem sum4 (xs ys : List UInt8) (h : xs.length = ys.length) : ((sumB xs ^^^ sumB ys) ^^^ sumB (overB xs ys)) ^^^ sumB (List.replicate xs.length 0) = 0 := by
  rw [Nat.xor_assoc, sumB_xor xs ys h, sumB_xor (overB xs ys) (List.replicate xs.length 0) (by rw [overB_len xs ys h]; simp), numB_over xs ys h, numB_zeros, overB_len xs ys h, Nat.xor_zero, Nat.xor_self]
/-- Bits of one byte turned. -/
theorem numB_set : ∀ (ys : List UInt8) (q : Nat) (hq : q < ys.length) (c : UInt8), numB (ys.set q (ys[q] ^^^ c)) = numB ys ^^^ (c.toNat * 2 ^ (8 * q))
  | [], q, hq, _ => by simp at hq
  | d :: ys, 0, _, c => by
    show numB ((d ^^^ c) :: ys) = _
    rw [numB_cons, numB_cons, UInt8.toNat_xor, Nat.mul_zero, Nat.pow_zero, Nat.mul_one, Nat.xor_assoc, Nat.xor_assoc, Nat.xor_comm c.toNat]
  | d :: ys, q + 1, hq, c => by
    have hq' : q < ys.length := by simpa using hq
    show numB (d :: ys.set q (ys[q] ^^^ c)) = _
    rw [numB_cons, numB_cons, numB_set ys q hq' c, mul_xor, Nat.xor_assoc]
    congr 2
    rw [show 8 * (q + 1) = 8 * q + 8 by omega, Nat.pow_add]; ac_rfl
theorem low_xor (m i : Nat) (h : m < 2 ^ i) : m ^^^ 2 ^ i = m + 2 ^ i := by
  have := Nat.two_pow_add_eq_or_of_lt (i := i) (b := m) h 1
  rw [Nat.mul_one] at this
  rw [Nat.add_comm, this]
  apply Nat.eq_of_testBit_eq
  intro j
  rw [Nat.testBit_or, Nat.testBit_xor, Nat.testBit_two_pow]
  by_cases hj : i = j
  · subst hj
    rw [Nat.testBit_lt_two_pow h]; simp
  · simp [hj]
theorem turn_bit (m i k : Nat) (h : m < 2 ^ i) : (m * 2 ^ k) ^^^ (2 ^ (k + i)) = (m + 2 ^ i) * 2 ^ k := by
  rw [← low_xor m i h, Nat.mul_comm, Nat.pow_add, ← mul_xor, Nat.mul_comm]
/-- The low bits of a number, one more. -/
theorem low_succ (b i : Nat) : b % 2 ^ (i + 1) = b % 2 ^ i + (b / 2 ^ i % 2) * 2 ^ i := by
  rw [Nat.pow_succ, Nat.mod_mul]; ac_rfl
/-- A text with the low i bits of b turned from bit k on. -/
theorem turned_next {xs ys : List UInt8} {b i k : Nat} (hx : numB ys ^^^ numB xs = b % 2 ^ i * 2 ^ k) (q : Nat) (hq : q < ys.length) (c : UInt8) (hc : c.toNat * 2 ^ (8 * q) = 2 ^ (k + i)) (hb : b / 2 ^ i % 2 = 1) :
    numB (ys.set q (ys[q] ^^^ c)) ^^^ numB xs = b % 2 ^ (i + 1) * 2 ^ k := by
  rw [numB_set ys q hq c, hc, Nat.xor_assoc, Nat.xor_comm (2 ^ (k + i)), ← Nat.xor_assoc, hx, turn_bit _ _ _ (Nat.mod_lt _ (Nat.two_pow_pos i)), low_succ, hb, Nat.one_mul]
theorem turned_same {xs ys : List UInt8} {b i k : Nat} (hx : numB ys ^^^ numB xs = b % 2 ^ i * 2 ^ k) (hb : b / 2 ^ i % 2 = 0) : numB ys ^^^ numB xs = b % 2 ^ (i + 1) * 2 ^ k := by
  rw [hx, low_succ, hb, Nat.zero_mul, Nat.add_zero]
end Go.Proofs.Ytgohnidndjbjiaa
