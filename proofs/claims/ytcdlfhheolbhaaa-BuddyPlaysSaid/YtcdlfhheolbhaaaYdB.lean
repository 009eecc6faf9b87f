/-
  Bits: the other half's begin, and the begin of the block around. No program is imported.
-/
import Derived.Test.YtcdlfhheolbhaaaYdP
import Derived.Laws.Entries
namespace Go.Proofs.Ytcdlfhheolbhaaa
open Go
set_option linter.unusedVariables false

theorem wrap64_small (n : Int) (h0 : 0 ≤ n) (h1 : n < 9223372036854775808) : IntKind.i64.wrap n = n := by
  simp [IntKind.wrap, IntKind.bits, IntKind.signed]
  split <;> omega
theorem ofInt_64 (a : Nat) (ha : a < 9223372036854775808) : (BitVec.ofInt 64 (a : Int)).toNat = a := by
  rw [BitVec.ofInt_natCast, BitVec.toNat_ofNat]; exact Nat.mod_eq_of_lt (by omega)
theorem xor_one (k : Nat) : k ^^^ 1 = if k % 2 = 0 then k + 1 else k - 1 := by
  apply Nat.eq_of_testBit_eq
  intro i
  rw [Nat.testBit_xor]
  cases i with
  | zero =>
    rw [Nat.testBit_zero, Nat.testBit_zero, Nat.testBit_zero]
    split
    · have : (k + 1) % 2 = 1 := by omega
      simp [*]
    · have e1 : k % 2 = 1 := by omega
      have e2 : (k - 1) % 2 = 0 := by omega
      simp [e1, e2]
  | succ i =>
    rw [Nat.testBit_succ, Nat.testBit_succ, Nat.testBit_succ, show 1 / 2 = 0 by decide]
    split
    · rw [show (k + 1) / 2 = k / 2 by omega]; simp
    · rw [show (k - 1) / 2 = k / 2 by omega]; simp
theorem xor_bud {o s : Nat} (hs : s % 2 ^ o = 0) : s ^^^ 2 ^ o = bud o s := by
  obtain ⟨k, rfl⟩ := mod_dvd hs
  have e : 2 ^ o * k ^^^ 2 ^ o = (k ^^^ 1) * 2 ^ o := by
    have := @Nat.shiftLeft_xor_distrib o k 1
    rw [Nat.shiftLeft_eq, Nat.shiftLeft_eq, Nat.shiftLeft_eq, Nat.one_mul] at this
    rw [this, Nat.mul_comm]
  have em : 2 ^ o * k % 2 ^ (o + 1) = 2 ^ o * (k % 2) := by rw [Nat.pow_succ, Nat.mul_mod_mul_left]
  have hp := two_pos o
  unfold bud
  rw [e, xor_one, em]
  by_cases h : k % 2 = 0
  · rw [if_pos h, if_pos (by rw [h]; rfl), Nat.add_mul, Nat.mul_comm, Nat.one_mul]
  · have h1 : k % 2 = 1 := by omega
    rw [if_neg h, if_neg (by rw [h1]; omega), Nat.sub_mul, Nat.mul_comm, Nat.one_mul]
theorem i64_xor_bud {o s : Nat} (ho : o ≤ 10) (h : s < 4096) (hs : s % 2 ^ o = 0) : bits .xor .i64 (s : Int) ((2 ^ o : Nat) : Int) = (bud o s : Nat) := by
  have hp : 2 ^ o ≤ 1024 := by have := Nat.pow_le_pow_right (n := 2) (by omega) ho; simpa using this
  have hb : bud o s ≤ s + 2 ^ o := by unfold bud; split <;> omega
  show IntKind.i64.wrap ((BitVec.ofInt 64 (s : Int) ^^^ BitVec.ofInt 64 ((2 ^ o : Nat) : Int)).toNat : Int) = _
  rw [BitVec.toNat_xor, ofInt_64 s (by omega), ofInt_64 _ (by omega), xor_bud hs]
  exact wrap64_small _ (by omega) (by omega)
theorem i64_andNot_flo {o s : Nat} (ho : o ≤ 10) (h : s < 4096) : bits .andNot .i64 (s : Int) (((2 ^ o : Nat) : Int) - 1) = (flo (2 ^ o) s : Nat) := by
  have hp := two_pos o
  have hp2 : 2 ^ o ≤ 1024 := by have := Nat.pow_le_pow_right (n := 2) (by omega) ho; simpa using this
  have e1 : ((2 ^ o : Nat) : Int) - 1 = ((2 ^ o - 1 : Nat) : Int) := by omega
  have hle := flo_le (2 ^ o) s
  rw [e1]
  show IntKind.i64.wrap ((BitVec.ofInt 64 (s : Int) &&& ~~~BitVec.ofInt 64 ((2 ^ o - 1 : Nat) : Int)).toNat : Int) = _
  rw [BitVec.toNat_and, BitVec.toNat_not, ofInt_64 s (by omega), ofInt_64 _ (by omega)]
  have e2 : s &&& (2 ^ 64 - 1 - (2 ^ o - 1)) = flo (2 ^ o) s := by
    apply Nat.eq_of_testBit_eq
    intro i
    have e3 : flo (2 ^ o) s = 2 ^ o * (s / 2 ^ o) := by unfold flo; have := Nat.mod_add_div s (2 ^ o); omega
    rw [Nat.testBit_and, show 2 ^ 64 - 1 - (2 ^ o - 1) = 2 ^ 64 - (2 ^ o - 1 + 1) by omega, Nat.testBit_two_pow_sub_succ (by omega), Nat.testBit_two_pow_sub_one, e3, Nat.testBit_two_pow_mul]
    by_cases hi : o ≤ i
    · rw [decide_eq_true hi, decide_eq_false (show ¬ i < o by omega), Nat.testBit_div_two_pow, show i - o + o = i by omega]
      by_cases h64 : i < 64
      · simp [h64]
      · have : s.testBit i = false := Nat.testBit_lt_two_pow (Nat.lt_of_lt_of_le h (by
          have := Nat.pow_le_pow_right (n := 2) (by omega) (show 12 ≤ i by omega); simpa using this))
        simp [this]
    · rw [decide_eq_false hi, decide_eq_true (show i < o by omega)]; simp
  rw [e2]
  exact wrap64_small _ (by omega) (by omega)
end Go.Proofs.Ytcdlfhheolbhaaa
