/-
  Layer 17: what the loops of the laws reckon, plainly.
-/
import Derived.Test.YtgohnidndjbjiaaCrateX
import Derived.WalkKit
namespace Go.Proofs.Ytgohnidndjbjiaa
open Go Go.RowKit
set_option linter.unusedVariables false

theorem i64_nat (n : Nat) (h : n ≤ 9223372036854775807) : IntKind.i64.wrap (n : Int) = (n : Int) := by rw [IntKind.wrap_i64]; omega
theorem u64_nat (n : Nat) (h : n ≤ 9223372036854775807) : IntKind.u64.wrap (n : Int) = (n : Int) := by rw [IntKind.wrap_u64]; omega
theorem w64_nat (n : Nat) (h : n ≤ 9223372036854775807) : wrap64 (n : Int) = (n : Int) := by unfold wrap64; omega
theorem u64_bd (x : Int) : 0 ≤ IntKind.u64.wrap x ∧ IntKind.u64.wrap x ≤ 18446744073709551615 := by rw [IntKind.wrap_u64]; omega
theorem mod_pick (x : Int) (n : Nat) (h : 0 < n) (hn : n ≤ 1000000) : ∃ U K : Nat, IntKind.u64.wrap x = (U : Int) ∧ (U : Int) % (n : Int) = (K : Int) ∧ K < n ∧ IntKind.i64.wrap (K : Int) = (K : Int) ∧ wrap64 (K : Int) = (K : Int) ∧ ¬ (n : Int) = 0 ∧ IntKind.u64.wrap (n : Int) = (n : Int) ∧ IntKind.i64.wrap (n : Int) = (n : Int) ∧ wrap64 (n : Int) = (n : Int) ∧ (U : Int).tmod (n : Int) = (K : Int) := by
  obtain ⟨U, hU⟩ := Int.eq_ofNat_of_zero_le (u64_bd x).1
  have e : (U : Int) % (n : Int) = ((U % n : Nat) : Int) := by simp
  have hl' : U % n < n := Nat.mod_lt _ h
  refine ⟨U, U % n, hU, e, hl', i64_nat _ (by omega), w64_nat _ (by omega), by omega, u64_nat n (by omega), i64_nat n (by omega), w64_nat n (by omega), ?_⟩
  rw [Int.tmod_eq_emod_of_nonneg (by omega), e]
theorem bit_int (b i d : Nat) (h : b / 2 ^ i % 2 = d) : (b : Int) / 2 ^ i % 2 = (d : Int) := by rw [← h]; simp
theorem bit_tmod (b i d : Nat) (h : b / 2 ^ i % 2 = d) : ((b : Int) / 2 ^ i).tmod 2 = (d : Int) := by
  rw [Int.tmod_eq_emod_of_nonneg (Int.ediv_nonneg (by omega) (by exact Int.pow_nonneg (by decide)))]
  exact bit_int b i d h
/-- Bit i of a burst from bit fr on: where it lies. -/
structure LpIn (fr i k P : Nat) : Prop where
  eq : P = fr + i
  lt : P < 8 * k
  u1 : decide ((i : Int) < 32) = true
  u2 : IntKind.i64.wrap ((fr : Int) + (i : Int)) = (P : Int)
  u2' : (fr : Int) + (i : Int) = (P : Int)
  u2'' : wrap64 (P : Int) = (P : Int)
  u3 : decide ((P : Int) < 8 * (k : Int)) = true
  u3' : decide (P < 8 * k) = true
  u4 : IntKind.u64.wrap (i : Int) = (i : Int)
  nx : fr + (i + 1) ≤ 8 * k
theorem lp_in (fr i k : Nat) (hk : k ≤ 9000) (hi : i < 32) (hg : fr + i < 8 * k) : ∃ P, LpIn fr i k P :=
  ⟨fr + i, rfl, hg, decide_eq_true (by omega), by rw [IntKind.wrap_i64]; omega, by omega, w64_nat _ (by omega), decide_eq_true (by omega), decide_eq_true hg, u64_nat i (by omega), by omega⟩
/-- Bit P: its byte, and its place there. -/
structure LpBit (P k q j C : Nat) : Prop where
  q1 : q < k
  q1' : (q : Int) < k
  j8 : j < 8
  pq : P = 8 * q + j
  v1 : (P : Int).tdiv 8 = (q : Int)
  v1' : (P : Int) / 8 = (q : Int)
  v2 : (P : Int).tmod 8 = (j : Int)
  v2' : (P : Int) % 8 = (j : Int)
  v3 : wrap64 (q : Int) = (q : Int)
  v3' : wrap64 (j : Int) = (j : Int)
  v4 : IntKind.u64.wrap (j : Int) = (j : Int)
  c : C = 2 ^ j
  c1 : C < 256
  v5 : (2 : Int) ^ j = (C : Int)
  v6 : IntKind.u8.wrap (C : Int) = (C : Int)
theorem pow8 (j : Nat) (h : j < 8) : 2 ^ j < 256 := by
  have : ∀ j, j < 8 → 2 ^ j < 256 := by decide
  exact this j h
theorem lp_bit (P k : Nat) (hk : k ≤ 10000000) (hP : P < 8 * k) : ∃ q j C, LpBit P k q j C := by
  have h1 : P = 8 * (P / 8) + P % 8 := by omega
  have h2 : P % 8 < 8 := by omega
  have h3 : P / 8 < k := by omega
  have hC := pow8 (P % 8) h2
  generalize P / 8 = q at *
  generalize P % 8 = j at *
  subst h1
  refine ⟨q, j, 2 ^ j, h3, by omega, h2, rfl, ?_, by omega, ?_, by omega, w64_nat _ (by omega), w64_nat _ (by omega), u64_nat _ (by omega), rfl, hC, by simp, ?_⟩
  · rw [Int.tdiv_eq_ediv_of_nonneg (by omega)]; omega
  · rw [Int.tmod_eq_emod_of_nonneg (by omega)]; omega
  · generalize 2 ^ j = C at *
    rw [IntKind.wrap_u8]; omega
end Go.Proofs.Ytgohnidndjbjiaa
