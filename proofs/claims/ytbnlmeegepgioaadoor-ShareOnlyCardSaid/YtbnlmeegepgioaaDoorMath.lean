/-
  Plain mathematics on 64-bit and 128-bit numbers. No program is imported.
-/
import Derived.WalkKit
namespace Go.Proofs.YtbnlmeegepgioaaDoor
set_option linter.unusedVariables false
set_option linter.unusedSimpArgs false
namespace M

/-- Knuth's estimate, at one digit of 2^32: the guard says 'q is too great'. -/
theorem split_q (q v1 v0 r u32 : Nat) (h : u32 = q * v1 + r) : q * (v1 * 4294967296 + v0) + r * 4294967296 = u32 * 4294967296 + q * v0 := by
  subst h
  rw [Nat.mul_add, Nat.add_mul, ← Nat.mul_assoc]; omega

/-- The estimate is at least the quotient. -/
theorem est_ge (u32 u1 v1 v0 : Nat) (hv : 0 < v1) : (u32 * 4294967296 + u1) / (v1 * 4294967296 + v0) ≤ u32 / v1 ∨ 4294967296 ≤ u1 := by
  by_cases hu : 4294967296 ≤ u1
  · exact .inr hu
  · left
    have hd := Nat.div_add_mod u32 v1
    have hm := Nat.mod_lt u32 hv
    refine Nat.le_of_lt_succ ((Nat.div_lt_iff_lt_mul (by omega)).2 ?_)
    have h1 : (u32 / v1 + 1) * (v1 * 4294967296 + v0) = (v1 * (u32 / v1)) * 4294967296 + v1 * 4294967296 + (u32 / v1 + 1) * v0 := by
      rw [Nat.add_mul, Nat.add_mul, Nat.one_mul, Nat.mul_add, Nat.one_mul, ← Nat.mul_assoc, Nat.mul_comm (u32 / v1) v1]; omega
    rw [h1]
    have : 0 ≤ (u32 / v1 + 1) * v0 := Nat.zero_le _
    omega

/-- The estimate is at most 2^32 + 1. -/
theorem est_le (u32 v1 v0 : Nat) (h1 : 2147483648 ≤ v1) (h0 : v0 < 4294967296) (h : u32 < v1 * 4294967296 + v0) : u32 / v1 ≤ 4294967297 := by
  refine Nat.le_of_lt_succ ((Nat.div_lt_iff_lt_mul (by omega)).2 ?_)
  omega

/-- What holds of the estimate q and of what is left r at each head of the loop. -/
structure Est (u32 u1 v1 v0 q r : Nat) : Prop where
  ge : (u32 * 4294967296 + u1) / (v1 * 4294967296 + v0) ≤ q
  eq : u32 = q * v1 + r
  le : q ≤ 4294967297
  lt : r < 4294967296

theorem est_start (u32 u1 v1 v0 : Nat) (h1 : 2147483648 ≤ v1) (h2 : v1 < 4294967296) (h0 : v0 < 4294967296) (hu : u1 < 4294967296) (h : u32 < v1 * 4294967296 + v0) :
    Est u32 u1 v1 v0 (u32 / v1) (u32 % v1) :=
  ⟨(est_ge u32 u1 v1 v0 (by omega)).resolve_right (by omega), by rw [Nat.mul_comm]; exact (Nat.div_add_mod u32 v1).symm, est_le u32 v1 v0 h1 h0 h, by have := Nat.mod_lt u32 (show 0 < v1 by omega); omega⟩

theorem quo_lt (u32 u1 v : Nat) (hu : u1 < 4294967296) (h : u32 < v) : (u32 * 4294967296 + u1) / v < 4294967296 := by
  refine (Nat.div_lt_iff_lt_mul (by omega)).2 ?_
  omega

/-- The guard says no: q is the quotient. -/
theorem est_no {u32 u1 v1 v0 q r : Nat} (e : Est u32 u1 v1 v0 q r) (hv : 0 < v1) (h : q * v0 ≤ 4294967296 * r + u1) : (u32 * 4294967296 + u1) / (v1 * 4294967296 + v0) = q := by
  have hs := split_q q v1 v0 r u32 e.eq
  refine Nat.le_antisymm e.ge ((Nat.le_div_iff_mul_le (by omega)).2 ?_)
  omega

/-- The guard says yes: q - 1 is not too small. -/
theorem est_yes {u32 u1 v1 v0 q r : Nat} (e : Est u32 u1 v1 v0 q r) (hv : 0 < v1) (hu : u1 < 4294967296) (hl : u32 < v1 * 4294967296 + v0)
    (h : 4294967296 ≤ q ∨ 4294967296 * r + u1 < q * v0) : 1 ≤ q ∧ (u32 * 4294967296 + u1) / (v1 * 4294967296 + v0) ≤ q - 1 ∧ u32 = (q - 1) * v1 + (r + v1) := by
  have hq : (u32 * 4294967296 + u1) / (v1 * 4294967296 + v0) < q := by
    rcases h with h | h
    · exact Nat.lt_of_lt_of_le (quo_lt _ _ _ hu hl) h
    · have hs := split_q q v1 v0 r u32 e.eq
      refine (Nat.div_lt_iff_lt_mul (by omega)).2 ?_
      omega
  have h1 : 1 ≤ q := Nat.lt_of_le_of_lt (Nat.zero_le _) hq
  refine ⟨h1, Nat.le_sub_one_of_lt hq, ?_⟩
  have := e.eq
  obtain ⟨p, rfl⟩ : ∃ p, q = p + 1 := ⟨q - 1, by omega⟩
  rw [Nat.add_sub_cancel]
  rw [Nat.add_mul, Nat.one_mul] at this
  omega

/-- The guard says yes, and what is left has become too great: q - 1 is the quotient. -/
theorem est_break {u32 u1 v1 v0 q r : Nat} (e : Est u32 u1 v1 v0 q r) (hv : 0 < v1) (h0 : v0 < 4294967296) (hu : u1 < 4294967296) (hl : u32 < v1 * 4294967296 + v0)
    (h : 4294967296 ≤ q ∨ 4294967296 * r + u1 < q * v0) (hr : 4294967296 ≤ r + v1) : (u32 * 4294967296 + u1) / (v1 * 4294967296 + v0) = q - 1 := by
  obtain ⟨h1, h2, h3⟩ := est_yes e hv hu hl h
  have hs := split_q (q - 1) v1 v0 (r + v1) u32 h3
  have hm : (q - 1) * v0 ≤ 4294967296 * 4294967295 := Nat.mul_le_mul (by have := e.le; omega) (by omega)
  refine Nat.le_antisymm h2 ((Nat.le_div_iff_mul_le (by omega)).2 ?_)
  omega

/-- No product of the guard goes round. -/
theorem est_fits {u32 u1 v1 v0 q r : Nat} (e : Est u32 u1 v1 v0 q r) (h0 : v0 < 4294967296) : q * v0 ≤ 18446744073709551615 := by
  have := Nat.mul_le_mul e.le (show v0 ≤ 4294967295 by omega)
  omega

end M

def I64 (n : Int) : Prop := -9223372036854775808 ≤ n ∧ n ≤ 9223372036854775807
instance (n : Int) : Decidable (I64 n) := by unfold I64; infer_instance

/-- The number, or nought with ErrRange: the two results. -/
def fitV (n : Int) : Int := if I64 n then n else 0
def fitE (n : Int) : Int := if I64 n then 0 else 10
theorem fitV_in {n : Int} (h : I64 n) : fitV n = n := if_pos h
theorem fitE_in {n : Int} (h : I64 n) : fitE n = 0 := if_pos h
theorem fitV_out {n : Int} (h : ¬ I64 n) : fitV n = 0 := if_neg h
theorem fitE_out {n : Int} (h : ¬ I64 n) : fitE n = 10 := if_neg h

/-- The end beyond which a number lies, or the number. -/
def endV (n : Int) : Int := if n < -9223372036854775808 then -9223372036854775808 else if 9223372036854775807 < n then 9223372036854775807 else n

/-- The two words of a number below 2^128. -/
def hiW (N : Nat) : Int := ((N / 18446744073709551616 : Nat) : Int)
def loW (N : Nat) : Int := ((N % 18446744073709551616 : Nat) : Int)
def Fits (N : Nat) : Prop := N < 340282366920938463463374607431768211456
theorem hiW_bd {N : Nat} (h : Fits N) : 0 ≤ hiW N ∧ hiW N ≤ 18446744073709551615 := by unfold hiW; unfold Fits at h; omega
theorem loW_bd (N : Nat) : 0 ≤ loW N ∧ loW N ≤ 18446744073709551615 := by unfold loW; omega
theorem hilo (N : Nat) : (N : Int) = hiW N * 18446744073709551616 + loW N := by unfold hiW loW; omega

/-- A number with a sign. -/
def sg (m : Bool) (N : Nat) : Int := if m then -(N : Int) else (N : Int)
def negB (n : Int) : Bool := decide (n < 0)
theorem sg_abs (n : Int) : sg (negB n) n.natAbs = n := by unfold sg negB; split <;> simp_all <;> omega
theorem hiW_abs {n : Int} (h : I64 n) : hiW n.natAbs = 0 := by unfold hiW; unfold I64 at h; omega
theorem loW_abs {n : Int} (h : I64 n) : loW n.natAbs = (n.natAbs : Nat) := by unfold loW; unfold I64 at h; omega
theorem fits_abs {n : Int} (h : I64 n) : n.natAbs ≤ 9223372036854775808 := by unfold I64 at h; omega

/-- The sum of two with signs. -/
def plusM (a b : Bool) (A B : Nat) : Bool := if a = b then a else if A < B then b else a
def plusN (a b : Bool) (A B : Nat) : Nat := if a = b then A + B else if A < B then B - A else A - B
theorem plus_sg (a b : Bool) (A B : Nat) : sg (plusM a b A B) (plusN a b A B) = sg a A + sg b B := by
  unfold plusM plusN sg
  by_cases h : A < B <;> cases a <;> cases b <;> simp [h] <;> omega
theorem plusN_le (a b : Bool) (A B : Nat) : plusN a b A B ≤ A + B := by
  unfold plusN; split <;> (try split) <;> omega

theorem sum_lo {A B : Nat} : IntKind.u64.wrap (loW A + loW B) = loW (A + B) := by
  rw [IntKind.wrap_u64]; unfold loW; omega
theorem sum_hi0 {A B : Nat} (h : Fits (A + B)) (hc : loW A + loW B < 18446744073709551616) : IntKind.u64.wrap (hiW A + hiW B) = hiW (A + B) := by
  rw [IntKind.wrap_u64]; unfold Fits at h; unfold loW at hc; unfold hiW; omega
theorem sum_hi1 {A B : Nat} (h : Fits (A + B)) (hc : ¬ loW A + loW B < 18446744073709551616) : IntKind.u64.wrap (IntKind.u64.wrap (hiW A + hiW B) + 1) = hiW (A + B) := by
  rw [IntKind.wrap_u64, IntKind.wrap_u64]; unfold Fits at h; unfold loW at hc; unfold hiW; omega

def fitB (n : Int) : Bool := decide (I64 n)


theorem mul_sg (a b : Int) : a * b = sg (negB a != negB b) (a.natAbs * b.natAbs) := by
  unfold sg negB
  rw [Int.natCast_mul]
  by_cases ha : a < 0 <;> by_cases hb : b < 0 <;> simp only [ha, hb, decide_true, decide_false, bne_self_eq_false, Bool.false_eq_true, if_false, if_true, Bool.bne_true, Bool.bne_false, Bool.not_false, Bool.not_true]
  · rw [Int.ofNat_natAbs_of_nonpos (by omega), Int.ofNat_natAbs_of_nonpos (by omega), Int.neg_mul_neg]
  · rw [Int.ofNat_natAbs_of_nonpos (by omega), Int.natAbs_of_nonneg (by omega), Int.neg_mul, Int.neg_neg]
  · rw [Int.natAbs_of_nonneg (by omega), Int.ofNat_natAbs_of_nonpos (by omega), Int.mul_neg, Int.neg_neg]
  · rw [Int.natAbs_of_nonneg (by omega), Int.natAbs_of_nonneg (by omega)]
end Go.Proofs.YtbnlmeegepgioaaDoor
