
/-
  Contracts of package num's functions: Times, Div, Sum.
-/
import Derived.Test.YtjhabfhpjpkpbaaNum2
import Derived.Test.YtjhabfhpjpkpbaaMath2
import Derived.Test.YtjhabfhpjpkpbaaMem
import Derived.Deep.QuietTactic
import Derived.BigQuiet
namespace Go.Proofs.Ytjhabfhpjpkpbaa
open Go.ChangeShapes Go.WideShapes Go.ChangeAt Go.RowKit
set_option linter.unusedVariables false

theorem endV_in {n : Int} (h : I64 n) : endV n = n := by unfold endV; unfold I64 at h; split <;> (try split) <;> omega
theorem endV_out {n : Int} (h : ¬ I64 n) : endV n = if n < 0 then -9223372036854775808 else 9223372036854775807 := by unfold endV; unfold I64 at h; split <;> (try split) <;> (try split) <;> omega
theorem mul_neg_of (a b : Int) (h : ¬ I64 (a * b)) : (a * b < 0) ↔ ((!decide (a < 0) == decide (b < 0)) = true) := by
  have hm := mul_sg a b
  have e : (!decide (a < 0) == decide (b < 0)) = (negB a != negB b) := rfl
  rw [e]
  cases hb : (negB a != negB b)
  · rw [hb] at hm; simp [sg] at hm; simp; rw [hm]; exact Int.mul_nonneg (Int.natCast_nonneg _) (Int.natCast_nonneg _)
  · rw [hb] at hm; simp [sg] at hm; simp
    unfold I64 at h
    have : 0 ≤ (a.natAbs : Int) * (b.natAbs : Int) := Int.mul_nonneg (Int.natCast_nonneg _) (Int.natCast_nonneg _)
    by_cases h' : a * b < 0
    · exact h'
    · exfalso
      apply h
      have : a * b = 0 := by
        have e3 : -((a.natAbs : Int) * (b.natAbs : Int)) ≤ 0 := by omega
        rw [← Int.natCast_mul] at *
        omega
      omega


def divQ (a b : Int) : Int := if b = 0 then 0 else if a = -9223372036854775808 ∧ b = -1 then 0 else a / b
def divR (a b : Int) : Int := if b = 0 then 0 else if a = -9223372036854775808 ∧ b = -1 then 0 else a % b
def divE (a b : Int) : Int := if b = 0 then 2 else if a = -9223372036854775808 ∧ b = -1 then 10 else 0
theorem ret_tup3 {k l m : IntKind} {a b c a' b' c' : Int} (h : a = a') (h' : b = b') (h'' : c = c') : Ending.returned (.tuple #[.int k a, .int l b, .int m c]) = .returned (.tuple #[.int k a', .int l b', .int m c']) := by rw [h, h', h'']





/-- A row of 64-bit numbers lies at a slice. -/
def IntsAt (w : World) (a : Option Addr) (zs : List Int) : Prop := zs = [] ∨ ∃ b off, a = some ⟨b, off, none⟩ ∧ ∀ k, k < zs.length → w.cell? ⟨b, off + k, none⟩ = some (.int .i64 (zs.getD k 0))
theorem IntsAt.below {B : Nat} {w w' : World} {a : Option Addr} {zs : List Int} (h : IntsAt w a zs) (hb : Below B w w') (hB : ∀ p, a = some p → p.block < B) : IntsAt w' a zs := by
  rcases h with h | ⟨b, off, rfl, hc⟩
  · exact .inl h
  · exact .inr ⟨b, off, rfl, fun k hk => by rw [← hc k hk]; exact hb.cell (p := ⟨b, off + k, none⟩) (show b < B from hB ⟨b, off, none⟩ rfl)⟩
def sumEnd (zs : List Int) : Int := zs.foldl (fun t n => endV (t + n)) 0
theorem endV_I64 (n : Int) : I64 (endV n) := by unfold endV I64; split <;> (try split) <;> omega
theorem sumEnd_snoc (zs : List Int) (k : Nat) (h : k < zs.length) : sumEnd (zs.take (k + 1)) = endV (sumEnd (zs.take k) + zs.getD k 0) := by
  unfold sumEnd
  rw [List.take_add_one, List.foldl_append]
  simp [List.getD, List.getElem?_eq_getElem h]
theorem sumEnd_I64 (zs : List Int) : I64 (sumEnd zs) := by
  rcases List.eq_nil_or_concat zs with rfl | ⟨l, x, rfl⟩
  · unfold sumEnd I64; simp
  · unfold sumEnd; rw [List.concat_eq_append, List.foldl_append]; exact endV_I64 _



end Go.Proofs.Ytjhabfhpjpkpbaa
