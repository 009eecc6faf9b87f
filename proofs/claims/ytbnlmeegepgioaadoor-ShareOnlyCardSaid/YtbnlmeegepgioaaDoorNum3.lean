
/-
  Contracts of package num's functions: Times, Div, Sum.
-/
import Derived.Test.YtbnlmeegepgioaaDoorNum2
import Derived.Test.YtbnlmeegepgioaaDoorMath2
import Derived.Test.YtbnlmeegepgioaaDoorMem
import Derived.Deep.QuietTactic
import Derived.BigQuiet
namespace Go.Proofs.YtbnlmeegepgioaaDoor
open Go.ChangeShapes Go.WideShapes Go.ChangeAt Go.RowKit
set_option linter.unusedVariables false

theorem endV_in {n : Int} (h : I64 n) : endV n = n := by unfold endV; unfold I64 at h; split <;> (try split) <;> omega
theorem endV_out {n : Int} (h : ¬ I64 n) : endV n = if n < 0 then -9223372036854775808 else 9223372036854775807 := by unfold endV; unfold I64 at h; split <;> (try split) <;> (try split) <;> omega
theorem mul_neg_of (a b : Int) (h : ¬ I64 (a * b)) : (a * b < 0) ↔ ((!decide (a < 0) == decide (b < 0)) = true) := by
  have hm := mul_sg a b
  have e : (!decide (a < 0) == decide (b < 0)) = (negB a != negB b) := rfl
  rw [e]
  cases hb : (negB a != negB b)
  · rw [hb] at hm; simp [sg] at hm; simp; rw [hm]; exact Int.mul_nonneg (Int.natCast_nonneg _) (Int.natCast_nonneg _)
  · rw [hb] at hm; simp [sg] at hm; simp
    unfold I64 at h
    have : 0 ≤ (a.natAbs : Int) * (b.natAbs : Int) := Int.mul_nonneg (Int.natCast_nonneg _) (Int.natCast_nonneg _)
    by_cases h' : a * b < 0
    · exact h'
    · exfalso
      apply h
      have : a * b = 0 := by
        have e3 : -((a.natAbs : Int) * (b.natAbs : Int)) ≤ 0 := by omega
        rw [← Int.natCast_mul] at *
        omega
      omega


def divQ (a b : Int) : Int := if b = 0 then 0 else if a = -9223372036854775808 ∧ b = -1 then 0 else a / b
def divR (a b : Int) : Int := if b = 0 then 0 else if a = -9223372036854775808 ∧ b = -1 then 0 else a % b
def divE (a b : Int) : Int := if b = 0 then 2 else if a = -9223372036854775808 ∧ b = -1 then 10 else 0
theorem ret_tup3 {k l m : IntKind} {a b c a' b' c' : Int} (h : a = a') (h' : b = b') (h'' : c = c') : Ending.returned (.tuple #[.int k a, .int l b, .int m c]) = .returned (.tuple #[.int k a', .int l b', .int m c']) := by rw [h, h', h'']





/-- A row of 64-bit numbers lies at a slice. -/
def IntsAt (w : World) (a : Option Addr) (zs : List Int) : Prop := zs = [] ∨ ∃ b off, a = some ⟨b, off, none⟩ ∧ ∀ k, k < zs.length → w.cell? ⟨b, off + k, none⟩ = some (.int .i64 (zs.getD k 0))
theorem IntsAt.below {B : Nat} {w w' : World} {a : Option Addr} {zs : List Int} (h : IntsAt w a zs) (hb : Below B w w') (hB : ∀ p, a = some p → p.block < B) : IntsAt w' a zs := by
  rcases h with h | ⟨b, off, rfl, hc⟩
  · exact .inl h
  · exact .inr ⟨b, off, rfl, fun k hk => by rw [← hc k hk]; exact hb.cell (p := ⟨b, off + k, none⟩) (show b < B from hB ⟨b, off, none⟩ rfl)⟩
def sumEnd (zs : List Int) : Int := zs.foldl (fun t n => endV (t + n)) 0
theorem endV_I64 (n : Int) : I64 (endV n) := by unfold endV I64; split <;> (try split) <;> omega
theorem sumEnd_snoc (zs : List Int) (k : Nat) (h : k < zs.length) : sumEnd (zs.take (k + 1)) = endV (sumEnd (zs.take k) + zs.getD k 0) := by
  unfold sumEnd
  rw [List.take_add_one, List.foldl_append]
  simp [List.getD, List.getElem?_eq_getElem h]
theorem sumEnd_I64 (zs : List Int) : I64 (sumEnd zs) := by
  rcases List.eq_nil_or_concat zs with rfl | ⟨l, x, rfl⟩
  · unfold sumEnd I64; simp
  · unfold sumEnd; rw [List.concat_eq_append, List.foldl_append]; exact endV_I64 _

theorem sum_nil (a : Option Addr) (c : Nat) (w : World) : Calls Tryd.prog 26 #[.slice a 0 c] w fun e w' => e = .returned (.int .i64 0) ∧ w' = w := by
  go_enter Tryd.func26, Tryd.ntmps26
  go_wp2
  go_loop [3, 10] (fun t i => i = .int .i64 0 ∧ t = .int .i64 0) (fun _ _ => 0)
  case atStart => exact ⟨rfl, rfl⟩
  case round =>
    obtain ⟨rfl, rfl⟩ := hrel
    go_wp2
    go_ret
    exact ⟨rfl, rfl⟩

theorem sum_row (b off c : Nat) (zs : List Int) (w : World) (hlen : zs.length ≤ 9223372036854775807) (hz : ∀ z ∈ zs, I64 z) (hc : ∀ k, k < zs.length → w.cell? ⟨b, off + k, none⟩ = some (.int .i64 (zs.getD k 0))) :
    Calls Tryd.prog 26 #[.slice (some ⟨b, off, none⟩) zs.length c] w fun e w' => e = .returned (.int .i64 (sumEnd zs)) ∧ w' = w := by
  have HC := Lib.hid hc
  have HZ := Lib.hid hz
  clear hc hz
  go_enter Tryd.func26, Tryd.ntmps26
  go_wp2
  go_loop [3, 10] (fun t i => ∃ k : Nat, k ≤ zs.length ∧ i = .int .i64 k ∧ t = .int .i64 (sumEnd (zs.take k))) (fun _ i => zs.length - (intOf i).toNat)
  case atStart => exact ⟨0, Nat.zero_le _, rfl, rfl⟩
  case round =>
    obtain ⟨k, hk, rfl, rfl⟩ := hrel
    by_cases hlt : k < zs.length
    · have hcell := HC.out k hlt
      have hs := sumEnd_I64 (zs.take k)
      have hm : I64 (zs.getD k 0) := HZ.out _ (by simp [List.getD, List.getElem?_eq_getElem hlt])
      have E := Lib.hid (sumEnd_snoc zs k hlt)
      generalize zs.getD k 0 = z at *
      generalize sumEnd (zs.take k) = s at *
      have A : Hid (∀ w, Calls Tryd.prog 35 #[.int .i64 s, .int .i64 z] w fun e w' => e = .returned (.tuple #[.int .i64 (fitV (s + z)), .int .i64 (fitE (s + z))]) ∧ w' = w) := fun w => add_any s z w hs hm
      by_cases hf : I64 (s + z)
      · have f1 := Lib.hid (fitE_in hf)
        have f2 := Lib.hid ((fitV_in hf).trans (endV_in hf).symm)
        clear hf hs hm
        go_wp2_with (go_at_call 35; refine (A.out _).mono ?_; rintro e w' ⟨rfl, rfl⟩; rw [f1.out])
        go_round
        case rel => exact ⟨k + 1, by omega, by go_num, by rw [E.out, f2.out]⟩
        case measure => simp [intOf]; omega
      · have f1 := Lib.hid (fitE_out hf)
        have f2 := Lib.hid (endV_out hf)
        by_cases hn : z < 0
        · have f3 : Hid (-9223372036854775808 = endV (s + z)) := by show _ = _; rw [f2.out, if_pos (by unfold I64 at *; omega)]
          clear hf hs hm
          go_wp2_with (first | (go_at_call 35; refine (A.out _).mono ?_; rintro e w' ⟨rfl, rfl⟩; rw [f1.out]) | (go_at_call 36; refine (bound_t _).mono ?_; rintro e w' ⟨rfl, rfl⟩))
          go_round
          case rel => exact ⟨k + 1, by omega, by go_num, by rw [E.out, ← f3.out]⟩
          case measure => simp [intOf]; omega
        · have f3 : Hid (9223372036854775807 = endV (s + z)) := by show _ = _; rw [f2.out, if_neg (by unfold I64 at *; omega)]
          have hn' : decide (z < 0) = false := by simpa using hn
          clear hf hs hm hn
          go_wp2_with (first | (go_at_call 35; refine (A.out _).mono ?_; rintro e w' ⟨rfl, rfl⟩; rw [f1.out]) | (go_at_call 36; refine (bound_f _).mono ?_; rintro e w' ⟨rfl, rfl⟩))
          go_round
          case rel => exact ⟨k + 1, by omega, by go_num, by rw [E.out, ← f3.out]⟩
          case measure => simp [intOf]; omega
    · obtain rfl : k = zs.length := by omega
      rw [List.take_of_length_le (Nat.le_refl _)]
      go_wp2
      go_ret
      exact ⟨rfl, rfl⟩

end Go.Proofs.YtbnlmeegepgioaaDoor
