/-
  Contracts of package gangerref01's functions: Sub, Mul, End, Up.
-/
import Derived.Test.YtbcpiabamhdjbaaNumRef3
import Derived.Test.YtbcpiabamhdjbaaNum4
import Derived.Deep.RegionHeld3
namespace Go.Proofs.Ytbcpiabamhdjbaa
open Go.ChangeShapes Go.WideShapes Go.ChangeAt Go.RowKit
set_option linter.unusedVariables false

theorem ref_wide_chain {w w1 w2 w3 w4 : World} (b1 : Below w.heap.size w w1) (b2 : Below w1.heap.size w1 w2) (b3 : Below w2.heap.size w2 w3) (b4 : Below w3.heap.size w3 w4) : Below w.heap.size w w4 :=
  have h12 := b1.trans (b2.mono b1.size)
  have h13 := h12.trans (b3.mono h12.size)
  h13.trans (b4.mono h13.size)

theorem fits_mul {A B : Nat} (hA : A ≤ 9223372036854775808) (hB : B ≤ 9223372036854775808) : Fits (A * B) := by
  have : A * B ≤ 9223372036854775808 * 9223372036854775808 := Nat.mul_le_mul hA hB
  unfold Fits; omega

theorem Mul_any (a b : Int) (w : World) (ha : I64 a) (hb : I64 b) : Calls Try.prog 17 #[.int .i64 a, .int .i64 b] w
    fun e w' => e = .returned (.tuple #[.int .i64 (fitV (a * b)), .int .i64 (fitE (a * b))]) ∧ Below w.heap.size w w' := by
  have f1 := fits_abs ha
  have f2 := fits_abs hb
  have hf := fits_mul f1 f2
  have E : Hid (sg (neB (negB a) (negB b)) (a.natAbs * b.natAbs) = a * b) := (mul_sg a b).symm
  go_enter Try.func17, Try.ntmps17
  go_wp2_with fail
  refine (of_any a _ ha).mono ?_; rintro e w1 ⟨rfl, b1⟩
  go_wp2_with fail
  refine (of_any b _ hb).mono ?_; rintro e w2 ⟨rfl, b2⟩
  go_wp2_with fail
  refine (Product_any _ _ _ _ _ f1 f2).mono ?_; rintro e w3 ⟨rfl, b3⟩
  go_wp2_with fail
  refine (told_any _ _ _ hf).mono ?_; rintro e w4 ⟨rfl, b4⟩
  rw [E.out]
  go_wp2_with fail
  go_ret2
  exact ⟨rfl, ref_wide_chain b1 b2 b3 b4⟩

theorem End_any (m : Bool) (N : Nat) (w : World) (h : Fits N) :
    Calls Try.prog 19 #[.agg #[.bool m, .int .u64 (hiW N), .int .u64 (loW N)]] w
      fun e w' => e = .returned (.int .i64 (endV (sg m N))) ∧ Below w.heap.size w w' := by
  by_cases c : I64 (sg m N)
  · have H : Hid (fitB (sg m N) = true) := by show _ = _; simp [fitB, c]
    have E := Lib.hid ((fitV_in c).trans (endV_in c).symm)
    clear c
    go_enter Try.func19, Try.ntmps19
    go_wp2_with (go_at_call 24; refine (Narrow_any _ _ _ h).mono ?_; rintro e w1 ⟨rfl, hb⟩; rw [H.out]; have hB : Below w.heap.size w w1 := Below.trans (by go_grown) (hb.mono (by simp <;> omega)))
    go_ret
    exact ⟨ret_int E.out, hB⟩
  · have H : Hid (fitB (sg m N) = false) := by show _ = _; simp [fitB, c]
    have E := endV_out c
    cases m
    · have E1 : Hid (9223372036854775807 = endV (sg false N)) := by show _ = _; rw [E, if_neg]; unfold sg; simp
      clear c E
      go_enter Try.func19, Try.ntmps19
      go_wp2_with (go_at_call 24; refine (Narrow_any _ _ _ h).mono ?_; rintro e w1 ⟨rfl, hb⟩; rw [H.out]; obtain ⟨hc, hf⟩ := bcell hb; have hB : Below w.heap.size w w1 := Below.trans (by go_grown) (hb.mono (by simp <;> omega)))
      go_ret
      exact ⟨ret_int E1.out, hB⟩
    · have E1 : Hid (-9223372036854775808 = endV (sg true N)) := by show _ = _; rw [E, if_pos]; unfold sg I64 at *; simp at *; omega
      clear c E
      go_enter Try.func19, Try.ntmps19
      go_wp2_with (go_at_call 24; refine (Narrow_any _ _ _ h).mono ?_; rintro e w1 ⟨rfl, hb⟩; rw [H.out]; obtain ⟨hc, hf⟩ := bcell hb; have hB : Below w.heap.size w w1 := Below.trans (by go_grown) (hb.mono (by simp <;> omega)))
      go_ret
      exact ⟨ret_int E1.out, hB⟩

theorem Sub_any (a b : Int) (w : World) (ha : I64 a) (hb : I64 b) : Calls Try.prog 14 #[.int .i64 a, .int .i64 b] w
    fun e w' => e = .returned (.tuple #[.int .i64 (fitV (a - b)), .int .i64 (fitE (a - b))]) ∧ Below w.heap.size w w' := by
  have f1 := fits_abs ha
  have f2 := fits_abs hb
  have hf : Fits (a.natAbs + b.natAbs) := by unfold Fits; omega
  have hf' : Fits (plusN (negB a) (!negB b) a.natAbs b.natAbs) := by have := plusN_le (negB a) (!negB b) a.natAbs b.natAbs; unfold Fits at *; omega
  have E : Hid (sg (plusM (negB a) (!negB b) a.natAbs b.natAbs) (plusN (negB a) (!negB b) a.natAbs b.natAbs) = a - b) := by
    show _ = _
    rw [plus_sg, sg_abs]
    have : sg (!negB b) b.natAbs = - b := by unfold sg negB; by_cases h : b < 0 <;> simp [h] <;> omega
    rw [this]; omega
  clear f1 f2
  go_enter Try.func14, Try.ntmps14
  go_wp2_with fail
  refine (of_any b _ hb).mono ?_; rintro e w1 ⟨rfl, b1⟩
  have hz1 := b1.size
  go_wp2_with fail
  go_region_held3 (fun w' => w'.cell? ⟨w1.heap.size, 0, none⟩ = some (.bool (!negB b)) ∧ w'.cell? ⟨w1.heap.size, 1, none⟩ = some (.int .u64 (hiW b.natAbs)) ∧ w'.cell? ⟨w1.heap.size, 2, none⟩ = some (.int .u64 (loW b.natAbs)) ∧ w1.heap.size + 1 ≤ w'.heap.size ∧ Below w.heap.size w w')
    (first
      | (refine ⟨by simp [go_sem], by simp [go_sem], by simp [go_sem], by simp, by go_grown⟩)
      | (rcases ‹_ ∧ _ ∧ _ ∧ _ ∧ Below _ _ _› with ⟨g1, g2, g3, g4, g5⟩; exact ⟨cell_next (by assumption) g1, cell_next (by assumption) g2, cell_next (by assumption) g3, size_next (by assumption) g4, below_next (by assumption) g5⟩))
    (first
      | (go_at_call 21; refine (of_any a _ ha).mono ?_; rintro e w2 ⟨rfl, b2⟩)
      | (go_at_call 23; refine (Plus_any _ _ _ _ _ hf).mono ?_; rintro e w3 ⟨rfl, b3⟩)
      | (go_at_call 35; refine (told_any _ _ _ hf').mono ?_; rintro e w4 ⟨rfl, b4⟩))
  rcases ‹_ ∧ _ ∧ _ ∧ _ ∧ Below _ _ _› with ⟨_, _, _, _, g5⟩
  go_wp2
  go_ret2
  exact ⟨ret_tup2 (by rw [E.out]) (by rw [E.out]), g5⟩
end Go.Proofs.Ytbcpiabamhdjbaa
