/-
  NumDivs: of any two numbers num.Div answers the quotient and what is left, at least 0 and less than the divisor without its sign: so the law returns true for every input.
-/
import Derived.Test.YtbcpiabamhdjbaaNumRef4
import Derived.Test.YtbcpiabamhdjbaaNumKnown
import Derived.Test.YtbcpiabamhdjbaaRows
import Derived.Test.YtbcpiabamhdjbaaLaw
namespace Go.Proofs.Ytbcpiabamhdjbaa.numDivs
open Go.ChangeShapes Go.WideShapes Go.ChangeAt Go.RowKit
set_option linter.unusedVariables false

theorem own : ownKnob Try.prog.godebug = none := by kernel_rfl

theorem walk_zero (a : Int) (ha : I64 a) (w : World) :
    Calls Try.prog 5 #[.int .i64 a, .int .i64 0] w fun e w' => e = .returned (.bool true) ∧ Below w.heap.size w w' := by
  go_enter Try.func5, Try.ntmps5
  go_wp2_with fail
  refine (div_zero a _).mono ?_; rintro e w1 ⟨rfl, rfl⟩
  go_wp2_with fail
  refine (known_any _).mono ?_; rintro e w7 ⟨rfl, b7⟩
  go_wp2_with fail
  go_ret
  exact ⟨rfl, b7⟩
theorem walk_min (w : World) :
    Calls Try.prog 5 #[.int .i64 (-9223372036854775808), .int .i64 (-1)] w fun e w' => e = .returned (.bool true) ∧ Below w.heap.size w w' := by
  go_enter Try.func5, Try.ntmps5
  go_wp2_with fail
  refine (div_min _).mono ?_; rintro e w1 ⟨rfl, rfl⟩
  go_wp2_with fail
  refine (known_any _).mono ?_; rintro e w7 ⟨rfl, b7⟩
  go_wp2_with fail
  go_ret
  exact ⟨rfl, b7⟩
theorem walk_main (a b : Int) (ha : I64 a) (hb : I64 b) (h0 : b ≠ 0) (hmin : ¬ (a = -9223372036854775808 ∧ b = -1)) (w : World) :
    Calls Try.prog 5 #[.int .i64 a, .int .i64 b] w fun e w' => e = .returned (.bool true) ∧ Below w.heap.size w w' := by
  obtain ⟨hQ, -, -, -, -, -⟩ := div_facts ha hb h0 (fun h => by omega)
  have e := Int.mul_ediv_add_emod a b
  have r0 : 0 ≤ a % b := Int.emod_nonneg a h0
  have r1 : a % b < b.natAbs := Int.emod_lt a h0
  have hQ' : I64 (a / b) := by
    obtain ⟨q0, hr, hq', p1, p2, p3⟩ := div_facts ha hb h0 (fun h => by omega)
    unfold I64 at *
    by_cases c : 0 ≤ a.tmod b
    · rw [← (p1 c).1]; exact q0
    · have := hq' (by omega)
      by_cases c2 : 0 < b
      · rw [← (p2 (by omega) c2).1]; omega
      · rw [← (p3 (by omega) (by omega)).1]; omega
  have hR' : I64 (a % b) := by unfold I64 at *; omega
  have D : Hid (∀ w, Calls Try.prog 22 #[.int .i64 a, .int .i64 b] w fun e w' => e = .returned (.tuple #[.int .i64 (a / b), .int .i64 (a % b), .int .i64 0]) ∧ Below w.heap.size w w') :=
    fun w => div_main a b w ha hb h0 (fun h => by omega)
  generalize a / b = q at *
  generalize a % b = r at *
  clear hQ
  have f1 := fits_abs hQ'
  have f2 := fits_abs hb
  have f3 := fits_abs hR'
  have hm : q.natAbs * b.natAbs ≤ 9223372036854775808 * 9223372036854775808 := Nat.mul_le_mul f1 f2
  have hf : Fits (q.natAbs * b.natAbs + r.natAbs) := by unfold Fits; omega
  have hf' : Fits (plusN (neB (negB q) (negB b)) (negB r) (q.natAbs * b.natAbs) r.natAbs) := by have := plusN_le (neB (negB q) (negB b)) (negB r) (q.natAbs * b.natAbs) r.natAbs; unfold Fits at *; omega
  have E : Hid (sg (plusM (neB (negB q) (negB b)) (negB r) (q.natAbs * b.natAbs) r.natAbs) (plusN (neB (negB q) (negB b)) (negB r) (q.natAbs * b.natAbs) r.natAbs) = a) := by
    show _ = _
    rw [plus_sg, sg_abs]
    have : sg (neB (negB q) (negB b)) (q.natAbs * b.natAbs) = q * b := (mul_sg q b).symm
    rw [this, Int.mul_comm]; exact e
  have V : Hid (fitV a = a) := fitV_in ha
  have B : Hid (fitB a = true) := by show _ = _; simp [fitB, ha]
  have t0 : (b == 0) = false := by simpa using h0
  have t1 : (a == -9223372036854775808) = false ∨ (a == -9223372036854775808) = true ∧ (b == -1) = false := by
    by_cases h : a = -9223372036854775808
    · exact .inr ⟨by simpa using h, by simp; omega⟩
    · exact .inl (by simpa using h)
  have t2 : decide (0 ≤ r) = true := decide_eq_true r0
  have t3 : (decide (0 < b) = true ∧ decide (r < b) = true) ∨ (decide (0 < b) = false ∧ decide (b < 0) = true ∧ ((b == -9223372036854775808) = true ∨ (b == -9223372036854775808) = false ∧ decide (r < -b) = true ∧ -b ≤ 9223372036854775807)) := by
    by_cases c : 0 < b
    · exact .inl ⟨decide_eq_true c, decide_eq_true (by omega)⟩
    · refine .inr ⟨decide_eq_false c, decide_eq_true (by omega), ?_⟩
      by_cases c2 : b = -9223372036854775808
      · exact .inl (by simpa using c2)
      · exact .inr ⟨by simpa using c2, decide_eq_true (by omega), by unfold I64 at hb; omega⟩
  have bb1 := hb.1
  have bb2 := hb.2
  clear e hmin h0 r0 r1 hm
  rcases t3 with ⟨t3, t4⟩ | ⟨t3, t4, t5 | ⟨t5, t6, t7⟩⟩
  all_goals rcases t1 with t1 | ⟨t1, t1'⟩
  all_goals
    go_enter Try.func5, Try.ntmps5
    go_wp2_with fail
    refine (D.out _).mono ?_; rintro e w1 ⟨rfl, b1⟩
    go_wp2_with fail
    refine (of_any q _ hQ').mono ?_; rintro e w3 ⟨rfl, b3⟩
    go_wp2_with fail
    refine (of_any b _ hb).mono ?_; rintro e w4 ⟨rfl, b4⟩
    go_wp2_with fail
    refine (Product_any _ _ _ _ _ f1 f2).mono ?_; rintro e w5 ⟨rfl, b5⟩
    go_wp2_with fail
    refine (of_any r _ hR').mono ?_; rintro e w6 ⟨rfl, b6⟩
    go_wp2_with fail
    refine (Plus_any _ _ _ _ _ hf).mono ?_; rintro e w7 ⟨rfl, b7⟩
    have B7 := below_next b7 (below_next b6 (below_next b5 (below_next b4 (below_next b3 b1))))
    go_wp2_with fail
    refine (Narrow_any _ _ _ hf').mono ?_; rintro e w8 ⟨rfl, b8⟩
    rw [E.out, V.out, B.out]
    go_wp2_with fail
    refine (known_any _).mono ?_; rintro e w9 ⟨rfl, b9⟩
    go_wp2_with fail
    go_ret
    exact ⟨rfl, below_next b9 (below_next b8 (B7.alloc B7.size _))⟩
theorem walk (a b : Int) (w0 : (Lit.int .i64 a).wf = true) (w1 : (Lit.int .i64 b).wf = true) (w : World) :
    Calls Try.prog 5 #[.int .i64 a, .int .i64 b] w fun e w' => e = .returned (.bool true) ∧ Below w.heap.size w w' := by
  have ha : I64 a := wf_i64' w0
  have hb : I64 b := wf_i64' w1
  by_cases h0 : b = 0
  · subst h0; exact walk_zero a ha w
  · by_cases hm : a = -9223372036854775808 ∧ b = -1
    · obtain ⟨rfl, rfl⟩ := hm; exact walk_min w
    · exact walk_main a b ha hb h0 hm w

set_option maxRecDepth 100000 in
theorem lifted (os : Os) (started : os.Started) (H : Type) (enc : TypeId × Value → H) :
    ReturnsInHanded {} Try.checked os 5 .any (Rows.numDivsSpec.pre6 enc Try.prog Try.f5 Rows.numDivsRow.domain false) (Rows.numDivsSpec.post enc Try.prog Try.f5 false true false false) := by
  refine returnsInHanded_of_change (C := Try.checked) own started (by kernel_rfl) Try.func5
    (ChangeSpec.witness6 (enc := enc) (C := Try.checked) false ⟨#[], #[.int .i64 0, .int .i64 0], []⟩ 8 (by kernel_rfl) (by kernel_rfl) (by kernel_rfl) (by kernel_rfl)) ?_
  intro W base args ds gs before hval0 hW _ _
  have hval : ∀ (j : Nat) t v, Try.f5.params[j]? = some t → args[j]? = some v → Value.okWide Try.prog W .any base t v := hval0
  have hW' := hW
  obtain ⟨p, q, hA0, hV, rfl, hfz, hnd⟩ := hW
  have hA : DataW.TrodAll enc Try.prog W 0 (fun _ => true) true Try.f5.params.toList args.toList ds p := hA0
  rw [Try.params5] at hA hval
  obtain ⟨v0, vs0, d0, ds0, p0, q0, hargs, rfl, rfl, h0, r0⟩ := trodAll_cons hA
  obtain ⟨v1, vs1, d1, ds1, p1, q1, rfl, rfl, rfl, h1, r1⟩ := trodAll_cons r0
  obtain ⟨rfl, rfl, rfl⟩ := trodAll_nil r1
  obtain rfl : args = #[v0, v1] := by cases args; simp_all
  obtain ⟨a, rfl, rfl, rfl, w0⟩ := open_int Try.underlying3 (hval 0 3 v0 rfl rfl) h0
  obtain ⟨b, rfl, rfl, rfl, w1⟩ := open_int Try.underlying3 (hval 1 3 v1 rfl rfl) h1
  clear hA0 hval0
  refine (walk a b w0 w1 W).mono fun e W' ⟨he, hb⟩ => ?_
  subst he
  exact ⟨_, rfl, law_post (by kernel_rfl) (by kernel_rfl) rfl Try.underlying4 rfl hW' rfl hb⟩

theorem over : Rows.numDivsRow.holds Try.pinned (OpenSpec.ofChange Rows.numDivsSpec) :=
  OpenClaim.holds_of_wide 5 Try.f5 rfl rfl rfl rfl rfl rfl rfl ⟨rfl, rfl, rfl, rfl, rfl⟩ rfl rfl rfl rfl rfl (by kernel_rfl) Try.func5 (by kernel_rfl)
    (of_decide_eq_true (by kernel_rfl)) (by unfold Func.isWrapper; first | (rw [if_pos (by decide +kernel)]; kernel_rfl) | (rw [if_neg (by decide +kernel)]; exact ⟨rfl, rfl⟩))
    (fun os started H enc _ => lifted os started H enc)

theorem proved : Rows.NumDivsSaid :=
  over
#print axioms proved
end Go.Proofs.Ytbcpiabamhdjbaa.numDivs
