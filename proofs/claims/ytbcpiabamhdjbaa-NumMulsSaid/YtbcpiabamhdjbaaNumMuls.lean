/-
  NumMuls: of any two numbers num.Mul answers what gangerref01.Mul does, and num.Times that or the end beyond which it lies: so the law returns true for every input.
-/
import Derived.Test.YtbcpiabamhdjbaaNumRef4
import Derived.Test.YtbcpiabamhdjbaaNumKnown
import Derived.Test.YtbcpiabamhdjbaaRows
import Derived.Test.YtbcpiabamhdjbaaLaw
namespace Go.Proofs.Ytbcpiabamhdjbaa.numMuls
open Go.ChangeShapes Go.WideShapes Go.ChangeAt Go.RowKit
set_option linter.unusedVariables false

theorem own : ownKnob Try.prog.godebug = none := by kernel_rfl

theorem walk (a b : Int) (w0 : (Lit.int .i64 a).wf = true) (w1 : (Lit.int .i64 b).wf = true) (w : World) :
    Calls Try.prog 4 #[.int .i64 a, .int .i64 b] w fun e w' => e = .returned (.bool true) ∧ Below w.heap.size w w' := by
  have ha : I64 a := wf_i64' w0
  have hb : I64 b := wf_i64' w1
  clear w0 w1
  have f1 := fits_abs ha
  have f2 := fits_abs hb
  have hf := fits_mul f1 f2
  have E : Hid (sg (neB (negB a) (negB b)) (a.natAbs * b.natAbs) = a * b) := (mul_sg a b).symm
  go_enter Try.func4, Try.ntmps4
  go_wp2_with fail
  refine (mul_any a b _ ha hb).mono ?_; rintro e w1 ⟨rfl, rfl⟩
  go_wp2_with fail
  refine (Mul_any a b _ ha hb).mono ?_; rintro e w1 ⟨rfl, b1⟩
  go_wp2_with fail
  refine (times_any a b _ ha hb).mono ?_; rintro e w2 ⟨rfl, rfl⟩
  go_wp2_with fail
  refine (of_any a _ ha).mono ?_; rintro e w3 ⟨rfl, b3⟩
  go_wp2_with fail
  refine (of_any b _ hb).mono ?_; rintro e w4 ⟨rfl, b4⟩
  go_wp2_with fail
  refine (Product_any _ _ _ _ _ f1 f2).mono ?_; rintro e w5 ⟨rfl, b5⟩
  go_wp2_with fail
  refine (End_any _ _ _ hf).mono ?_; rintro e w6 ⟨rfl, b6⟩
  rw [E.out]
  go_wp2_with fail
  refine (known_any _).mono ?_; rintro e w7 ⟨rfl, b7⟩
  go_wp2_with fail
  go_ret
  exact ⟨rfl, below_next b7 (below_next b6 (below_next b5 (below_next b4 (below_next b3 b1))))⟩

set_option maxRecDepth 100000 in
theorem lifted (os : Os) (started : os.Started) (H : Type) (enc : TypeId × Value → H) :
    ReturnsInHanded {} Try.checked os 4 .any (Rows.numMulsSpec.pre6 enc Try.prog Try.f4 Rows.numMulsRow.domain false) (Rows.numMulsSpec.post enc Try.prog Try.f4 false true false false) := by
  refine returnsInHanded_of_change (C := Try.checked) own started (by kernel_rfl) Try.func4
    (ChangeSpec.witness6 (enc := enc) (C := Try.checked) false ⟨#[], #[.int .i64 0, .int .i64 0], []⟩ 8 (by kernel_rfl) (by kernel_rfl) (by kernel_rfl) (by kernel_rfl)) ?_
  intro W base args ds gs before hval0 hW _ _
  have hval : ∀ (j : Nat) t v, Try.f4.params[j]? = some t → args[j]? = some v → Value.okWide Try.prog W .any base t v := hval0
  have hW' := hW
  obtain ⟨p, q, hA0, hV, rfl, hfz, hnd⟩ := hW
  have hA : DataW.TrodAll enc Try.prog W 0 (fun _ => true) true Try.f4.params.toList args.toList ds p := hA0
  rw [Try.params4] at hA hval
  obtain ⟨v0, vs0, d0, ds0, p0, q0, hargs, rfl, rfl, h0, r0⟩ := trodAll_cons hA
  obtain ⟨v1, vs1, d1, ds1, p1, q1, rfl, rfl, rfl, h1, r1⟩ := trodAll_cons r0
  obtain ⟨rfl, rfl, rfl⟩ := trodAll_nil r1
  obtain rfl : args = #[v0, v1] := by cases args; simp_all
  obtain ⟨a, rfl, rfl, rfl, w0⟩ := open_int Try.underlying3 (hval 0 3 v0 rfl rfl) h0
  obtain ⟨b, rfl, rfl, rfl, w1⟩ := open_int Try.underlying3 (hval 1 3 v1 rfl rfl) h1
  clear hA0 hval0
  refine (walk a b w0 w1 W).mono fun e W' ⟨he, hb⟩ => ?_
  subst he
  exact ⟨_, rfl, law_post (by kernel_rfl) (by kernel_rfl) rfl Try.underlying4 rfl hW' rfl hb⟩

theorem over : Rows.numMulsRow.holds Try.pinned (OpenSpec.ofChange Rows.numMulsSpec) :=
  OpenClaim.holds_of_wide 4 Try.f4 rfl rfl rfl rfl rfl rfl rfl ⟨rfl, rfl, rfl, rfl, rfl⟩ rfl rfl rfl rfl rfl (by kernel_rfl) Try.func4 (by kernel_rfl)
    (of_decide_eq_true (by kernel_rfl)) (by unfold Func.isWrapper; first | (rw [if_pos (by decide +kernel)]; kernel_rfl) | (rw [if_neg (by decide +kernel)]; exact ⟨rfl, rfl⟩))
    (fun os started H enc _ => lifted os started H enc)

theorem proved : Rows.NumMulsSaid :=
  over
#print axioms proved
end Go.Proofs.Ytbcpiabamhdjbaa.numMuls
