/-
  NumUps: of any number num.Up answers the next power of two and its exponent, as gangerref01.Up does: so the law returns true for every input.
-/
import Derived.Test.YtbcpiabamhdjbaaNumUp
import Derived.Test.YtbcpiabamhdjbaaNumKnown
import Derived.Test.YtbcpiabamhdjbaaRows
import Derived.Test.YtbcpiabamhdjbaaLaw
namespace Go.Proofs.Ytbcpiabamhdjbaa.numUps
open Go.ChangeShapes Go.WideShapes Go.ChangeAt Go.RowKit
set_option linter.unusedVariables false

theorem own : ownKnob Try.prog.godebug = none := by kernel_rfl

theorem walk (n : Int) (w0 : (Lit.int .i64 n).wf = true) (w : World) :
    Calls Try.prog 9 #[.int .i64 n] w fun e w' => e = .returned (.bool true) ∧ Below w.heap.size w w' := by
  have hn : I64 n := wf_i64' w0
  clear w0
  have A : Hid (∀ w, Calls Try.prog 28 #[.int .i64 n] w fun e w' => e = .returned (.tuple #[.int .i64 (upP n), .int .i64 (upK n : Nat)]) ∧ w' = w) := fun w => up_any n w hn
  have B : Hid (∀ w, Calls Try.prog 29 #[.int .i64 n] w fun e w' => e = .returned (.tuple #[.int .i64 (upP n), .int .i64 (upK n : Nat)]) ∧ w' = w) := fun w => Up_any n w hn
  by_cases c : 1 ≤ n ∧ n ≤ 4611686018427387904
  · obtain ⟨n1, n2⟩ := c
    have d1 : decide (1 ≤ n) = true := decide_eq_true n1
    have d2 : decide (n ≤ 4611686018427387904) = true := decide_eq_true n2
    obtain ⟨u1, u2, u3⟩ := up_facts n1 n2
    have e := upP_eq n1 n2
    have up : (2 : Nat) ^ upK n ≤ 2 ^ 62 := Nat.pow_le_pow_right (by omega) u1
    have half : ((2 ^ upK n : Nat) : Int) / 2 < n := by
      by_cases h : 0 < upK n
      · have e2 : 2 ^ upK n = 2 ^ (upK n - 1) * 2 := by rw [← Nat.pow_succ, show (upK n - 1).succ = upK n by omega]
        have := u3 h
        rw [e2]; omega
      · have : upK n = 0 := by omega
        rw [this]; omega
    have pw : (2 : Int) ^ upK n = ((2 ^ upK n : Nat) : Int) := by simp
    rw [← e] at u2 half pw
    have hP1 : upP n ≤ 4611686018427387904 := by rw [e]; omega
    clear up u3 e
    generalize upP n = p at *
    generalize upK n = k at *
    have k62 : (k : Int) ≤ 62 := by omega
    have d3 : decide (p < n) = false := decide_eq_false (by omega)
    have d4 : decide (n ≤ p / 2) = false := decide_eq_false (by omega)
    have p0 : 0 ≤ p := by omega
    have W : wrap64 ((2 : Int) ^ k) = p := by rw [pw]; exact IntWalk.wrap64_in _ ⟨by omega, by omega⟩
    clear pw half u2 u1 n1 n2
    go_enter Try.func9, Try.ntmps9
    go_wp2_with fail
    refine (A.out _).mono ?_; rintro e w1 ⟨rfl, rfl⟩
    go_wp2_with fail
    refine (B.out _).mono ?_; rintro e w1 ⟨rfl, rfl⟩
    go_wp2_with fail
    go_ways
    refine (known_any _).mono ?_; rintro e w7 ⟨rfl, b7⟩
    go_wp2_with fail
    go_ret
    exact ⟨rfl, b7⟩
  · have d : decide (1 ≤ n) = false ∨ decide (1 ≤ n) = true ∧ decide (n ≤ 4611686018427387904) = false := by
      simp only [decide_eq_true_eq, decide_eq_false_iff_not]; omega
    clear c
    generalize upP n = p at *
    generalize upK n = k at *
    rcases d with d | ⟨d, d'⟩
    all_goals
      go_enter Try.func9, Try.ntmps9
      go_wp2_with fail
      refine (A.out _).mono ?_; rintro e w1 ⟨rfl, rfl⟩
      go_wp2_with fail
      refine (B.out _).mono ?_; rintro e w1 ⟨rfl, rfl⟩
      go_wp2_with fail
      refine (known_any _).mono ?_; rintro e w7 ⟨rfl, b7⟩
      go_wp2_with fail
      go_ret
      exact ⟨rfl, b7⟩

set_option maxRecDepth 100000 in
theorem lifted (os : Os) (started : os.Started) (H : Type) (enc : TypeId × Value → H) :
    ReturnsInHanded {} Try.checked os 9 .any (Rows.numUpsSpec.pre6 enc Try.prog Try.f9 Rows.numUpsRow.domain false) (Rows.numUpsSpec.post enc Try.prog Try.f9 false true false false) := by
  refine returnsInHanded_of_change (C := Try.checked) own started (by kernel_rfl) Try.func9
    (ChangeSpec.witness6 (enc := enc) (C := Try.checked) false ⟨#[], #[.int .i64 0], []⟩ 8 (by kernel_rfl) (by kernel_rfl) (by kernel_rfl) (by kernel_rfl)) ?_
  intro W base args ds gs before hval0 hW _ _
  have hval : ∀ (j : Nat) t v, Try.f9.params[j]? = some t → args[j]? = some v → Value.okWide Try.prog W .any base t v := hval0
  have hW' := hW
  obtain ⟨p, q, hA0, hV, rfl, hfz, hnd⟩ := hW
  have hA : DataW.TrodAll enc Try.prog W 0 (fun _ => true) true Try.f9.params.toList args.toList ds p := hA0
  rw [Try.params9] at hA hval
  obtain ⟨v0, vs0, d0, ds0, p0, q0, hargs, rfl, rfl, h0, r0⟩ := trodAll_cons hA
  obtain ⟨rfl, rfl, rfl⟩ := trodAll_nil r0
  obtain rfl : args = #[v0] := by cases args; simp_all
  obtain ⟨n, rfl, rfl, rfl, w0⟩ := open_int Try.underlying3 (hval 0 3 v0 rfl rfl) h0
  clear hA0 hval0
  refine (walk n w0 W).mono fun e W' ⟨he, hb⟩ => ?_
  subst he
  exact ⟨_, rfl, law_post (by kernel_rfl) (by kernel_rfl) rfl Try.underlying4 rfl hW' rfl hb⟩

theorem over : Rows.numUpsRow.holds Try.pinned (OpenSpec.ofChange Rows.numUpsSpec) :=
  OpenClaim.holds_of_wide 9 Try.f9 rfl rfl rfl rfl rfl rfl rfl ⟨rfl, rfl, rfl, rfl, rfl⟩ rfl rfl rfl rfl rfl (by kernel_rfl) Try.func9 (by kernel_rfl)
    (of_decide_eq_true (by kernel_rfl)) (by unfold Func.isWrapper; first | (rw [if_pos (by decide +kernel)]; kernel_rfl) | (rw [if_neg (by decide +kernel)]; exact ⟨rfl, rfl⟩))
    (fun os started H enc _ => lifted os started H enc)

theorem proved : Rows.NumUpsSaid :=
  over
#print axioms proved
end Go.Proofs.Ytbcpiabamhdjbaa.numUps
