/-
  NumCuts: a number that num.Cut cuts is the nearest one between the ends, the same cut again, of each of four types: so the law returns true for every input.
-/
import Derived.Test.YtbcpiabamhdjbaaCut
import Derived.Test.YtbcpiabamhdjbaaNumKnown
import Derived.Test.YtbcpiabamhdjbaaRows
import Derived.Test.YtbcpiabamhdjbaaLaw
namespace Go.Proofs.Ytbcpiabamhdjbaa.numCuts
open Go.ChangeShapes Go.WideShapes Go.ChangeAt Go.RowKit
set_option linter.unusedVariables false

theorem own : ownKnob Try.prog.godebug = none := by kernel_rfl

theorem cutV_mem (n a b : Int) : cutV n a b = a ∨ cutV n a b = b ∨ cutV n a b = n := by unfold cutV; split <;> (try split) <;> simp
theorem cutV_again (n a b : Int) : cutV (cutV n a b) a b = cutV n a b := by unfold cutV; split <;> (try split) <;> (try split) <;> omega
theorem cutV_bd (n a b lo hi : Int) (a1 : lo ≤ a) (a2 : a ≤ hi) (b1 : lo ≤ b) (b2 : b ≤ hi) : lo ≤ cutV n a b ∧ cutV n a b ≤ hi := by unfold cutV; split <;> (try split) <;> omega

theorem between_cut (n a b x : Int) (w : World) (h : Hid (x = cutV n a b)) :
    Calls Try.prog 34 #[.int .i64 n, .int .i64 a, .int .i64 b, .int .i64 x] w fun e w' => e = .returned (.bool true) ∧ w' = w := by
  by_cases c : b < a ∨ n < a
  · have e : (x == a) = true := by rw [h.out]; simp [cutV, c]
    have t : decide (b < a) = true ∨ decide (b < a) = false ∧ decide (n < a) = true := by
      simp only [decide_eq_true_eq, decide_eq_false_iff_not]; omega
    clear c
    rcases t with t | ⟨t, t'⟩
    all_goals
      go_enter Try.func34, Try.ntmps34
      go_wp2
      go_ret
      exact ⟨rfl, rfl⟩
  · have t1 : decide (b < a) = false := decide_eq_false (by omega)
    have t2 : decide (n < a) = false := decide_eq_false (by omega)
    by_cases c2 : b < n
    · have e : (x == b) = true := by rw [h.out]; simp [cutV, c, c2]
      have t3 : decide (b < n) = true := decide_eq_true c2
      clear c c2
      go_enter Try.func34, Try.ntmps34
      go_wp2
      go_ret
      exact ⟨rfl, rfl⟩
    · have e : (x == n) = true := by rw [h.out]; simp [cutV, c, c2]
      have t3 : decide (b < n) = false := decide_eq_false c2
      clear c c2
      go_enter Try.func34, Try.ntmps34
      go_wp2
      go_ret
      exact ⟨rfl, rfl⟩

theorem wrap32_bd (a : Int) : -2147483648 ≤ wrap32 a ∧ wrap32 a ≤ 2147483647 := by unfold wrap32; omega
theorem wrap16_bd (a : Int) : -32768 ≤ IntKind.i16.wrap a ∧ IntKind.i16.wrap a ≤ 32767 := by
  simp only [IntKind.wrap, IntKind.bits, IntKind.signed]; simp; split <;> omega
theorem wrap8_bd (a : Int) : -128 ≤ IntKind.i8.wrap a ∧ IntKind.i8.wrap a ≤ 127 := by
  simp only [IntKind.wrap, IntKind.bits, IntKind.signed]; simp; split <;> omega

theorem walk (n a b : Int) (w0 : (Lit.int .i64 n).wf = true) (w1 : (Lit.int .i64 a).wf = true) (w2 : (Lit.int .i64 b).wf = true) (w : World) :
    Calls Try.prog 10 #[.int .i64 n, .int .i64 a, .int .i64 b] w fun e w' => e = .returned (.bool true) ∧ Below w.heap.size w w' := by
  have hn : I64 n := wf_i64' w0
  have ha : I64 a := wf_i64' w1
  have hb : I64 b := wf_i64' w2
  clear w0 w1 w2
  have p1 := wrap32_bd a
  have p2 := wrap32_bd b
  have q1 := wrap16_bd a
  have q2 := wrap16_bd b
  have r1 := wrap8_bd a
  have r2 := wrap8_bd b
  have p3 := cutV_bd n (wrap32 a) (wrap32 b) _ _ p1.1 p1.2 p2.1 p2.2
  have q3 := cutV_bd n (IntKind.i16.wrap a) (IntKind.i16.wrap b) _ _ q1.1 q1.2 q2.1 q2.2
  have r3 := cutV_bd n (IntKind.i8.wrap a) (IntKind.i8.wrap b) _ _ r1.1 r1.2 r2.1 r2.2
  have s3 := cutV_bd n a b _ _ ha.1 ha.2 hb.1 hb.2
  have again := Lib.hid (cutV_again n a b)
  go_enter Try.func10, Try.ntmps10
  go_wp2_with fail
  refine (cut_i64 n a b _ hn ha.1 ha.2 hb.1 hb.2).mono ?_; rintro e w1 ⟨rfl, rfl⟩
  go_wp2_with fail
  trace_state
  refine (cut_i32 n _ _ _ hn p1.1 p1.2 p2.1 p2.2).mono ?_; rintro e w1 ⟨rfl, rfl⟩
  go_wp2_with fail
  refine (cut_i16 n _ _ _ hn q1.1 q1.2 q2.1 q2.2).mono ?_; rintro e w1 ⟨rfl, rfl⟩
  go_wp2_with fail
  refine (cut_i8 n _ _ _ hn r1.1 r1.2 r2.1 r2.2).mono ?_; rintro e w1 ⟨rfl, rfl⟩
  go_wp2_with fail
  refine (between_cut n a b _ _ (by show _ = _; rfl)).mono ?_; rintro e w1 ⟨rfl, rfl⟩
  go_wp2_with fail
  refine (between_cut n _ _ _ _ (by show _ = _; rfl)).mono ?_; rintro e w1 ⟨rfl, rfl⟩
  go_wp2_with fail
  refine (between_cut n _ _ _ _ (by show _ = _; rfl)).mono ?_; rintro e w1 ⟨rfl, rfl⟩
  go_wp2_with fail
  refine (between_cut n _ _ _ _ (by show _ = _; rfl)).mono ?_; rintro e w1 ⟨rfl, rfl⟩
  go_wp2_with fail
  refine (cut_i64 _ a b _ s3 ha.1 ha.2 hb.1 hb.2).mono ?_; rintro e w1 ⟨rfl, rfl⟩
  rw [again.out]
  go_wp2_with fail
  refine (known_any _).mono ?_; rintro e w7 ⟨rfl, b7⟩
  go_wp2_with fail
  go_ret
  exact ⟨rfl, b7⟩

set_option maxRecDepth 100000 in
theorem lifted (os : Os) (started : os.Started) (H : Type) (enc : TypeId × Value → H) :
    ReturnsInHanded {} Try.checked os 10 .any (Rows.numCutsSpec.pre6 enc Try.prog Try.f10 Rows.numCutsRow.domain false) (Rows.numCutsSpec.post enc Try.prog Try.f10 false true false false) := by
  refine returnsInHanded_of_change (C := Try.checked) own started (by kernel_rfl) Try.func10
    (ChangeSpec.witness6 (enc := enc) (C := Try.checked) false ⟨#[], #[.int .i64 0, .int .i64 0, .int .i64 0], []⟩ 8 (by kernel_rfl) (by kernel_rfl) (by kernel_rfl) (by kernel_rfl)) ?_
  intro W base args ds gs before hval0 hW _ _
  have hval : ∀ (j : Nat) t v, Try.f10.params[j]? = some t → args[j]? = some v → Value.okWide Try.prog W .any base t v := hval0
  have hW' := hW
  obtain ⟨p, q, hA0, hV, rfl, hfz, hnd⟩ := hW
  have hA : DataW.TrodAll enc Try.prog W 0 (fun _ => true) true Try.f10.params.toList args.toList ds p := hA0
  rw [Try.params10] at hA hval
  obtain ⟨v0, vs0, d0, ds0, p0, q0, hargs, rfl, rfl, h0, r0⟩ := trodAll_cons hA
  obtain ⟨v1, vs1, d1, ds1, p1, q1, rfl, rfl, rfl, h1, r1⟩ := trodAll_cons r0
  obtain ⟨v2, vs2, d2, ds2, p2, q2, rfl, rfl, rfl, h2, r2⟩ := trodAll_cons r1
  obtain ⟨rfl, rfl, rfl⟩ := trodAll_nil r2
  obtain rfl : args = #[v0, v1, v2] := by cases args; simp_all
  obtain ⟨n, rfl, rfl, rfl, w0⟩ := open_int Try.underlying3 (hval 0 3 v0 rfl rfl) h0
  obtain ⟨a, rfl, rfl, rfl, w1⟩ := open_int Try.underlying3 (hval 1 3 v1 rfl rfl) h1
  obtain ⟨b, rfl, rfl, rfl, w2⟩ := open_int Try.underlying3 (hval 2 3 v2 rfl rfl) h2
  clear hA0 hval0
  refine (walk n a b w0 w1 w2 W).mono fun e W' ⟨he, hb⟩ => ?_
  subst he
  exact ⟨_, rfl, law_post (by kernel_rfl) (by kernel_rfl) rfl Try.underlying4 rfl hW' rfl hb⟩

theorem over : Rows.numCutsRow.holds Try.pinned (OpenSpec.ofChange Rows.numCutsSpec) :=
  OpenClaim.holds_of_wide 10 Try.f10 rfl rfl rfl rfl rfl rfl rfl ⟨rfl, rfl, rfl, rfl, rfl⟩ rfl rfl rfl rfl rfl (by kernel_rfl) Try.func10 (by kernel_rfl)
    (of_decide_eq_true (by kernel_rfl)) (by unfold Func.isWrapper; first | (rw [if_pos (by decide +kernel)]; kernel_rfl) | (rw [if_neg (by decide +kernel)]; exact ⟨rfl, rfl⟩))
    (fun os started H enc _ => lifted os started H enc)

theorem proved : Rows.NumCutsSaid :=
  over
#print axioms proved
end Go.Proofs.Ytbcpiabamhdjbaa.numCuts
