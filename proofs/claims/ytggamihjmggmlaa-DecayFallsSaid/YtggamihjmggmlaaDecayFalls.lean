/-
  DecayFalls: later a use counts for no more, at first it is as it was; more used counts for no less: so the law returns true for every input.
-/
import Derived.Test.YtggamihjmggmlaaDecMath
import Derived.Test.YtggamihjmggmlaaDecKnown
import Derived.Test.YtggamihjmggmlaaRows
import Derived.Test.YtggamihjmggmlaaArgs2
namespace Go.Proofs.Ytggamihjmggmlaa.decayFalls
open Go.ChangeShapes Go.WideShapes Go.ChangeAt Go.RowKit
set_option linter.unusedVariables false

theorem own : ownKnob Try.prog.godebug = none := by kernel_rfl

/-- How two answers that may be errors stand to one another, as the law asks it. -/
theorem pair (E x y a b : Int) (hx : E = 2 ∨ E = 0 ∧ (x ≤ y → b ≤ a) ∧ (y ≤ x → a ≤ b)) :
    E = 2 ∨ E = 0 ∧ ((decide (x ≤ y) = true ∧ decide (a < b) = false ∧ decide (y ≤ x) = false) ∨ (decide (x ≤ y) = true ∧ decide (a < b) = false ∧ decide (y ≤ x) = true ∧ decide (b < a) = false) ∨
      (decide (x ≤ y) = false ∧ decide (y ≤ x) = true ∧ decide (b < a) = false)) := by
  simp only [decide_eq_true_eq, decide_eq_false_iff_not]; omega

set_option maxHeartbeats 3200000 in
theorem walk (n m t u h : Int) (w : World) (w0 : (Lit.int .i64 n).wf = true) (w1 : (Lit.int .i64 m).wf = true) (w2 : (Lit.int .i64 t).wf = true) (w3 : (Lit.int .i64 u).wf = true) (w4 : (Lit.int .i64 h).wf = true) :
    Calls Try.prog 6 #[.int .i64 n, .int .i64 m, .int .i64 t, .int .i64 u, .int .i64 h] w fun e w' => e = .returned (.bool true) ∧ Below w.heap.size w w' := by
  have hn : I64 n := wf_i64' w0
  have hm : I64 m := wf_i64' w1
  clear w0 w1 w2 w3 w4
  by_cases c : FacOk t h ∧ 0 ≤ n
  · obtain ⟨⟨c1, c2, c3, c4⟩, c5⟩ := c
    obtain ⟨N, rfl⟩ := Int.eq_ofNat_of_zero_le c5
    obtain ⟨T, rfl⟩ := Int.eq_ofNat_of_zero_le c1
    obtain ⟨G, rfl⟩ := Int.eq_ofNat_of_zero_le (a := h) (by omega)
    have hn2 := hn.2
    have A1 : Hid (∀ w, Calls Try.prog 13 #[.int .i64 N, .int .i64 T, .int .i64 G] w fun e w' => e = .returned (.tuple #[.int .i64 (aftN N T G : Nat), .int .i64 0]) ∧ Below w.heap.size w w') :=
      fun w => after_ok N T G w (by omega) (by omega) (by omega) (by omega)
    have A2 : Hid (∀ w, Calls Try.prog 13 #[.int .i64 N, .int .i64 0, .int .i64 G] w fun e w' => e = .returned (.tuple #[.int .i64 N, .int .i64 0]) ∧ Below w.heap.size w w') := fun w => by
      have := after_ok N 0 G w (by omega) (by omega) (by omega) (by omega)
      rw [aftN_zero] at this; exact this
    have A3 : Hid (∀ w, Calls Try.prog 13 #[.int .i64 N, .int .i64 u, .int .i64 G] w fun e w' => e = .returned (.tuple #[.int .i64 (aftV N u G), .int .i64 (aftE N u G)]) ∧ Below w.heap.size w w') := fun w => after_any _ _ _ w hn
    have A4 : Hid (∀ w, Calls Try.prog 13 #[.int .i64 m, .int .i64 T, .int .i64 G] w fun e w' => e = .returned (.tuple #[.int .i64 (aftV m T G), .int .i64 (aftE m T G)]) ∧ Below w.heap.size w w') := fun w => after_any _ _ _ w hm
    have le1 : aftN N T G ≤ N := Nat.le_trans (aftN_le (by omega)) (Nat.div_le_self _ _)
    have F3 := pair (aftE N u G) T u (aftN N T G : Nat) (aftV N u G) (by
      by_cases k : FacOk u G ∧ 0 ≤ (N : Int)
      · refine .inr ⟨by simp [aftE, k], fun h => ?_, fun h => ?_⟩ <;> (rw [aftV, if_pos k]; have := k.1.1; simp only [Int.toNat_natCast])
        · exact Int.ofNat_le.2 (aftN_anti (by omega) (by omega))
        · exact Int.ofNat_le.2 (aftN_anti (by omega) (by omega))
      · exact .inl (by rw [aftE, if_neg k]))
    have F4 := pair (aftE m T G) N m (aftV m T G) (aftN N T G : Nat) (by
      by_cases k : FacOk T G ∧ 0 ≤ m
      · refine .inr ⟨by simp [aftE, k], fun h => ?_, fun h => ?_⟩ <;> (rw [aftV, if_pos k]; have := k.2; simp only [Int.toNat_natCast])
        · exact Int.ofNat_le.2 (aftN_mono (by omega))
        · exact Int.ofNat_le.2 (aftN_mono (by omega))
      · exact .inl (by rw [aftE, if_neg k]))
    have d1 : decide (N < aftN N T G) = false := decide_eq_false (by omega)
    generalize aftN N T G = a at *
    generalize aftV N u G = b at *
    generalize aftV m T G = d at *
    generalize aftE N u G = eb at *
    generalize aftE m T G = ed at *
    have d2 : decide ((a : Int) < 0) = false := decide_eq_false (by omega)
    have d1' : decide ((N : Int) < a) = false := decide_eq_false (by omega)
    clear le1 c1 c2 c3 c4 c5 hn hm hn2
    rcases F3 with rfl | ⟨rfl, ⟨f1, f2, f3⟩ | ⟨f1, f2, f3, f4⟩ | ⟨f1, f2, f3⟩⟩
    all_goals rcases F4 with rfl | ⟨rfl, ⟨g1, g2, g3⟩ | ⟨g1, g2, g3, g4⟩ | ⟨g1, g2, g3⟩⟩
    all_goals
      go_enter Try.func6, Try.ntmps6
      go_wp2_with fail
      refine (A1.out _).mono ?_; rintro e w1 ⟨rfl, b1⟩
      go_wp2_with fail
      refine (A2.out _).mono ?_; rintro e w2 ⟨rfl, b2⟩
      go_wp2_with fail
      refine (A3.out _).mono ?_; rintro e w3 ⟨rfl, b3⟩
      go_wp2_with fail
      refine (A4.out _).mono ?_; rintro e w4 ⟨rfl, b4⟩
      go_wp2_with fail
      refine (known_any _).mono ?_; rintro e w5 ⟨rfl, b5⟩
      go_wp2_with fail
      go_ret
      exact ⟨rfl, below_next b5 (below_next b4 (below_next b3 (below_next b2 b1)))⟩
  · have A1 : Hid (∀ w, Calls Try.prog 13 #[.int .i64 n, .int .i64 t, .int .i64 h] w fun e w' => e = .returned (.tuple #[.int .i64 0, .int .i64 2]) ∧ Below w.heap.size w w') := fun w => after_no _ _ _ w c
    clear c
    go_enter Try.func6, Try.ntmps6
    go_wp2_with fail
    refine (A1.out _).mono ?_; rintro e w1 ⟨rfl, b1⟩
    go_wp2_with fail
    refine (known_any _).mono ?_; rintro e w5 ⟨rfl, b5⟩
    go_wp2_with fail
    go_ret
    exact ⟨rfl, below_next b5 b1⟩

set_option maxRecDepth 100000 in
theorem lifted (os : Os) (started : os.Started) (H : Type) (enc : TypeId × Value → H) :
    ReturnsInHanded {} Try.checked os 6 .any (Rows.decayFallsSpec.pre6 enc Try.prog Try.f6 Rows.decayFallsRow.domain false) (Rows.decayFallsSpec.post enc Try.prog Try.f6 false true false false) := by
  refine returnsInHanded_of_change (C := Try.checked) own started (by kernel_rfl) Try.func6
    (ChangeSpec.witness6 (enc := enc) (C := Try.checked) false ⟨#[], #[.int .i64 0, .int .i64 0, .int .i64 0, .int .i64 0, .int .i64 0], []⟩ 8 (by kernel_rfl) (by kernel_rfl) (by kernel_rfl) (by kernel_rfl)) ?_
  intro W base args ds gs before hval0 hW _ _
  have hval : ∀ (j : Nat) t v, Try.f6.params[j]? = some t → args[j]? = some v → Value.okWide Try.prog W .any base t v := hval0
  have hW' := hW
  obtain ⟨p, q, hA0, hV, rfl, hfz, hnd⟩ := hW
  have hA : DataW.TrodAll enc Try.prog W 0 (fun _ => true) true Try.f6.params.toList args.toList ds p := hA0
  rw [Try.params6] at hA hval
  obtain ⟨v0, vs0, d0, ds0, p0, q0, hargs, rfl, rfl, h0, r0⟩ := trodAll_cons hA
  obtain ⟨v1, vs1, d1, ds1, p1, q1, rfl, rfl, rfl, h1, r1⟩ := trodAll_cons r0
  obtain ⟨v2, vs2, d2, ds2, p2, q2, rfl, rfl, rfl, h2, r2⟩ := trodAll_cons r1
  obtain ⟨v3, vs3, d3, ds3, p3, q3, rfl, rfl, rfl, h3, r3⟩ := trodAll_cons r2
  obtain ⟨v4, vs4, d4, ds4, p4, q4, rfl, rfl, rfl, h4, r4⟩ := trodAll_cons r3
  obtain ⟨rfl, rfl, rfl⟩ := trodAll_nil r4
  obtain rfl : args = #[v0, v1, v2, v3, v4] := by cases args; simp_all
  obtain ⟨n, rfl, rfl, rfl, w0⟩ := open_int Try.underlying3 (hval 0 3 v0 rfl rfl) h0
  obtain ⟨m, rfl, rfl, rfl, w1⟩ := open_int Try.underlying3 (hval 1 3 v1 rfl rfl) h1
  obtain ⟨t, rfl, rfl, rfl, w2⟩ := open_int Try.underlying3 (hval 2 3 v2 rfl rfl) h2
  obtain ⟨u, rfl, rfl, rfl, w3⟩ := open_int Try.underlying3 (hval 3 3 v3 rfl rfl) h3
  obtain ⟨h, rfl, rfl, rfl, w4⟩ := open_int Try.underlying3 (hval 4 3 v4 rfl rfl) h4
  clear hA0 hval0
  refine (walk n m t u h W w0 w1 w2 w3 w4).mono fun e W' ⟨he, hb⟩ => ?_
  subst he
  exact ⟨_, rfl, law_post (by kernel_rfl) (by kernel_rfl) rfl Try.underlying4 rfl hW' rfl hb⟩

theorem over : Rows.decayFallsRow.holds Try.pinned (OpenSpec.ofChange Rows.decayFallsSpec) :=
  OpenClaim.holds_of_wide 6 Try.f6 rfl rfl rfl rfl rfl rfl rfl ⟨rfl, rfl, rfl, rfl, rfl⟩ rfl rfl rfl rfl rfl (by kernel_rfl) Try.func6 (by kernel_rfl)
    (of_decide_eq_true (by kernel_rfl)) (by unfold Func.isWrapper; first | (rw [if_pos (by decide +kernel)]; kernel_rfl) | (rw [if_neg (by decide +kernel)]; exact ⟨rfl, rfl⟩))
    (fun os started H enc _ => lifted os started H enc)

theorem proved : Rows.DecayFallsSaid :=
  over
#print axioms proved
end Go.Proofs.Ytggamihjmggmlaa.decayFalls
