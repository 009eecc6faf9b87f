/-
  DecayCharges: what any use is charged with is what gangerref02 says: so the law returns true for every input.
-/
import Derived.Test.YtggamihjmggmlaaDecRef3
import Derived.Test.YtggamihjmggmlaaDecKnown
import Derived.Test.YtggamihjmggmlaaRows
import Derived.Test.YtggamihjmggmlaaArgs2
namespace Go.Proofs.Ytggamihjmggmlaa.decayCharges
open Go.ChangeShapes Go.WideShapes Go.ChangeAt Go.RowKit
set_option linter.unusedVariables false

theorem own : ownKnob Try.prog.godebug = none := by kernel_rfl

theorem walk (N At now more h : Int) (w : World) (wN : (Lit.int .i64 N).wf = true) (wA : (Lit.int .i64 At).wf = true) (w1 : (Lit.int .i64 now).wf = true) (w2 : (Lit.int .i64 more).wf = true) (w3 : (Lit.int .i64 h).wf = true) :
    Calls Try.prog 5 #[.agg #[.int .i64 N, .int .i64 At], .int .i64 now, .int .i64 more, .int .i64 h] w fun e w' => e = .returned (.bool true) ∧ Below w.heap.size w w' := by
  have hN : I64 N := wf_i64' wN
  have hm : I64 more := wf_i64' w2
  clear wN wA w1 w2 w3
  go_enter Try.func5, Try.ntmps5
  go_wp2_with fail
  refine (charge_any N At now more h _ hN hm).mono ?_; rintro e w1 ⟨rfl, b1⟩
  obtain ⟨hc1, hf1⟩ := bcell b1
  have z1 := b1.size
  simp only [World.size_alloc] at z1
  have l1 : w.heap.size < w1.heap.size := by omega
  have B1 : Below w.heap.size w w1 := Below.trans (by go_grown) (b1.mono (by simp <;> omega))
  go_wp2_with fail
  refine (Charge_any N At now more h _ hN hm).mono ?_; rintro e w2 ⟨rfl, b2⟩
  obtain ⟨hc2, hf2⟩ := bcell b2
  have z2 := b2.size
  simp only [World.size_alloc] at z2
  have l2 : w1.heap.size < w2.heap.size := by omega
  have B2 : Below w.heap.size w w2 := Below.trans (b := (w1.alloc (Obj.cells #[Value.int IntKind.i64 (chV N At now more h), Value.int IntKind.i64 (chA N At now more h)] 37))) (by have := B1.size; go_grown) (b2.mono (by have := B1.size; simp <;> omega))
  go_wp2_with fail
  refine (known_any _).mono ?_; rintro e w3 ⟨rfl, b3⟩
  go_wp2_with fail
  go_ret
  exact ⟨rfl, below_next b3 (B2.alloc B2.size _)⟩

set_option maxRecDepth 100000 in
theorem lifted (os : Os) (started : os.Started) (H : Type) (enc : TypeId × Value → H) :
    ReturnsInHanded {} Try.checked os 5 .any (Rows.decayChargesSpec.pre6 enc Try.prog Try.f5 Rows.decayChargesRow.domain false) (Rows.decayChargesSpec.post enc Try.prog Try.f5 false true false false) := by
  refine returnsInHanded_of_change (C := Try.checked) own started (by kernel_rfl) Try.func5
    (ChangeSpec.witness6 (enc := enc) (C := Try.checked) false ⟨#[], #[.agg #[.int .i64 0, .int .i64 0], .int .i64 0, .int .i64 0, .int .i64 0], []⟩ 8 (by kernel_rfl) (by kernel_rfl) (by kernel_rfl) (by kernel_rfl)) ?_
  intro W base args ds gs before hval0 hW _ _
  have hval : ∀ (j : Nat) t v, Try.f5.params[j]? = some t → args[j]? = some v → Value.okWide Try.prog W .any base t v := hval0
  have hW' := hW
  obtain ⟨p, q, hA0, hV, rfl, hfz, hnd⟩ := hW
  have hA : DataW.TrodAll enc Try.prog W 0 (fun _ => true) true Try.f5.params.toList args.toList ds p := hA0
  rw [Try.params5] at hA hval
  obtain ⟨v0, vs0, d0, ds0, p0, q0, hargs, rfl, rfl, h0, r0⟩ := trodAll_cons hA
  obtain ⟨v1, vs1, d1, ds1, p1, q1, rfl, rfl, rfl, h1, r1⟩ := trodAll_cons r0
  obtain ⟨v2, vs2, d2, ds2, p2, q2, rfl, rfl, rfl, h2, r2⟩ := trodAll_cons r1
  obtain ⟨v3, vs3, d3, ds3, p3, q3, rfl, rfl, rfl, h3, r3⟩ := trodAll_cons r2
  obtain ⟨rfl, rfl, rfl⟩ := trodAll_nil r3
  obtain rfl : args = #[v0, v1, v2, v3] := by cases args; simp_all
  obtain ⟨cs0, rfl, hs0, hf0⟩ := open_plain_struct Try.underlying37 (by kernel_rfl) (by kernel_rfl) (hval 0 37 v0 rfl rfl) h0
  obtain ⟨c0_0, y0_0, n0_0, e0_0, t0_0⟩ := hf0 0 _ rfl
  obtain ⟨N, rfl, w0_0⟩ := field_int Try.underlying3 t0_0
  obtain ⟨c0_1, y0_1, n0_1, e0_1, t0_1⟩ := hf0 1 _ rfl
  obtain ⟨At, rfl, w0_1⟩ := field_int Try.underlying3 t0_1
  obtain rfl : cs0 = #[.int .i64 N, .int .i64 At] := arr_of cs0 [.int .i64 N, .int .i64 At] hs0 (fun j hj => by match j, hj with | 0, _ => exact e0_0 | 1, _ => exact e0_1 | j + 2, hj => exact absurd hj (by simp))
  obtain ⟨now, rfl, rfl, rfl, w1⟩ := open_int Try.underlying3 (hval 1 3 v1 rfl rfl) h1
  obtain ⟨more, rfl, rfl, rfl, w2⟩ := open_int Try.underlying3 (hval 2 3 v2 rfl rfl) h2
  obtain ⟨h, rfl, rfl, rfl, w3⟩ := open_int Try.underlying3 (hval 3 3 v3 rfl rfl) h3
  clear hA0 hval0
  refine (walk N At now more h W w0_0 w0_1 w1 w2 w3).mono fun e W' ⟨he, hb⟩ => ?_
  subst he
  exact ⟨_, rfl, law_post (by kernel_rfl) (by kernel_rfl) rfl Try.underlying4 rfl hW' rfl hb⟩

theorem over : Rows.decayChargesRow.holds Try.pinned (OpenSpec.ofChange Rows.decayChargesSpec) :=
  OpenClaim.holds_of_wide 5 Try.f5 rfl rfl rfl rfl rfl rfl rfl ⟨rfl, rfl, rfl, rfl, rfl⟩ rfl rfl rfl rfl rfl (by kernel_rfl) Try.func5 (by kernel_rfl)
    (of_decide_eq_true (by kernel_rfl)) (by unfold Func.isWrapper; first | (rw [if_pos (by decide +kernel)]; kernel_rfl) | (rw [if_neg (by decide +kernel)]; exact ⟨rfl, rfl⟩))
    (fun os started H enc _ => lifted os started H enc)

theorem proved : Rows.DecayChargesSaid :=
  over
#print axioms proved
end Go.Proofs.Ytggamihjmggmlaa.decayCharges
