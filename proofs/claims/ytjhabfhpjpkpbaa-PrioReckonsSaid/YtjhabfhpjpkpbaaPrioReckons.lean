/-
  PrioReckons: of any weights and any job prio.Prio answers what gangerref12.Prio does: so the law returns true for every input.
-/
import Derived.Test.YtjhabfhpjpkpbaaPrioLaw
import Derived.Test.YtjhabfhpjpkpbaaRows
import Derived.Test.YtjhabfhpjpkpbaaArgs2
namespace Go.Proofs.Ytjhabfhpjpkpbaa.prioReckons
open Go.ChangeShapes Go.WideShapes Go.ChangeAt Go.RowKit
set_option linter.unusedVariables false

theorem own : ownKnob Try.prog.godebug = none := by kernel_rfl

set_option maxRecDepth 100000 in
theorem walk (f a s q p id since size nice qos part factor now all : Int) (w : World) (w0_0 : (Lit.int .i64 f).wf = true) (w0_1 : (Lit.int .i64 a).wf = true) (w0_2 : (Lit.int .i64 s).wf = true) (w0_3 : (Lit.int .i64 q).wf = true) (w0_4 : (Lit.int .i64 p).wf = true) (w1_0 : (Lit.int .u32 id).wf = true) (w1_1 : (Lit.int .i64 since).wf = true) (w1_2 : (Lit.int .i64 size).wf = true) (w1_3 : (Lit.int .i64 nice).wf = true) (w1_4 : (Lit.int .i64 qos).wf = true) (w1_5 : (Lit.int .i64 part).wf = true) (w1_6 : (Lit.int .i64 factor).wf = true) (w2 : (Lit.int .i64 now).wf = true) (w3 : (Lit.int .i64 all).wf = true) :
    Calls Try.prog 4 #[.agg #[.int .i64 f, .int .i64 a, .int .i64 s, .int .i64 q, .int .i64 p], .agg #[.int .u32 id, .int .i64 since, .int .i64 size, .int .i64 nice, .int .i64 qos, .int .i64 part, .int .i64 factor], .int .i64 now, .int .i64 all] w fun e w' => e = .returned (.bool true) ∧ Below w.heap.size w w' := by
  have hid : 0 ≤ id := wf_u32_0 w1_0
  have h1 : I64 since := wf_i64' w1_1
  have h2 : I64 size := wf_i64' w1_2
  have h3 : I64 qos := wf_i64' w1_4
  have h4 : I64 part := wf_i64' w1_5
  have h5 : I64 now := wf_i64' w2
  have h6 : I64 all := wf_i64' w3
  clear w0_0 w0_1 w0_2 w0_3 w0_4 w1_0 w1_1 w1_2 w1_3 w1_4 w1_5 w1_6 w2 w3
  have K1 : Hid (∀ w, Calls Try.prog 17 #[.agg #[.int .i64 f, .int .i64 a, .int .i64 s, .int .i64 q, .int .i64 p], .agg #[.int .u32 id, .int .i64 since, .int .i64 size, .int .i64 nice, .int .i64 qos, .int .i64 part, .int .i64 factor], .int .i64 now, .int .i64 all] w
      fun e w' => e = .returned (.tuple #[.int .i64 (prV f a s q p id since size nice qos part factor now all), .int .i64 (prE f a s q p id since nice factor now all)]) ∧ Below w.heap.size w w') := fun w => prio_any f a s q p id since size nice qos part factor now all w h1 h2 h3 h4 h5 h6
  have K2 : Hid (∀ w, Calls Try.prog 18 #[.agg #[.int .i64 f, .int .i64 a, .int .i64 s, .int .i64 q, .int .i64 p], .agg #[.int .u32 id, .int .i64 since, .int .i64 size, .int .i64 nice, .int .i64 qos, .int .i64 part, .int .i64 factor], .int .i64 now, .int .i64 all] w
      fun e w' => e = .returned (.tuple #[.int .i64 (prV f a s q p id since size nice qos part factor now all), .int .i64 (prE f a s q p id since nice factor now all)]) ∧ Below w.heap.size w w') := fun w => refPrio_any f a s q p id since size nice qos part factor now all w hid h1 h2 h3 h4 h5 h6
  generalize prV f a s q p id since size nice qos part factor now all = x at *
  generalize prE f a s q p id since nice factor now all = y at *
  clear hid h1 h2 h3 h4 h5 h6
  go_enter Try.func4, Try.ntmps4
  go_wp2_with fail
  refine (K1.out _).mono ?_; rintro e w1 ⟨rfl, b1⟩
  have B1 : Blk w1 w.heap.size #[.int .i64 f, .int .i64 a, .int .i64 s, .int .i64 q, .int .i64 p] 26 := ((Blk.new _ _ _).old _).kept b1
  have A1 : Blk w1 (w.heap.size + 1) #[.int .u32 id, .int .i64 since, .int .i64 size, .int .i64 nice, .int .i64 qos, .int .i64 part, .int .i64 factor] 29 := (Blk.fresh _ _ _ _ (by simp)).kept b1
  have b1' : Below w.heap.size w w1 := below_next b1 (below_al (below_al (Below.refl _ _) _) _)
  have u1_0 := B1.cell 0; simp at u1_0
  have u1_1 := B1.cell 1; simp at u1_1
  have u1_2 := B1.cell 2; simp at u1_2
  have u1_3 := B1.cell 3; simp at u1_3
  have u1_4 := B1.cell 4; simp at u1_4
  have v1_0 := A1.cell 0; simp at v1_0
  have v1_1 := A1.cell 1; simp at v1_1
  have v1_2 := A1.cell 2; simp at v1_2
  have v1_3 := A1.cell 3; simp at v1_3
  have v1_4 := A1.cell 4; simp at v1_4
  have v1_5 := A1.cell 5; simp at v1_5
  have v1_6 := A1.cell 6; simp at v1_6
  go_wp2_with fail
  refine (K2.out _).mono ?_; rintro e w2 ⟨rfl, b2⟩
  go_wp2_with fail
  refine (known12_any _).mono ?_; rintro e w3 ⟨rfl, b3⟩
  go_wp2_with fail
  go_ret
  exact ⟨rfl, below_next b3 (below_next b2 b1')⟩

set_option maxRecDepth 100000 in
theorem lifted (os : Os) (started : os.Started) (H : Type) (enc : TypeId × Value → H) :
    ReturnsInHanded {} Try.checked os 4 .any (Rows.prioReckonsSpec.pre6 enc Try.prog Try.f4 Rows.prioReckonsRow.domain false) (Rows.prioReckonsSpec.post enc Try.prog Try.f4 false true false false) := by
  refine returnsInHanded_of_change (C := Try.checked) own started (by kernel_rfl) Try.func4
    (ChangeSpec.witness6 (enc := enc) (C := Try.checked) false ⟨#[], #[.agg #[.int .i64 0, .int .i64 0, .int .i64 0, .int .i64 0, .int .i64 0], .agg #[.int .u32 0, .int .i64 0, .int .i64 0, .int .i64 0, .int .i64 0, .int .i64 0, .int .i64 0], .int .i64 0, .int .i64 0], []⟩ 8 (by kernel_rfl) (by kernel_rfl) (by kernel_rfl) (by kernel_rfl)) ?_
  intro W base args ds gs before hval0 hW _ _
  have hval : ∀ (j : Nat) t v, Try.f4.params[j]? = some t → args[j]? = some v → Value.okWide Try.prog W .any base t v := hval0
  have hW' := hW
  obtain ⟨p, q, hA0, hV, rfl, hfz, hnd⟩ := hW
  have hA : DataW.TrodAll enc Try.prog W 0 (fun _ => true) true Try.f4.params.toList args.toList ds p := hA0
  rw [Try.params4] at hA hval
  obtain ⟨v0, vs0, d0, ds0, p0, q0, hargs, rfl, rfl, h0, r0⟩ := trodAll_cons hA
  obtain ⟨v1, vs1, d1, ds1, p1, q1, rfl, rfl, rfl, h1, r1⟩ := trodAll_cons r0
  obtain ⟨v2, vs2, d2, ds2, p2, q2, rfl, rfl, rfl, h2, r2⟩ := trodAll_cons r1
  obtain ⟨v3, vs3, d3, ds3, p3, q3, rfl, rfl, rfl, h3, r3⟩ := trodAll_cons r2
  obtain ⟨rfl, rfl, rfl⟩ := trodAll_nil r3
  obtain rfl : args = #[v0, v1, v2, v3] := by cases args; simp_all
  obtain ⟨cs0, rfl, hs0, hf0⟩ := open_plain_struct Try.underlying26 (by kernel_rfl) (by kernel_rfl) (hval 0 26 v0 rfl rfl) h0
  obtain ⟨c0_0, y0_0, n0_0, e0_0, t0_0⟩ := hf0 0 _ rfl
  obtain ⟨f, rfl, w0_0⟩ := field_int Try.underlying3 t0_0
  obtain ⟨c0_1, y0_1, n0_1, e0_1, t0_1⟩ := hf0 1 _ rfl
  obtain ⟨a, rfl, w0_1⟩ := field_int Try.underlying3 t0_1
  obtain ⟨c0_2, y0_2, n0_2, e0_2, t0_2⟩ := hf0 2 _ rfl
  obtain ⟨s, rfl, w0_2⟩ := field_int Try.underlying3 t0_2
  obtain ⟨c0_3, y0_3, n0_3, e0_3, t0_3⟩ := hf0 3 _ rfl
  obtain ⟨q, rfl, w0_3⟩ := field_int Try.underlying3 t0_3
  obtain ⟨c0_4, y0_4, n0_4, e0_4, t0_4⟩ := hf0 4 _ rfl
  obtain ⟨p, rfl, w0_4⟩ := field_int Try.underlying3 t0_4
  obtain rfl : cs0 = #[.int .i64 f, .int .i64 a, .int .i64 s, .int .i64 q, .int .i64 p] := arr_of cs0 [.int .i64 f, .int .i64 a, .int .i64 s, .int .i64 q, .int .i64 p] hs0 (fun j hj => by match j, hj with | 0, _ => exact e0_0 | 1, _ => exact e0_1 | 2, _ => exact e0_2 | 3, _ => exact e0_3 | 4, _ => exact e0_4 | j + 5, hj => exact absurd hj (by simp))
  obtain ⟨cs1, rfl, hs1, hf1⟩ := open_plain_struct Try.underlying29 (by kernel_rfl) (by kernel_rfl) (hval 1 29 v1 rfl rfl) h1
  obtain ⟨c1_0, y1_0, n1_0, e1_0, t1_0⟩ := hf1 0 _ rfl
  obtain ⟨id, rfl, w1_0⟩ := field_int Try.underlying27 t1_0
  obtain ⟨c1_1, y1_1, n1_1, e1_1, t1_1⟩ := hf1 1 _ rfl
  obtain ⟨since, rfl, w1_1⟩ := field_int Try.underlying3 t1_1
  obtain ⟨c1_2, y1_2, n1_2, e1_2, t1_2⟩ := hf1 2 _ rfl
  obtain ⟨size, rfl, w1_2⟩ := field_int Try.underlying3 t1_2
  obtain ⟨c1_3, y1_3, n1_3, e1_3, t1_3⟩ := hf1 3 _ rfl
  obtain ⟨nice, rfl, w1_3⟩ := field_int Try.underlying3 t1_3
  obtain ⟨c1_4, y1_4, n1_4, e1_4, t1_4⟩ := hf1 4 _ rfl
  obtain ⟨qos, rfl, w1_4⟩ := field_int Try.underlying3 t1_4
  obtain ⟨c1_5, y1_5, n1_5, e1_5, t1_5⟩ := hf1 5 _ rfl
  obtain ⟨part, rfl, w1_5⟩ := field_int Try.underlying3 t1_5
  obtain ⟨c1_6, y1_6, n1_6, e1_6, t1_6⟩ := hf1 6 _ rfl
  obtain ⟨factor, rfl, w1_6⟩ := field_int Try.underlying3 t1_6
  obtain rfl : cs1 = #[.int .u32 id, .int .i64 since, .int .i64 size, .int .i64 nice, .int .i64 qos, .int .i64 part, .int .i64 factor] := arr_of cs1 [.int .u32 id, .int .i64 since, .int .i64 size, .int .i64 nice, .int .i64 qos, .int .i64 part, .int .i64 factor] hs1 (fun j hj => by match j, hj with | 0, _ => exact e1_0 | 1, _ => exact e1_1 | 2, _ => exact e1_2 | 3, _ => exact e1_3 | 4, _ => exact e1_4 | 5, _ => exact e1_5 | 6, _ => exact e1_6 | j + 7, hj => exact absurd hj (by simp))
  obtain ⟨now, rfl, rfl, rfl, w2⟩ := open_int Try.underlying3 (hval 2 3 v2 rfl rfl) h2
  obtain ⟨all, rfl, rfl, rfl, w3⟩ := open_int Try.underlying3 (hval 3 3 v3 rfl rfl) h3
  clear hA0 hval0
  refine (walk f a s q p id since size nice qos part factor now all W w0_0 w0_1 w0_2 w0_3 w0_4 w1_0 w1_1 w1_2 w1_3 w1_4 w1_5 w1_6 w2 w3).mono fun e W' ⟨he, hb⟩ => ?_
  subst he
  exact ⟨_, rfl, law_post (by kernel_rfl) (by kernel_rfl) rfl Try.underlying4 rfl hW' rfl hb⟩

theorem over : Rows.prioReckonsRow.holds Try.pinned (OpenSpec.ofChange Rows.prioReckonsSpec) :=
  OpenClaim.holds_of_wide 4 Try.f4 rfl rfl rfl rfl rfl rfl rfl ⟨rfl, rfl, rfl, rfl, rfl⟩ rfl rfl rfl rfl rfl (by kernel_rfl) Try.func4 (by kernel_rfl)
    (of_decide_eq_true (by kernel_rfl)) (by unfold Func.isWrapper; first | (rw [if_pos (by decide +kernel)]; kernel_rfl) | (rw [if_neg (by decide +kernel)]; exact ⟨rfl, rfl⟩))
    (fun os started H enc _ => lifted os started H enc)

theorem proved : Rows.PrioReckonsSaid :=
  over
#print axioms proved
end Go.Proofs.Ytjhabfhpjpkpbaa.prioReckons
