/-
  PrioBound: a priority and the nice together lie between 0 and all weights; with all factors whole it is these: so the law returns true for every input.
-/
import Derived.Test.YtjhabfhpjpkpbaaPrioLaw
import Derived.Test.YtjhabfhpjpkpbaaRows
import Derived.Test.YtjhabfhpjpkpbaaArgs2
namespace Go.Proofs.Ytjhabfhpjpkpbaa.prioBound
open Go.ChangeShapes Go.WideShapes Go.ChangeAt Go.RowKit
set_option linter.unusedVariables false

theorem own : ownKnob Try.prog.godebug = none := by kernel_rfl

theorem part_bd {f x : Int} (h : 0 ≤ f) (hx : 0 ≤ x ∧ x ≤ 65536) : 0 ≤ f * x / 65536 ∧ f * x / 65536 ≤ f := by
  have h1 : 0 ≤ f * x := Int.mul_nonneg h hx.1
  have h2 : f * x ≤ f * 65536 := Int.mul_le_mul_of_nonneg_left hx.2 h
  omega
theorem sum_bd (f a s q p since size qos part factor now all : Int) (h : 0 ≤ f ∧ 0 ≤ a ∧ 0 ≤ s ∧ 0 ≤ q ∧ 0 ≤ p ∧ 0 ≤ factor ∧ factor ≤ 65536) :
    0 ≤ prSum f a s q p since size qos part factor now all ∧ prSum f a s q p since size qos part factor now all ≤ f + a + s + q + p := by
  unfold prSum
  have m0 := part_bd (f := f) (x := factor) h.1 ⟨h.2.2.2.2.2.1, h.2.2.2.2.2.2⟩
  have m1 := part_bd (f := a) h.2.1 (ageV_bd since now)
  have m2 := part_bd (f := s) h.2.2.1 (sizeV_bd size all)
  have m3 := part_bd (f := q) h.2.2.2.1 (ofV_bd qos 1048576)
  have m4 := part_bd (f := p) h.2.2.2.2.1 (ofV_bd part 1048576)
  omega
theorem top_sum (f a s q p all : Int) (h : 1 ≤ all) : prSum f a s q p 0 all 1048576 1048576 65536 1048576 all = f + a + s + q + p := by
  unfold prSum
  have e1 : ageV 0 1048576 = 65536 := by decide
  have e2 : sizeV all all = 65536 := by unfold sizeV; rw [if_neg (by omega)]; exact ofV_top h (Int.le_refl _)
  have e3 : ofV 1048576 1048576 = 65536 := by decide
  rw [e1, e2, e3]
  omega

set_option maxRecDepth 100000 in
set_option maxHeartbeats 2000000 in
theorem walk (f a s q p id since size nice qos part factor now all : Int) (w : World) (w0_0 : (Lit.int .i64 f).wf = true) (w0_1 : (Lit.int .i64 a).wf = true) (w0_2 : (Lit.int .i64 s).wf = true) (w0_3 : (Lit.int .i64 q).wf = true) (w0_4 : (Lit.int .i64 p).wf = true) (w1_0 : (Lit.int .u32 id).wf = true) (w1_1 : (Lit.int .i64 since).wf = true) (w1_2 : (Lit.int .i64 size).wf = true) (w1_3 : (Lit.int .i64 nice).wf = true) (w1_4 : (Lit.int .i64 qos).wf = true) (w1_5 : (Lit.int .i64 part).wf = true) (w1_6 : (Lit.int .i64 factor).wf = true) (w2 : (Lit.int .i64 now).wf = true) (w3 : (Lit.int .i64 all).wf = true) :
    Calls Try.prog 7 #[.agg #[.int .i64 f, .int .i64 a, .int .i64 s, .int .i64 q, .int .i64 p], .agg #[.int .u32 id, .int .i64 since, .int .i64 size, .int .i64 nice, .int .i64 qos, .int .i64 part, .int .i64 factor], .int .i64 now, .int .i64 all] w fun e w' => e = .returned (.bool true) ∧ Below w.heap.size w w' := by
  have hid : 0 ≤ id := wf_u32_0 w1_0
  have h1 : I64 since := wf_i64' w1_1
  have h2 : I64 size := wf_i64' w1_2
  have h3 : I64 qos := wf_i64' w1_4
  have h4 : I64 part := wf_i64' w1_5
  have h5 : I64 now := wf_i64' w2
  have h6 : I64 all := wf_i64' w3
  clear w0_0 w0_1 w0_2 w0_3 w0_4 w1_0 w1_1 w1_2 w1_3 w1_4 w1_5 w1_6 w2 w3
  have K1 : Hid (∀ w, Calls Try.prog 17 #[.agg #[.int .i64 f, .int .i64 a, .int .i64 s, .int .i64 q, .int .i64 p], .agg #[.int .u32 id, .int .i64 since, .int .i64 size, .int .i64 nice, .int .i64 qos, .int .i64 part, .int .i64 factor], .int .i64 now, .int .i64 all] w
      fun e w' => e = .returned (.tuple #[.int .i64 (prV f a s q p id since size nice qos part factor now all), .int .i64 (prE f a s q p id since nice factor now all)]) ∧ Below w.heap.size w w') := fun w => prio_any f a s q p id since size nice qos part factor now all w h1 h2 h3 h4 h5 h6
  cases ho : prOk f a s q p id since nice factor now all
  · have hV : prV f a s q p id since size nice qos part factor now all = 0 := by unfold prV; rw [ho]; rfl
    have hE : prE f a s q p id since nice factor now all = 2 := by unfold prE; rw [ho]; rfl
    rw [hV, hE] at K1
    clear hid h1 h2 h3 h4 h5 h6 hV hE ho
    go_enter Try.func7, Try.ntmps7
    go_wp2_with fail
    refine (K1.out _).mono ?_; rintro e w1 ⟨rfl, b1⟩
    go_wp2_with fail
    refine (known12_any _).mono ?_; rintro e w3 ⟨rfl, b3⟩
    go_wp2_with fail
    go_ret
    exact ⟨rfl, below_next b3 (below_next b1 (below_al (below_al (Below.refl _ _) _) _))⟩
  have hP := ok_prop hid ho
  unfold okProp at hP
  have hV : prV f a s q p id since size nice qos part factor now all = prSum f a s q p since size qos part factor now all - nice := by unfold prV; rw [if_pos ho]
  have hE : prE f a s q p id since nice factor now all = 0 := by unfold prE; rw [if_pos ho]
  have hb := sum_bd f a s q p since size qos part factor now all (by omega)
  rw [hV, hE] at K1
  generalize prSum f a s q p since size qos part factor now all = S at *
  have ho2 : prOk f a s q p id 0 0 65536 1048576 all = true := prOk_yes (by unfold okProp; omega)
  have K2 : Hid (∀ w, Calls Try.prog 17 #[.agg #[.int .i64 f, .int .i64 a, .int .i64 s, .int .i64 q, .int .i64 p], .agg #[.int .u32 id, .int .i64 0, .int .i64 all, .int .i64 0, .int .i64 1048576, .int .i64 1048576, .int .i64 65536], .int .i64 1048576, .int .i64 all] w
      fun e w' => e = .returned (.tuple #[.int .i64 (f + a + s + q + p), .int .i64 0]) ∧ Below w.heap.size w w') := fun w => by
    refine (prio_any f a s q p id 0 all 0 1048576 1048576 65536 1048576 all w (by decide) h6 (by decide) (by decide) (by decide) h6).mono fun e w' ⟨h, h'⟩ => ⟨h.trans (ret_tup2 ?_ ?_), h'⟩
    · unfold prV; rw [if_pos ho2, top_sum f a s q p all (by omega)]; omega
    · unfold prE; rw [if_pos ho2]
  obtain ⟨f0, f1, a0, a1, s0, s1, q0, q1, p0, p1, i0, c0, c1, n0, n1, _⟩ := hP
  obtain ⟨hb0, hb1⟩ := hb
  have t1 : decide (S - nice + nice < 0) = false := decide_eq_false (by omega)
  have t2 : decide (f + a + s + q + p < S - nice + nice) = false := decide_eq_false (by omega)
  have hS : S ≤ 5242880 := by omega
  clear hid h1 h2 h3 h4 h5 h6 hV hE ho ho2
  go_enter Try.func7, Try.ntmps7
  go_wp2_with fail
  refine (K1.out _).mono ?_; rintro e w1 ⟨rfl, b1⟩
  have B1 : Blk w1 w.heap.size #[.int .i64 f, .int .i64 a, .int .i64 s, .int .i64 q, .int .i64 p] 26 := ((Blk.new _ _ _).old _).kept b1
  have A1 : Blk w1 (w.heap.size + 1) #[.int .u32 id, .int .i64 since, .int .i64 size, .int .i64 nice, .int .i64 qos, .int .i64 part, .int .i64 factor] 29 := (Blk.fresh _ _ _ _ (by simp)).kept b1
  have b1' : Below w.heap.size w w1 := below_next b1 (below_al (below_al (Below.refl _ _) _) _)
  have u1_0 := B1.cell 0; simp at u1_0
  have u1_1 := B1.cell 1; simp at u1_1
  have u1_2 := B1.cell 2; simp at u1_2
  have u1_3 := B1.cell 3; simp at u1_3
  have u1_4 := B1.cell 4; simp at u1_4
  have v1_0 := A1.cell 0; simp at v1_0
  have v1_1 := A1.cell 1; simp at v1_1
  have v1_2 := A1.cell 2; simp at v1_2
  have v1_3 := A1.cell 3; simp at v1_3
  have v1_4 := A1.cell 4; simp at v1_4
  have v1_5 := A1.cell 5; simp at v1_5
  have v1_6 := A1.cell 6; simp at v1_6
  have hl0 := B1.lt
  go_wp2_with fail
  refine (K2.out _).mono ?_; rintro e w2 ⟨rfl, b2⟩
  go_wp2_with fail
  refine (known12_any _).mono ?_; rintro e w3 ⟨rfl, b3⟩
  go_wp2_with fail
  go_ret
  exact ⟨rfl, below_next b3 (below_next b2 (below_al b1' _))⟩

set_option maxRecDepth 100000 in
theorem lifted (os : Os) (started : os.Started) (H : Type) (enc : TypeId × Value → H) :
    ReturnsInHanded {} Try.checked os 7 .any (Rows.prioBoundSpec.pre6 enc Try.prog Try.f7 Rows.prioBoundRow.domain false) (Rows.prioBoundSpec.post enc Try.prog Try.f7 false true false false) := by
  refine returnsInHanded_of_change (C := Try.checked) own started (by kernel_rfl) Try.func7
    (ChangeSpec.witness6 (enc := enc) (C := Try.checked) false ⟨#[], #[.agg #[.int .i64 0, .int .i64 0, .int .i64 0, .int .i64 0, .int .i64 0], .agg #[.int .u32 0, .int .i64 0, .int .i64 0, .int .i64 0, .int .i64 0, .int .i64 0, .int .i64 0], .int .i64 0, .int .i64 0], []⟩ 8 (by kernel_rfl) (by kernel_rfl) (by kernel_rfl) (by kernel_rfl)) ?_
  intro W base args ds gs before hval0 hW _ _
  have hval : ∀ (j : Nat) t v, Try.f7.params[j]? = some t → args[j]? = some v → Value.okWide Try.prog W .any base t v := hval0
  have hW' := hW
  obtain ⟨p, q, hA0, hV, rfl, hfz, hnd⟩ := hW
  have hA : DataW.TrodAll enc Try.prog W 0 (fun _ => true) true Try.f7.params.toList args.toList ds p := hA0
  rw [Try.params7] at hA hval
  obtain ⟨v0, vs0, d0, ds0, p0, q0, hargs, rfl, rfl, h0, r0⟩ := trodAll_cons hA
  obtain ⟨v1, vs1, d1, ds1, p1, q1, rfl, rfl, rfl, h1, r1⟩ := trodAll_cons r0
  obtain ⟨v2, vs2, d2, ds2, p2, q2, rfl, rfl, rfl, h2, r2⟩ := trodAll_cons r1
  obtain ⟨v3, vs3, d3, ds3, p3, q3, rfl, rfl, rfl, h3, r3⟩ := trodAll_cons r2
  obtain ⟨rfl, rfl, rfl⟩ := trodAll_nil r3
  obtain rfl : args = #[v0, v1, v2, v3] := by cases args; simp_all
  obtain ⟨cs0, rfl, hs0, hf0⟩ := open_plain_struct Try.underlying26 (by kernel_rfl) (by kernel_rfl) (hval 0 26 v0 rfl rfl) h0
  obtain ⟨c0_0, y0_0, n0_0, e0_0, t0_0⟩ := hf0 0 _ rfl
  obtain ⟨f, rfl, w0_0⟩ := field_int Try.underlying3 t0_0
  obtain ⟨c0_1, y0_1, n0_1, e0_1, t0_1⟩ := hf0 1 _ rfl
  obtain ⟨a, rfl, w0_1⟩ := field_int Try.underlying3 t0_1
  obtain ⟨c0_2, y0_2, n0_2, e0_2, t0_2⟩ := hf0 2 _ rfl
  obtain ⟨s, rfl, w0_2⟩ := field_int Try.underlying3 t0_2
  obtain ⟨c0_3, y0_3, n0_3, e0_3, t0_3⟩ := hf0 3 _ rfl
  obtain ⟨q, rfl, w0_3⟩ := field_int Try.underlying3 t0_3
  obtain ⟨c0_4, y0_4, n0_4, e0_4, t0_4⟩ := hf0 4 _ rfl
  obtain ⟨p, rfl, w0_4⟩ := field_int Try.underlying3 t0_4
  obtain rfl : cs0 = #[.int .i64 f, .int .i64 a, .int .i64 s, .int .i64 q, .int .i64 p] := arr_of cs0 [.int .i64 f, .int .i64 a, .int .i64 s, .int .i64 q, .int .i64 p] hs0 (fun j hj => by match j, hj with | 0, _ => exact e0_0 | 1, _ => exact e0_1 | 2, _ => exact e0_2 | 3, _ => exact e0_3 | 4, _ => exact e0_4 | j + 5, hj => exact absurd hj (by simp))
  obtain ⟨cs1, rfl, hs1, hf1⟩ := open_plain_struct Try.underlying29 (by kernel_rfl) (by kernel_rfl) (hval 1 29 v1 rfl rfl) h1
  obtain ⟨c1_0, y1_0, n1_0, e1_0, t1_0⟩ := hf1 0 _ rfl
  obtain ⟨id, rfl, w1_0⟩ := field_int Try.underlying27 t1_0
  obtain ⟨c1_1, y1_1, n1_1, e1_1, t1_1⟩ := hf1 1 _ rfl
  obtain ⟨since, rfl, w1_1⟩ := field_int Try.underlying3 t1_1
  obtain ⟨c1_2, y1_2, n1_2, e1_2, t1_2⟩ := hf1 2 _ rfl
  obtain ⟨size, rfl, w1_2⟩ := field_int Try.underlying3 t1_2
  obtain ⟨c1_3, y1_3, n1_3, e1_3, t1_3⟩ := hf1 3 _ rfl
  obtain ⟨nice, rfl, w1_3⟩ := field_int Try.underlying3 t1_3
  obtain ⟨c1_4, y1_4, n1_4, e1_4, t1_4⟩ := hf1 4 _ rfl
  obtain ⟨qos, rfl, w1_4⟩ := field_int Try.underlying3 t1_4
  obtain ⟨c1_5, y1_5, n1_5, e1_5, t1_5⟩ := hf1 5 _ rfl
  obtain ⟨part, rfl, w1_5⟩ := field_int Try.underlying3 t1_5
  obtain ⟨c1_6, y1_6, n1_6, e1_6, t1_6⟩ := hf1 6 _ rfl
  obtain ⟨factor, rfl, w1_6⟩ := field_int Try.underlying3 t1_6
  obtain rfl : cs1 = #[.int .u32 id, .int .i64 since, .int .i64 size, .int .i64 nice, .int .i64 qos, .int .i64 part, .int .i64 factor] := arr_of cs1 [.int .u32 id, .int .i64 since, .int .i64 size, .int .i64 nice, .int .i64 qos, .int .i64 part, .int .i64 factor] hs1 (fun j hj => by match j, hj with | 0, _ => exact e1_0 | 1, _ => exact e1_1 | 2, _ => exact e1_2 | 3, _ => exact e1_3 | 4, _ => exact e1_4 | 5, _ => exact e1_5 | 6, _ => exact e1_6 | j + 7, hj => exact absurd hj (by simp))
  obtain ⟨now, rfl, rfl, rfl, w2⟩ := open_int Try.underlying3 (hval 2 3 v2 rfl rfl) h2
  obtain ⟨all, rfl, rfl, rfl, w3⟩ := open_int Try.underlying3 (hval 3 3 v3 rfl rfl) h3
  clear hA0 hval0
  refine (walk f a s q p id since size nice qos part factor now all W w0_0 w0_1 w0_2 w0_3 w0_4 w1_0 w1_1 w1_2 w1_3 w1_4 w1_5 w1_6 w2 w3).mono fun e W' ⟨he, hb⟩ => ?_
  subst he
  exact ⟨_, rfl, law_post (by kernel_rfl) (by kernel_rfl) rfl Try.underlying4 rfl hW' rfl hb⟩

theorem over : Rows.prioBoundRow.holds Try.pinned (OpenSpec.ofChange Rows.prioBoundSpec) :=
  OpenClaim.holds_of_wide 7 Try.f7 rfl rfl rfl rfl rfl rfl rfl ⟨rfl, rfl, rfl, rfl, rfl⟩ rfl rfl rfl rfl rfl (by kernel_rfl) Try.func7 (by kernel_rfl)
    (of_decide_eq_true (by kernel_rfl)) (by unfold Func.isWrapper; first | (rw [if_pos (by decide +kernel)]; kernel_rfl) | (rw [if_neg (by decide +kernel)]; exact ⟨rfl, rfl⟩))
    (fun os started H enc _ => lifted os started H enc)

theorem proved : Rows.PrioBoundSaid :=
  over
#print axioms proved
end Go.Proofs.Ytjhabfhpjpkpbaa.prioBound
