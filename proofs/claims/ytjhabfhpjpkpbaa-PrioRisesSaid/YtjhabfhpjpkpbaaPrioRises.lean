/-
  PrioRises: a job's priority never falls with its waiting, its factor, its class's and its partition's; it falls by what it is nicer: so the law returns true for every input.
-/
import Derived.Test.YtjhabfhpjpkpbaaPrioLaw
import Derived.Test.YtjhabfhpjpkpbaaRows
import Derived.Test.YtjhabfhpjpkpbaaArgs2
namespace Go.Proofs.Ytjhabfhpjpkpbaa.prioRises
open Go.ChangeShapes Go.WideShapes Go.ChangeAt Go.RowKit
set_option linter.unusedVariables false

theorem own : ownKnob Try.prog.godebug = none := by kernel_rfl

theorem part_mono {f x y : Int} (h : 0 ≤ f) (hx : x ≤ y) : f * x / 65536 ≤ f * y / 65536 := by
  have h2 : f * x ≤ f * y := Int.mul_le_mul_of_nonneg_left hx h
  omega
theorem part_bd {f x : Int} (h : 0 ≤ f) (hx : 0 ≤ x ∧ x ≤ 65536) : 0 ≤ f * x / 65536 ∧ f * x / 65536 ≤ f := by
  have h1 : 0 ≤ f * x := Int.mul_nonneg h hx.1
  have h2 : f * x ≤ f * 65536 := Int.mul_le_mul_of_nonneg_left hx.2 h
  omega
theorem sum_bd (f a s q p since size qos part factor now all : Int) (h : 0 ≤ f ∧ 0 ≤ a ∧ 0 ≤ s ∧ 0 ≤ q ∧ 0 ≤ p ∧ 0 ≤ factor ∧ factor ≤ 65536) :
    0 ≤ prSum f a s q p since size qos part factor now all ∧ prSum f a s q p since size qos part factor now all ≤ f + a + s + q + p := by
  unfold prSum
  have m0 := part_bd (f := f) (x := factor) h.1 ⟨h.2.2.2.2.2.1, h.2.2.2.2.2.2⟩
  have m1 := part_bd (f := a) h.2.1 (ageV_bd since now)
  have m2 := part_bd (f := s) h.2.2.1 (sizeV_bd size all)
  have m3 := part_bd (f := q) h.2.2.2.1 (ofV_bd qos 1048576)
  have m4 := part_bd (f := p) h.2.2.2.2.1 (ofV_bd part 1048576)
  omega
theorem wf_u16 {n : Int} (h : (Lit.int .u16 n).wf = true) : 0 ≤ n ∧ n ≤ 65535 := by
  simpa [Lit.wf, IntKind.min, IntKind.max, IntKind.bits, IntKind.signed] using h
theorem sum_mono {f a s q p since size qos qos' part part' factor factor' now now' all : Int} (h : 0 ≤ f ∧ 0 ≤ a ∧ 0 ≤ q ∧ 0 ≤ p) (h1 : factor ≤ factor') (h2 : now ≤ now') (h3 : qos ≤ qos') (h4 : part ≤ part') :
    prSum f a s q p since size qos part factor now all ≤ prSum f a s q p since size qos' part' factor' now' all := by
  unfold prSum
  have m0 := part_mono h.1 h1
  have m1 := part_mono h.2.1 (ageV_mono (a := since) h2)
  have m3 := part_mono h.2.2.1 (ofV_mono (most := 1048576) h3)
  have m4 := part_mono h.2.2.2 (ofV_mono (most := 1048576) h4)
  omega

set_option maxRecDepth 100000 in
set_option maxHeartbeats 4000000 in
theorem walk (f a s q p id since size nice qos part factor now all later more : Int) (w : World) (w0_0 : (Lit.int .i64 f).wf = true) (w0_1 : (Lit.int .i64 a).wf = true) (w0_2 : (Lit.int .i64 s).wf = true) (w0_3 : (Lit.int .i64 q).wf = true) (w0_4 : (Lit.int .i64 p).wf = true) (w1_0 : (Lit.int .u32 id).wf = true) (w1_1 : (Lit.int .i64 since).wf = true) (w1_2 : (Lit.int .i64 size).wf = true) (w1_3 : (Lit.int .i64 nice).wf = true) (w1_4 : (Lit.int .i64 qos).wf = true) (w1_5 : (Lit.int .i64 part).wf = true) (w1_6 : (Lit.int .i64 factor).wf = true) (w2 : (Lit.int .i64 now).wf = true) (w3 : (Lit.int .i64 all).wf = true) (w4 : (Lit.int .u16 later).wf = true) (w5 : (Lit.int .u16 more).wf = true) :
    Calls Try.prog 6 #[.agg #[.int .i64 f, .int .i64 a, .int .i64 s, .int .i64 q, .int .i64 p], .agg #[.int .u32 id, .int .i64 since, .int .i64 size, .int .i64 nice, .int .i64 qos, .int .i64 part, .int .i64 factor], .int .i64 now, .int .i64 all, .int .u16 later, .int .u16 more] w fun e w' => e = .returned (.bool true) ∧ Below w.heap.size w w' := by
  obtain ⟨hl0, hl1⟩ := wf_u16 w4
  obtain ⟨hm0, hm1⟩ := wf_u16 w5
  clear w4 w5
  have hid : 0 ≤ id := wf_u32_0 w1_0
  have h1 : I64 since := wf_i64' w1_1
  have h2 : I64 size := wf_i64' w1_2
  have h3 : I64 qos := wf_i64' w1_4
  have h4 : I64 part := wf_i64' w1_5
  have h5 : I64 now := wf_i64' w2
  have h6 : I64 all := wf_i64' w3
  clear w0_0 w0_1 w0_2 w0_3 w0_4 w1_0 w1_1 w1_2 w1_3 w1_4 w1_5 w1_6 w2 w3
  have K1 : Hid (∀ w, Calls Try.prog 17 #[.agg #[.int .i64 f, .int .i64 a, .int .i64 s, .int .i64 q, .int .i64 p], .agg #[.int .u32 id, .int .i64 since, .int .i64 size, .int .i64 nice, .int .i64 qos, .int .i64 part, .int .i64 factor], .int .i64 now, .int .i64 all] w
      fun e w' => e = .returned (.tuple #[.int .i64 (prV f a s q p id since size nice qos part factor now all), .int .i64 (prE f a s q p id since nice factor now all)]) ∧ Below w.heap.size w w') := fun w => prio_any f a s q p id since size nice qos part factor now all w h1 h2 h3 h4 h5 h6
  cases ho : prOk f a s q p id since nice factor now all
  · have hV : prV f a s q p id since size nice qos part factor now all = 0 := by unfold prV; rw [ho]; rfl
    have hE : prE f a s q p id since nice factor now all = 2 := by unfold prE; rw [ho]; rfl
    rw [hV, hE] at K1
    clear hid h1 h2 h3 h4 h5 h6 hV hE ho
    go_enter Try.func6, Try.ntmps6
    go_wp2_with fail
    refine (K1.out _).mono ?_; rintro e w1 ⟨rfl, b1⟩
    go_wp2_with fail
    refine (known12_any _).mono ?_; rintro e w3 ⟨rfl, b3⟩
    go_wp2_with fail
    go_ret
    exact ⟨rfl, below_next b3 (below_next b1 (below_al (below_al (Below.refl _ _) _) _))⟩
  have hP := ok_prop hid ho
  unfold okProp at hP
  have hV : prV f a s q p id since size nice qos part factor now all = prSum f a s q p since size qos part factor now all - nice := by unfold prV; rw [if_pos ho]
  have hE : prE f a s q p id since nice factor now all = 0 := by unfold prE; rw [if_pos ho]
  rw [hV, hE] at K1
  unfold I64 at h3 h4
  have oT : prOk f a s q p id since nice factor (min (now + later) 1099511627776) all = true := prOk_yes (by unfold okProp; omega)
  have oB : prOk f a s q p id since nice (min (factor + more) 65536) now all = true := prOk_yes (by unfold okProp; omega)
  have oD : prOk f a s q p id since (min (nice + more) 10000) factor now all = true := prOk_yes (by unfold okProp; omega)
  have iN : I64 (min (now + later) 1099511627776) := by unfold I64; omega
  have iQ : I64 (max qos (min qos 1099511627776 + more)) := by unfold I64; omega
  have iP : I64 (max part (min part 1099511627776 + later)) := by unfold I64; omega
  have sT := sum_mono (f := f) (a := a) (s := s) (q := q) (p := p) (since := since) (size := size) (qos := qos) (part := part) (factor := factor) (now := now) (all := all) (by omega) (Int.le_refl factor) (show now ≤ min (now + later) 1099511627776 by omega) (Int.le_refl qos) (Int.le_refl part)
  have sB := sum_mono (f := f) (a := a) (s := s) (q := q) (p := p) (since := since) (size := size) (qos := qos) (part := part) (factor := factor) (now := now) (all := all) (by omega) (show factor ≤ min (factor + more) 65536 by omega) (Int.le_refl now) (Int.le_refl qos) (Int.le_refl part)
  have sC := sum_mono (f := f) (a := a) (s := s) (q := q) (p := p) (since := since) (size := size) (qos := qos) (part := part) (factor := factor) (now := now) (all := all) (by omega) (Int.le_refl factor) (Int.le_refl now) (show qos ≤ max qos (min qos 1099511627776 + more) by omega) (show part ≤ max part (min part 1099511627776 + later) by omega)
  have z0 := sum_bd f a s q p since size qos part factor now all (by omega)
  have KT : Hid (∀ w, Calls Try.prog 17 #[.agg #[.int .i64 f, .int .i64 a, .int .i64 s, .int .i64 q, .int .i64 p], .agg #[.int .u32 id, .int .i64 since, .int .i64 size, .int .i64 nice, .int .i64 qos, .int .i64 part, .int .i64 factor], .int .i64 (min (now + later) 1099511627776), .int .i64 all] w
      fun e w' => e = .returned (.tuple #[.int .i64 (prSum f a s q p since size qos part factor (min (now + later) 1099511627776) all - nice), .int .i64 0]) ∧ Below w.heap.size w w') := fun w =>
    (prio_any f a s q p id since size nice qos part factor _ all w h1 h2 h3 h4 iN h6).mono fun _ _ ⟨h, h'⟩ => ⟨h.trans (ret_tup2 (by unfold prV; rw [if_pos oT]) (by unfold prE; rw [if_pos oT])), h'⟩
  have KB : Hid (∀ w, Calls Try.prog 17 #[.agg #[.int .i64 f, .int .i64 a, .int .i64 s, .int .i64 q, .int .i64 p], .agg #[.int .u32 id, .int .i64 since, .int .i64 size, .int .i64 nice, .int .i64 qos, .int .i64 part, .int .i64 (min (factor + more) 65536)], .int .i64 now, .int .i64 all] w
      fun e w' => e = .returned (.tuple #[.int .i64 (prSum f a s q p since size qos part (min (factor + more) 65536) now all - nice), .int .i64 0]) ∧ Below w.heap.size w w') := fun w =>
    (prio_any f a s q p id since size nice qos part _ now all w h1 h2 h3 h4 h5 h6).mono fun _ _ ⟨h, h'⟩ => ⟨h.trans (ret_tup2 (by unfold prV; rw [if_pos oB]) (by unfold prE; rw [if_pos oB])), h'⟩
  have KC : Hid (∀ w, Calls Try.prog 17 #[.agg #[.int .i64 f, .int .i64 a, .int .i64 s, .int .i64 q, .int .i64 p], .agg #[.int .u32 id, .int .i64 since, .int .i64 size, .int .i64 nice, .int .i64 (max qos (min qos 1099511627776 + more)), .int .i64 (max part (min part 1099511627776 + later)), .int .i64 factor], .int .i64 now, .int .i64 all] w
      fun e w' => e = .returned (.tuple #[.int .i64 (prSum f a s q p since size (max qos (min qos 1099511627776 + more)) (max part (min part 1099511627776 + later)) factor now all - nice), .int .i64 0]) ∧ Below w.heap.size w w') := fun w =>
    (prio_any f a s q p id since size nice _ _ factor now all w h1 h2 iQ iP h5 h6).mono fun _ _ ⟨h, h'⟩ => ⟨h.trans (ret_tup2 (by unfold prV; rw [if_pos ho]) (by unfold prE; rw [if_pos ho])), h'⟩
  have KD : Hid (∀ w, Calls Try.prog 17 #[.agg #[.int .i64 f, .int .i64 a, .int .i64 s, .int .i64 q, .int .i64 p], .agg #[.int .u32 id, .int .i64 since, .int .i64 size, .int .i64 (min (nice + more) 10000), .int .i64 qos, .int .i64 part, .int .i64 factor], .int .i64 now, .int .i64 all] w
      fun e w' => e = .returned (.tuple #[.int .i64 (prSum f a s q p since size qos part factor now all - min (nice + more) 10000), .int .i64 0]) ∧ Below w.heap.size w w') := fun w =>
    (prio_any f a s q p id since size _ qos part factor now all w h1 h2 h3 h4 h5 h6).mono fun _ _ ⟨h, h'⟩ => ⟨h.trans (ret_tup2 (by unfold prV; rw [if_pos oD]) (by unfold prE; rw [if_pos oD])), h'⟩
  generalize prSum f a s q p since size qos part factor (min (now + later) 1099511627776) all = ST at *
  generalize prSum f a s q p since size qos part (min (factor + more) 65536) now all = SB at *
  generalize prSum f a s q p since size (max qos (min qos 1099511627776 + more)) (max part (min part 1099511627776 + later)) factor now all = SC at *
  generalize prSum f a s q p since size qos part factor now all = S at *
  obtain ⟨f0, f1, a0, a1, s0, s1, q0, q1, p0, p1, i0, c0, c1, n0, n1, r0, r1, r2, r3, r4⟩ := hP
  obtain ⟨z0, z1⟩ := z0
  have hS : S ≤ 5242880 := by omega
  have t1 : decide (S ≤ ST) = true := decide_eq_true (by omega)
  have t2 : decide (S ≤ SB) = true := decide_eq_true (by omega)
  have t3 : decide (S ≤ SC) = true := decide_eq_true (by omega)
  have t4 : (S - min (nice + more) 10000 == S - nice - (min (nice + more) 10000 - nice)) = true := by rw [beq_iff_eq]; omega
  have y1 : -10000 ≤ min (nice + more) 10000 := by omega
  have y2 : min (nice + more) 10000 ≤ 10000 := by omega
  have y3 : -9223372036854775808 ≤ qos := h3.1
  have y4 : qos ≤ 9223372036854775807 := h3.2
  have y5 : -9223372036854775808 ≤ part := h4.1
  have y6 : part ≤ 9223372036854775807 := h4.2
  clear hid h1 h2 h3 h4 h5 h6 hV hE ho oT oB oD iN iQ iP
  go_enter Try.func6, Try.ntmps6
  go_wp2_with fail
  refine (K1.out _).mono ?_; rintro e w1 ⟨rfl, b1⟩
  have B1 : Blk w1 w.heap.size #[.int .i64 f, .int .i64 a, .int .i64 s, .int .i64 q, .int .i64 p] 26 := ((Blk.new _ _ _).old _).kept b1
  have A1 : Blk w1 (w.heap.size + 1) #[.int .u32 id, .int .i64 since, .int .i64 size, .int .i64 nice, .int .i64 qos, .int .i64 part, .int .i64 factor] 29 := (Blk.fresh _ _ _ _ (by simp)).kept b1
  have b1' : Below w.heap.size w w1 := below_next b1 (below_al (below_al (Below.refl _ _) _) _)
  have u1_0 := B1.cell 0; simp at u1_0
  have u1_1 := B1.cell 1; simp at u1_1
  have u1_2 := B1.cell 2; simp at u1_2
  have u1_3 := B1.cell 3; simp at u1_3
  have u1_4 := B1.cell 4; simp at u1_4
  have v1_0 := A1.cell 0; simp at v1_0
  have v1_1 := A1.cell 1; simp at v1_1
  have v1_2 := A1.cell 2; simp at v1_2
  have v1_3 := A1.cell 3; simp at v1_3
  have v1_4 := A1.cell 4; simp at v1_4
  have v1_5 := A1.cell 5; simp at v1_5
  have v1_6 := A1.cell 6; simp at v1_6
  have hz0 := B1.lt
  have hz1 := A1.lt
  go_upto_region 11 with fail
  go_name_world w2 hw2
  have B2 : Blk w2 w.heap.size #[.int .i64 f, .int .i64 a, .int .i64 s, .int .i64 q, .int .i64 p] 26 := by rw [← hw2]; exact ((B1.old _).old _).old _
  have A2 : Blk w2 (w.heap.size + 1) #[.int .u32 id, .int .i64 since, .int .i64 size, .int .i64 nice, .int .i64 qos, .int .i64 part, .int .i64 factor] 29 := by rw [← hw2]; exact ((A1.old _).old _).old _
  have X2 : Blk w2 w1.heap.size #[.int .u32 id, .int .i64 since, .int .i64 size, .int .i64 nice, .int .i64 qos, .int .i64 part, .int .i64 (min (factor + more) 65536)] 29 := by rw [← hw2]; exact ((Blk.new _ _ _).old _).old _
  have Y2 : Blk w2 (w1.heap.size + 1) #[.int .u32 id, .int .i64 since, .int .i64 size, .int .i64 nice, .int .i64 (max qos (min qos 1099511627776 + more)), .int .i64 (max part (min part 1099511627776 + later)), .int .i64 factor] 29 := by rw [← hw2]; exact (Blk.fresh _ _ _ _ (by simp)).old _
  have Z2 : Blk w2 (w1.heap.size + 1 + 1) #[.int .u32 id, .int .i64 since, .int .i64 size, .int .i64 (min (nice + more) 10000), .int .i64 qos, .int .i64 part, .int .i64 factor] 29 := by rw [← hw2]; exact Blk.fresh _ _ _ _ (by simp)
  have b2 : Below w.heap.size w w2 := by rw [← hw2]; exact below_al (below_al (below_al b1' _) _) _
  clear hw2 B1 A1 b1 b1' hz0 hz1
  clear u1_0 u1_1 u1_2 u1_3 u1_4 v1_0 v1_1 v1_2 v1_3 v1_4 v1_5 v1_6
  have u2_0 := B2.cell 0; simp at u2_0
  have u2_1 := B2.cell 1; simp at u2_1
  have u2_2 := B2.cell 2; simp at u2_2
  have u2_3 := B2.cell 3; simp at u2_3
  have u2_4 := B2.cell 4; simp at u2_4
  have v2_0 := A2.cell 0; simp at v2_0
  have v2_1 := A2.cell 1; simp at v2_1
  have v2_2 := A2.cell 2; simp at v2_2
  have v2_3 := A2.cell 3; simp at v2_3
  have v2_4 := A2.cell 4; simp at v2_4
  have v2_5 := A2.cell 5; simp at v2_5
  have v2_6 := A2.cell 6; simp at v2_6
  go_wp2_with fail
  refine (KT.out _).mono ?_; rintro e w3 ⟨rfl, b3⟩
  clear u2_0 u2_1 u2_2 u2_3 u2_4 v2_0 v2_1 v2_2 v2_3 v2_4 v2_5 v2_6
  have u3_0 := (B2.kept b3).cell 0; simp at u3_0
  have u3_1 := (B2.kept b3).cell 1; simp at u3_1
  have u3_2 := (B2.kept b3).cell 2; simp at u3_2
  have u3_3 := (B2.kept b3).cell 3; simp at u3_3
  have u3_4 := (B2.kept b3).cell 4; simp at u3_4
  have v3_0 := (X2.kept b3).cell 0; simp at v3_0
  have v3_1 := (X2.kept b3).cell 1; simp at v3_1
  have v3_2 := (X2.kept b3).cell 2; simp at v3_2
  have v3_3 := (X2.kept b3).cell 3; simp at v3_3
  have v3_4 := (X2.kept b3).cell 4; simp at v3_4
  have v3_5 := (X2.kept b3).cell 5; simp at v3_5
  have v3_6 := (X2.kept b3).cell 6; simp at v3_6
  go_wp2_with fail
  refine (KB.out _).mono ?_; rintro e w4 ⟨rfl, b4⟩
  clear u3_0 u3_1 u3_2 u3_3 u3_4 v3_0 v3_1 v3_2 v3_3 v3_4 v3_5 v3_6
  have u4_0 := ((B2.kept b3).kept b4).cell 0; simp at u4_0
  have u4_1 := ((B2.kept b3).kept b4).cell 1; simp at u4_1
  have u4_2 := ((B2.kept b3).kept b4).cell 2; simp at u4_2
  have u4_3 := ((B2.kept b3).kept b4).cell 3; simp at u4_3
  have u4_4 := ((B2.kept b3).kept b4).cell 4; simp at u4_4
  have v4_0 := ((Y2.kept b3).kept b4).cell 0; simp at v4_0
  have v4_1 := ((Y2.kept b3).kept b4).cell 1; simp at v4_1
  have v4_2 := ((Y2.kept b3).kept b4).cell 2; simp at v4_2
  have v4_3 := ((Y2.kept b3).kept b4).cell 3; simp at v4_3
  have v4_4 := ((Y2.kept b3).kept b4).cell 4; simp at v4_4
  have v4_5 := ((Y2.kept b3).kept b4).cell 5; simp at v4_5
  have v4_6 := ((Y2.kept b3).kept b4).cell 6; simp at v4_6
  go_wp2_with fail
  refine (KC.out _).mono ?_; rintro e w5 ⟨rfl, b5⟩
  clear u4_0 u4_1 u4_2 u4_3 u4_4 v4_0 v4_1 v4_2 v4_3 v4_4 v4_5 v4_6
  have u5_0 := (((B2.kept b3).kept b4).kept b5).cell 0; simp at u5_0
  have u5_1 := (((B2.kept b3).kept b4).kept b5).cell 1; simp at u5_1
  have u5_2 := (((B2.kept b3).kept b4).kept b5).cell 2; simp at u5_2
  have u5_3 := (((B2.kept b3).kept b4).kept b5).cell 3; simp at u5_3
  have u5_4 := (((B2.kept b3).kept b4).kept b5).cell 4; simp at u5_4
  have v5_0 := (((Z2.kept b3).kept b4).kept b5).cell 0; simp at v5_0
  have v5_1 := (((Z2.kept b3).kept b4).kept b5).cell 1; simp at v5_1
  have v5_2 := (((Z2.kept b3).kept b4).kept b5).cell 2; simp at v5_2
  have v5_3 := (((Z2.kept b3).kept b4).kept b5).cell 3; simp at v5_3
  have v5_4 := (((Z2.kept b3).kept b4).kept b5).cell 4; simp at v5_4
  have v5_5 := (((Z2.kept b3).kept b4).kept b5).cell 5; simp at v5_5
  have v5_6 := (((Z2.kept b3).kept b4).kept b5).cell 6; simp at v5_6
  go_wp2_with fail
  refine (KD.out _).mono ?_; rintro e w6 ⟨rfl, b6⟩
  clear u5_0 u5_1 u5_2 u5_3 u5_4 v5_0 v5_1 v5_2 v5_3 v5_4 v5_5 v5_6
  have u6_0 := ((((B2.kept b3).kept b4).kept b5).kept b6).cell 0; simp at u6_0
  have u6_1 := ((((B2.kept b3).kept b4).kept b5).kept b6).cell 1; simp at u6_1
  have u6_2 := ((((B2.kept b3).kept b4).kept b5).kept b6).cell 2; simp at u6_2
  have u6_3 := ((((B2.kept b3).kept b4).kept b5).kept b6).cell 3; simp at u6_3
  have u6_4 := ((((B2.kept b3).kept b4).kept b5).kept b6).cell 4; simp at u6_4
  have v6_0 := ((((A2.kept b3).kept b4).kept b5).kept b6).cell 0; simp at v6_0
  have v6_1 := ((((A2.kept b3).kept b4).kept b5).kept b6).cell 1; simp at v6_1
  have v6_2 := ((((A2.kept b3).kept b4).kept b5).kept b6).cell 2; simp at v6_2
  have v6_3 := ((((A2.kept b3).kept b4).kept b5).kept b6).cell 3; simp at v6_3
  have v6_4 := ((((A2.kept b3).kept b4).kept b5).kept b6).cell 4; simp at v6_4
  have v6_5 := ((((A2.kept b3).kept b4).kept b5).kept b6).cell 5; simp at v6_5
  have v6_6 := ((((A2.kept b3).kept b4).kept b5).kept b6).cell 6; simp at v6_6
  have z3 := ((((Z2.kept b3).kept b4).kept b5).kept b6).cell 3; simp at z3
  go_wp2_with fail
  refine (known12_any _).mono ?_; rintro e w7 ⟨rfl, b7⟩
  go_wp2_with fail
  go_ret
  exact ⟨rfl, below_next b7 (below_next b6 (below_next b5 (below_next b4 (below_next b3 b2))))⟩

set_option maxRecDepth 100000 in
theorem lifted (os : Os) (started : os.Started) (H : Type) (enc : TypeId × Value → H) :
    ReturnsInHanded {} Try.checked os 6 .any (Rows.prioRisesSpec.pre6 enc Try.prog Try.f6 Rows.prioRisesRow.domain false) (Rows.prioRisesSpec.post enc Try.prog Try.f6 false true false false) := by
  refine returnsInHanded_of_change (C := Try.checked) own started (by kernel_rfl) Try.func6
    (ChangeSpec.witness6 (enc := enc) (C := Try.checked) false ⟨#[], #[.agg #[.int .i64 0, .int .i64 0, .int .i64 0, .int .i64 0, .int .i64 0], .agg #[.int .u32 0, .int .i64 0, .int .i64 0, .int .i64 0, .int .i64 0, .int .i64 0, .int .i64 0], .int .i64 0, .int .i64 0, .int .u16 0, .int .u16 0], []⟩ 8 (by kernel_rfl) (by kernel_rfl) (by kernel_rfl) (by kernel_rfl)) ?_
  intro W base args ds gs before hval0 hW _ _
  have hval : ∀ (j : Nat) t v, Try.f6.params[j]? = some t → args[j]? = some v → Value.okWide Try.prog W .any base t v := hval0
  have hW' := hW
  obtain ⟨p, q, hA0, hV, rfl, hfz, hnd⟩ := hW
  have hA : DataW.TrodAll enc Try.prog W 0 (fun _ => true) true Try.f6.params.toList args.toList ds p := hA0
  rw [Try.params6] at hA hval
  obtain ⟨v0, vs0, d0, ds0, p0, q0, hargs, rfl, rfl, h0, r0⟩ := trodAll_cons hA
  obtain ⟨v1, vs1, d1, ds1, p1, q1, rfl, rfl, rfl, h1, r1⟩ := trodAll_cons r0
  obtain ⟨v2, vs2, d2, ds2, p2, q2, rfl, rfl, rfl, h2, r2⟩ := trodAll_cons r1
  obtain ⟨v3, vs3, d3, ds3, p3, q3, rfl, rfl, rfl, h3, r3⟩ := trodAll_cons r2
  obtain ⟨v4, vs4, d4, ds4, p4, q4, rfl, rfl, rfl, h4, r4⟩ := trodAll_cons r3
  obtain ⟨v5, vs5, d5, ds5, p5, q5, rfl, rfl, rfl, h5, r5⟩ := trodAll_cons r4
  obtain ⟨rfl, rfl, rfl⟩ := trodAll_nil r5
  obtain rfl : args = #[v0, v1, v2, v3, v4, v5] := by cases args; simp_all
  obtain ⟨cs0, rfl, hs0, hf0⟩ := open_plain_struct Try.underlying26 (by kernel_rfl) (by kernel_rfl) (hval 0 26 v0 rfl rfl) h0
  obtain ⟨c0_0, y0_0, n0_0, e0_0, t0_0⟩ := hf0 0 _ rfl
  obtain ⟨f, rfl, w0_0⟩ := field_int Try.underlying3 t0_0
  obtain ⟨c0_1, y0_1, n0_1, e0_1, t0_1⟩ := hf0 1 _ rfl
  obtain ⟨a, rfl, w0_1⟩ := field_int Try.underlying3 t0_1
  obtain ⟨c0_2, y0_2, n0_2, e0_2, t0_2⟩ := hf0 2 _ rfl
  obtain ⟨s, rfl, w0_2⟩ := field_int Try.underlying3 t0_2
  obtain ⟨c0_3, y0_3, n0_3, e0_3, t0_3⟩ := hf0 3 _ rfl
  obtain ⟨q, rfl, w0_3⟩ := field_int Try.underlying3 t0_3
  obtain ⟨c0_4, y0_4, n0_4, e0_4, t0_4⟩ := hf0 4 _ rfl
  obtain ⟨p, rfl, w0_4⟩ := field_int Try.underlying3 t0_4
  obtain rfl : cs0 = #[.int .i64 f, .int .i64 a, .int .i64 s, .int .i64 q, .int .i64 p] := arr_of cs0 [.int .i64 f, .int .i64 a, .int .i64 s, .int .i64 q, .int .i64 p] hs0 (fun j hj => by match j, hj with | 0, _ => exact e0_0 | 1, _ => exact e0_1 | 2, _ => exact e0_2 | 3, _ => exact e0_3 | 4, _ => exact e0_4 | j + 5, hj => exact absurd hj (by simp))
  obtain ⟨cs1, rfl, hs1, hf1⟩ := open_plain_struct Try.underlying29 (by kernel_rfl) (by kernel_rfl) (hval 1 29 v1 rfl rfl) h1
  obtain ⟨c1_0, y1_0, n1_0, e1_0, t1_0⟩ := hf1 0 _ rfl
  obtain ⟨id, rfl, w1_0⟩ := field_int Try.underlying27 t1_0
  obtain ⟨c1_1, y1_1, n1_1, e1_1, t1_1⟩ := hf1 1 _ rfl
  obtain ⟨since, rfl, w1_1⟩ := field_int Try.underlying3 t1_1
  obtain ⟨c1_2, y1_2, n1_2, e1_2, t1_2⟩ := hf1 2 _ rfl
  obtain ⟨size, rfl, w1_2⟩ := field_int Try.underlying3 t1_2
  obtain ⟨c1_3, y1_3, n1_3, e1_3, t1_3⟩ := hf1 3 _ rfl
  obtain ⟨nice, rfl, w1_3⟩ := field_int Try.underlying3 t1_3
  obtain ⟨c1_4, y1_4, n1_4, e1_4, t1_4⟩ := hf1 4 _ rfl
  obtain ⟨qos, rfl, w1_4⟩ := field_int Try.underlying3 t1_4
  obtain ⟨c1_5, y1_5, n1_5, e1_5, t1_5⟩ := hf1 5 _ rfl
  obtain ⟨part, rfl, w1_5⟩ := field_int Try.underlying3 t1_5
  obtain ⟨c1_6, y1_6, n1_6, e1_6, t1_6⟩ := hf1 6 _ rfl
  obtain ⟨factor, rfl, w1_6⟩ := field_int Try.underlying3 t1_6
  obtain rfl : cs1 = #[.int .u32 id, .int .i64 since, .int .i64 size, .int .i64 nice, .int .i64 qos, .int .i64 part, .int .i64 factor] := arr_of cs1 [.int .u32 id, .int .i64 since, .int .i64 size, .int .i64 nice, .int .i64 qos, .int .i64 part, .int .i64 factor] hs1 (fun j hj => by match j, hj with | 0, _ => exact e1_0 | 1, _ => exact e1_1 | 2, _ => exact e1_2 | 3, _ => exact e1_3 | 4, _ => exact e1_4 | 5, _ => exact e1_5 | 6, _ => exact e1_6 | j + 7, hj => exact absurd hj (by simp))
  obtain ⟨now, rfl, rfl, rfl, w2⟩ := open_int Try.underlying3 (hval 2 3 v2 rfl rfl) h2
  obtain ⟨all, rfl, rfl, rfl, w3⟩ := open_int Try.underlying3 (hval 3 3 v3 rfl rfl) h3
  obtain ⟨later, rfl, rfl, rfl, w4⟩ := open_int Try.underlying48 (hval 4 48 v4 rfl rfl) h4
  obtain ⟨more, rfl, rfl, rfl, w5⟩ := open_int Try.underlying48 (hval 5 48 v5 rfl rfl) h5
  clear hA0 hval0
  refine (walk f a s q p id since size nice qos part factor now all later more W w0_0 w0_1 w0_2 w0_3 w0_4 w1_0 w1_1 w1_2 w1_3 w1_4 w1_5 w1_6 w2 w3 w4 w5).mono fun e W' ⟨he, hb⟩ => ?_
  subst he
  exact ⟨_, rfl, law_post (by kernel_rfl) (by kernel_rfl) rfl Try.underlying4 rfl hW' rfl hb⟩

theorem over : Rows.prioRisesRow.holds Try.pinned (OpenSpec.ofChange Rows.prioRisesSpec) :=
  OpenClaim.holds_of_wide 6 Try.f6 rfl rfl rfl rfl rfl rfl rfl ⟨rfl, rfl, rfl, rfl, rfl⟩ rfl rfl rfl rfl rfl (by kernel_rfl) Try.func6 (by kernel_rfl)
    (of_decide_eq_true (by kernel_rfl)) (by unfold Func.isWrapper; first | (rw [if_pos (by decide +kernel)]; kernel_rfl) | (rw [if_neg (by decide +kernel)]; exact ⟨rfl, rfl⟩))
    (fun os started H enc _ => lifted os started H enc)

theorem proved : Rows.PrioRisesSaid :=
  over
#print axioms proved
end Go.Proofs.Ytjhabfhpjpkpbaa.prioRises
