/-
  The contract of gangerref12.Prio.
-/
import Derived.Test.YtjhabfhpjpkpbaaPrioRight
namespace Go.Proofs.Ytjhabfhpjpkpbaa
open Go.ChangeShapes Go.WideShapes Go.ChangeAt Go.RowKit
set_option linter.unusedVariables false

theorem mul_bd' {f x : Int} (h : 0 ≤ f ∧ f ≤ 1048576) (hx : 0 ≤ x ∧ x ≤ 65536) : 0 ≤ f * x ∧ f * x ≤ 68719476736 := by
  obtain ⟨h1, h2⟩ := h
  obtain ⟨h3, h4⟩ := hx
  refine ⟨Int.mul_nonneg h1 h3, ?_⟩
  have := Int.mul_le_mul h2 h4 h3 (by omega)
  omega

set_option maxRecDepth 100000 in
set_option maxHeartbeats 4000000 in
theorem refPrio_any (f a s q p id since size nice qos part factor now all : Int) (w : World) (hid : 0 ≤ id)
    (h1 : I64 since) (h2 : I64 size) (h3 : I64 qos) (h4 : I64 part) (h5 : I64 now) (h6 : I64 all) :
    Calls Try.prog 18 #[.agg #[.int .i64 f, .int .i64 a, .int .i64 s, .int .i64 q, .int .i64 p], .agg #[.int .u32 id, .int .i64 since, .int .i64 size, .int .i64 nice, .int .i64 qos, .int .i64 part, .int .i64 factor], .int .i64 now, .int .i64 all] w
      fun e w' => e = .returned (.tuple #[.int .i64 (prV f a s q p id since size nice qos part factor now all), .int .i64 (prE f a s q p id since nice factor now all)]) ∧ Below w.heap.size w w' := by
  have R : Hid (∀ w, Calls Try.prog 27 #[.agg #[.int .i64 f, .int .i64 a, .int .i64 s, .int .i64 q, .int .i64 p], .agg #[.int .u32 id, .int .i64 since, .int .i64 size, .int .i64 nice, .int .i64 qos, .int .i64 part, .int .i64 factor], .int .i64 now, .int .i64 all] w
      fun e w' => e = .returned (.bool (prOk f a s q p id since nice factor now all)) ∧ Below w.heap.size w w') := fun w => right_any f a s q p id since size nice qos part factor now all w hid
  have G1 : Hid (∀ w, Calls Try.prog 13 #[.int .i64 since, .int .i64 now] w fun e w' => e = .returned (.int .i64 (ageV since now)) ∧ Below w.heap.size w w') := fun w => refAge_any _ _ w h1 h5
  have G2 : Hid (∀ w, Calls Try.prog 14 #[.int .i64 size, .int .i64 all] w fun e w' => e = .returned (.int .i64 (sizeV size all)) ∧ Below w.heap.size w w') := fun w => refSize_any _ _ w h2 h6
  have G3 : Hid (∀ w, Calls Try.prog 15 #[.int .i64 qos, .int .i64 1048576] w fun e w' => e = .returned (.int .i64 (ofV qos 1048576)) ∧ Below w.heap.size w w') := fun w => refOf_any _ _ w h3 (by decide)
  have G4 : Hid (∀ w, Calls Try.prog 15 #[.int .i64 part, .int .i64 1048576] w fun e w' => e = .returned (.int .i64 (ofV part 1048576)) ∧ Below w.heap.size w w') := fun w => refOf_any _ _ w h4 (by decide)
  have hok : prOk f a s q p id since nice factor now all = true → Hid (okProp f a s q p id since nice factor now all) := fun h => by
    by_cases k : okProp f a s q p id since nice factor now all
    · exact k
    · rw [prOk_no hid k] at h; cases h
  clear h1 h2 h3 h4 h5 h6 hid
  cases ho : prOk f a s q p id since nice factor now all
  · have HV : Hid (prV f a s q p id since size nice qos part factor now all = 0) := Lib.hid (by unfold prV; rw [ho]; rfl)
    have HE : Hid (prE f a s q p id since nice factor now all = 2) := Lib.hid (by unfold prE; rw [ho]; rfl)
    clear hok
    go_enter Try.func18, Try.ntmps18
    go_wp2_with fail
    refine (R.out _).mono ?_; rintro e w1 ⟨rfl, b1⟩
    rw [ho]
    go_wp2_with fail
    go_ret2
    exact ⟨ret_tup2 HV.out.symm HE.out.symm, below_next b1 (below_al (below_al (Below.refl _ _) _) _)⟩
  have hP := (hok ho).out
  unfold okProp at hP
  have hV : prV f a s q p id since size nice qos part factor now all = prSum f a s q p since size qos part factor now all - nice := by unfold prV; rw [if_pos ho]
  have hE : prE f a s q p id since nice factor now all = 0 := by unfold prE; rw [if_pos ho]
  unfold prSum at hV
  have m0 := mul_bd' (f := f) (x := factor) (by omega) (by omega)
  have m1 := mul_bd' (f := a) (by omega) (ageV_bd since now)
  have m2 := mul_bd' (f := s) (by omega) (sizeV_bd size all)
  have m3 := mul_bd' (f := q) (by omega) (ofV_bd qos 1048576)
  have m4 := mul_bd' (f := p) (by omega) (ofV_bd part 1048576)
  have mn : -10000 ≤ nice ∧ nice ≤ 10000 := by omega
  obtain ⟨m0, m0'⟩ := m0
  obtain ⟨m1, m1'⟩ := m1
  obtain ⟨m2, m2'⟩ := m2
  obtain ⟨m3, m3'⟩ := m3
  obtain ⟨m4, m4'⟩ := m4
  obtain ⟨mn, mn'⟩ := mn
  generalize ageV since now = x1 at *
  generalize sizeV size all = x2 at *
  generalize ofV qos 1048576 = x3 at *
  generalize ofV part 1048576 = x4 at *
  have HV := Lib.hid hV
  have HE := Lib.hid hE
  have R : Hid (∀ w, Calls Try.prog 27 #[.agg #[.int .i64 f, .int .i64 a, .int .i64 s, .int .i64 q, .int .i64 p], .agg #[.int .u32 id, .int .i64 since, .int .i64 size, .int .i64 nice, .int .i64 qos, .int .i64 part, .int .i64 factor], .int .i64 now, .int .i64 all] w
      fun e w' => e = .returned (.bool true) ∧ Below w.heap.size w w') := fun w => by rw [← ho]; exact R.out w
  clear hV hE hok hP ho
  go_enter Try.func18, Try.ntmps18
  go_wp2_with fail
  refine (R.out _).mono ?_; rintro e w1 ⟨rfl, b1⟩
  have B1 : Blk w1 w.heap.size #[.int .i64 f, .int .i64 a, .int .i64 s, .int .i64 q, .int .i64 p] 26 := ((Blk.new _ _ _).old _).kept b1
  have A1 : Blk w1 (w.heap.size + 1) #[.int .u32 id, .int .i64 since, .int .i64 size, .int .i64 nice, .int .i64 qos, .int .i64 part, .int .i64 factor] 29 := (Blk.fresh _ _ _ _ (by simp)).kept b1
  have b1' : Below w.heap.size w w1 := below_next b1 (below_al (below_al (Below.refl _ _) _) _)
  have u1_0 := B1.cell 0; simp at u1_0
  have u1_1 := B1.cell 1; simp at u1_1
  have u1_2 := B1.cell 2; simp at u1_2
  have u1_3 := B1.cell 3; simp at u1_3
  have u1_4 := B1.cell 4; simp at u1_4
  have v1_0 := A1.cell 0; simp at v1_0
  have v1_1 := A1.cell 1; simp at v1_1
  have v1_2 := A1.cell 2; simp at v1_2
  have v1_3 := A1.cell 3; simp at v1_3
  have v1_4 := A1.cell 4; simp at v1_4
  have v1_5 := A1.cell 5; simp at v1_5
  have v1_6 := A1.cell 6; simp at v1_6
  go_wp2_with fail
  go_region_held3 (fun w' => w'.cell? ⟨w.heap.size, 1, none⟩ = some (.int .i64 a) ∧ w'.cell? ⟨w.heap.size + 1, 1, none⟩ = some (.int .i64 since) ∧ Below w1.heap.size w1 w')
    (first
      | (refine ⟨u1_1, v1_1, ?_⟩; exact (Below.refl _ _).drew)
      | (rcases ‹_ ∧ _ ∧ Below _ _ _› with ⟨g0, g1, gb⟩; exact ⟨cell_next (by assumption) g0, cell_next (by assumption) g1, below_next (by assumption) gb⟩))
    (first
      | (go_at_call 13; refine (G1.out _).mono ?_; rintro e w2 ⟨rfl, z2⟩))
  rcases ‹_ ∧ _ ∧ Below _ _ _› with ⟨_, _, b2⟩
  have B2 := B1.kept b2
  have A2 := A1.kept b2
  have b2' := below_next b2 b1'
  clear u1_0 u1_1 u1_2 u1_3 u1_4 v1_0 v1_1 v1_2 v1_3 v1_4 v1_5 v1_6
  have u2_0 := B2.cell 0; simp at u2_0
  have u2_1 := B2.cell 1; simp at u2_1
  have u2_2 := B2.cell 2; simp at u2_2
  have u2_3 := B2.cell 3; simp at u2_3
  have u2_4 := B2.cell 4; simp at u2_4
  have v2_0 := A2.cell 0; simp at v2_0
  have v2_1 := A2.cell 1; simp at v2_1
  have v2_2 := A2.cell 2; simp at v2_2
  have v2_3 := A2.cell 3; simp at v2_3
  have v2_4 := A2.cell 4; simp at v2_4
  have v2_5 := A2.cell 5; simp at v2_5
  have v2_6 := A2.cell 6; simp at v2_6
  go_wp2_with fail
  go_region_held3 (fun w' => w'.cell? ⟨w.heap.size, 2, none⟩ = some (.int .i64 s) ∧ w'.cell? ⟨w.heap.size + 1, 2, none⟩ = some (.int .i64 size) ∧ Below w2.heap.size w2 w')
    (first
      | (refine ⟨u2_2, v2_2, ?_⟩; exact (Below.refl _ _).drew)
      | (rcases ‹_ ∧ _ ∧ Below _ _ _› with ⟨g0, g1, gb⟩; exact ⟨cell_next (by assumption) g0, cell_next (by assumption) g1, below_next (by assumption) gb⟩))
    (first
      | (go_at_call 14; refine (G2.out _).mono ?_; rintro e w3 ⟨rfl, z3⟩))
  rcases ‹_ ∧ _ ∧ Below _ _ _› with ⟨_, _, b3⟩
  have B3 := B2.kept b3
  have A3 := A2.kept b3
  have b3' := below_next b3 b2'
  clear u2_0 u2_1 u2_2 u2_3 u2_4 v2_0 v2_1 v2_2 v2_3 v2_4 v2_5 v2_6
  have u3_0 := B3.cell 0; simp at u3_0
  have u3_1 := B3.cell 1; simp at u3_1
  have u3_2 := B3.cell 2; simp at u3_2
  have u3_3 := B3.cell 3; simp at u3_3
  have u3_4 := B3.cell 4; simp at u3_4
  have v3_0 := A3.cell 0; simp at v3_0
  have v3_1 := A3.cell 1; simp at v3_1
  have v3_2 := A3.cell 2; simp at v3_2
  have v3_3 := A3.cell 3; simp at v3_3
  have v3_4 := A3.cell 4; simp at v3_4
  have v3_5 := A3.cell 5; simp at v3_5
  have v3_6 := A3.cell 6; simp at v3_6
  go_wp2_with fail
  go_region_held3 (fun w' => w'.cell? ⟨w.heap.size, 3, none⟩ = some (.int .i64 q) ∧ w'.cell? ⟨w.heap.size + 1, 4, none⟩ = some (.int .i64 qos) ∧ Below w3.heap.size w3 w')
    (first
      | (refine ⟨u3_3, v3_4, ?_⟩; exact (Below.refl _ _).drew)
      | (rcases ‹_ ∧ _ ∧ Below _ _ _› with ⟨g0, g1, gb⟩; exact ⟨cell_next (by assumption) g0, cell_next (by assumption) g1, below_next (by assumption) gb⟩))
    (first
      | (go_at_call 15; refine (G3.out _).mono ?_; rintro e w4 ⟨rfl, z4⟩))
  rcases ‹_ ∧ _ ∧ Below _ _ _› with ⟨_, _, b4⟩
  have B4 := B3.kept b4
  have A4 := A3.kept b4
  have b4' := below_next b4 b3'
  clear u3_0 u3_1 u3_2 u3_3 u3_4 v3_0 v3_1 v3_2 v3_3 v3_4 v3_5 v3_6
  have u4_0 := B4.cell 0; simp at u4_0
  have u4_1 := B4.cell 1; simp at u4_1
  have u4_2 := B4.cell 2; simp at u4_2
  have u4_3 := B4.cell 3; simp at u4_3
  have u4_4 := B4.cell 4; simp at u4_4
  have v4_0 := A4.cell 0; simp at v4_0
  have v4_1 := A4.cell 1; simp at v4_1
  have v4_2 := A4.cell 2; simp at v4_2
  have v4_3 := A4.cell 3; simp at v4_3
  have v4_4 := A4.cell 4; simp at v4_4
  have v4_5 := A4.cell 5; simp at v4_5
  have v4_6 := A4.cell 6; simp at v4_6
  go_wp2_with fail
  go_region_held3 (fun w' => w'.cell? ⟨w.heap.size, 4, none⟩ = some (.int .i64 p) ∧ w'.cell? ⟨w.heap.size + 1, 5, none⟩ = some (.int .i64 part) ∧ Below w4.heap.size w4 w')
    (first
      | (refine ⟨u4_4, v4_5, ?_⟩; exact (Below.refl _ _).drew)
      | (rcases ‹_ ∧ _ ∧ Below _ _ _› with ⟨g0, g1, gb⟩; exact ⟨cell_next (by assumption) g0, cell_next (by assumption) g1, below_next (by assumption) gb⟩))
    (first
      | (go_at_call 15; refine (G4.out _).mono ?_; rintro e w5 ⟨rfl, z5⟩))
  rcases ‹_ ∧ _ ∧ Below _ _ _› with ⟨_, _, b5⟩
  have B5 := B4.kept b5
  have A5 := A4.kept b5
  have b5' := below_next b5 b4'
  clear u4_0 u4_1 u4_2 u4_3 u4_4 v4_0 v4_1 v4_2 v4_3 v4_4 v4_5 v4_6
  have u5_0 := B5.cell 0; simp at u5_0
  have u5_1 := B5.cell 1; simp at u5_1
  have u5_2 := B5.cell 2; simp at u5_2
  have u5_3 := B5.cell 3; simp at u5_3
  have u5_4 := B5.cell 4; simp at u5_4
  have v5_0 := A5.cell 0; simp at v5_0
  have v5_1 := A5.cell 1; simp at v5_1
  have v5_2 := A5.cell 2; simp at v5_2
  have v5_3 := A5.cell 3; simp at v5_3
  have v5_4 := A5.cell 4; simp at v5_4
  have v5_5 := A5.cell 5; simp at v5_5
  have v5_6 := A5.cell 6; simp at v5_6
  go_wp2_with fail
  go_ret2
  exact ⟨ret_tup2 HV.out.symm HE.out.symm, b5'⟩

end Go.Proofs.Ytjhabfhpjpkpbaa
