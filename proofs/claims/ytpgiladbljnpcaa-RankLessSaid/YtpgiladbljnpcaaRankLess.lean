/-
  RankLess: of any three keys rank.Less is a strict order, whole, and gangerref03.Less's; so the law returns true for every input.
-/
import Derived.Test.YtpgiladbljnpcaaKeyKnown
import Derived.Test.YtpgiladbljnpcaaRows
import Derived.Test.YtpgiladbljnpcaaArgs2
namespace Go.Proofs.Ytpgiladbljnpcaa.rankLess
open Go.ChangeShapes Go.WideShapes Go.ChangeAt Go.RowKit
set_option linter.unusedVariables false

theorem own : ownKnob Try.prog.godebug = none := by kernel_rfl

open Go.ChangeShapes Go.WideShapes Go.ChangeAt Go.RowKit Go.Lib Go.Sort
attribute [local go_sem ↓] key_eql key_neq key_grd
set_option maxRecDepth 100000 in
set_option maxHeartbeats 1000000 in
theorem walk (p t i p' t' i' q s j : Int) (w : World) (w0_0 : (Lit.int .i64 p).wf = true) (w0_1 : (Lit.int .i64 t).wf = true) (w0_2 : (Lit.int .u32 i).wf = true) (w1_0 : (Lit.int .i64 p').wf = true) (w1_1 : (Lit.int .i64 t').wf = true) (w1_2 : (Lit.int .u32 i').wf = true) (w2_0 : (Lit.int .i64 q).wf = true) (w2_1 : (Lit.int .i64 s).wf = true) (w2_2 : (Lit.int .u32 j).wf = true) :
    Calls Try.prog 3 #[.agg #[.int .i64 p, .int .i64 t, .int .u32 i], .agg #[.int .i64 p', .int .i64 t', .int .u32 i'], .agg #[.int .i64 q, .int .i64 s, .int .u32 j]] w fun e w' => e = .returned (.bool true) ∧ Below w.heap.size w w' := by
  clear w0_0 w0_1 w0_2 w1_0 w1_1 w1_2 w2_0 w2_1 w2_2
  have KN : Hid (∀ w, Calls Try.prog 12 #[] w fun e w' => e = .returned (.bool true) ∧ Below w.heap.size w w') := fun w => known3_any w
  have L1 : Hid (∀ w, Calls Try.prog 10 #[.agg #[.int .i64 p, .int .i64 t, .int .u32 i], .agg #[.int .i64 p', .int .i64 t', .int .u32 i']] w fun e w' => e = .returned (.bool (lessB (p, t, i) (p', t', i'))) ∧ Below w.heap.size w w') := fun w => less_any (p, t, i) (p', t', i') w
  have L2 : Hid (∀ w, Calls Try.prog 10 #[.agg #[.int .i64 p', .int .i64 t', .int .u32 i'], .agg #[.int .i64 p, .int .i64 t, .int .u32 i]] w fun e w' => e = .returned (.bool (lessB (p', t', i') (p, t, i))) ∧ Below w.heap.size w w') := fun w => less_any (p', t', i') (p, t, i) w
  have L3 : Hid (∀ w, Calls Try.prog 10 #[.agg #[.int .i64 p', .int .i64 t', .int .u32 i'], .agg #[.int .i64 q, .int .i64 s, .int .u32 j]] w fun e w' => e = .returned (.bool (lessB (p', t', i') (q, s, j))) ∧ Below w.heap.size w w') := fun w => less_any (p', t', i') (q, s, j) w
  have L4 : Hid (∀ w, Calls Try.prog 10 #[.agg #[.int .i64 p, .int .i64 t, .int .u32 i], .agg #[.int .i64 p, .int .i64 t, .int .u32 i]] w fun e w' => e = .returned (.bool false) ∧ Below w.heap.size w w') := fun w => by have := less_any (p, t, i) (p, t, i) w; rw [less_irrefl] at this; exact this
  have L5 : Hid (∀ w, Calls Try.prog 10 #[.agg #[.int .i64 p, .int .i64 t, .int .u32 i], .agg #[.int .i64 q, .int .i64 s, .int .u32 j]] w fun e w' => e = .returned (.bool (lessB (p, t, i) (q, s, j))) ∧ Below w.heap.size w w') := fun w => less_any (p, t, i) (q, s, j) w
  have R1 : Hid (∀ w, Calls Try.prog 11 #[.agg #[.int .i64 p, .int .i64 t, .int .u32 i], .agg #[.int .i64 p', .int .i64 t', .int .u32 i']] w fun e w' => e = .returned (.bool (lessB (p, t, i) (p', t', i'))) ∧ Below w.heap.size w w') := fun w => refLess_any (p, t, i) (p', t', i') w
  have T : Hid (lessB (p, t, i) (p', t', i') = true → lessB (p', t', i') (q, s, j) = true → lessB (p, t, i) (q, s, j) = true) := fun h1 h2 => less_trans h1 h2
  have N : Hid (lessB (p, t, i) (p', t', i') = true → lessB (p', t', i') (p, t, i) = false) := fun h1 => less_asymm h1
  have E0 : Hid (lessB (p, t, i) (p', t', i') = false → lessB (p', t', i') (p, t, i) = false → keqB p t i p' t' i' = true) := fun h1 h2 => by unfold keqB; rw [totK _ _ h1 h2]; simp
  have E1 : Hid (lessB (p, t, i) (p', t', i') = true → keqB p t i p' t' i' = false) := fun h1 => by unfold keqB; have := less_ne h1; simpa using this
  have E2 : Hid (lessB (p', t', i') (p, t, i) = true → keqB p t i p' t' i' = false) := fun h1 => by unfold keqB; have := (less_ne h1).symm; simpa using this
  generalize lessB (p, t, i) (p', t', i') = x at *
  generalize lessB (p', t', i') (p, t, i) = y at *
  generalize lessB (p', t', i') (q, s, j) = z at *
  generalize lessB (p, t, i) (q, s, j) = u at *
  cases x
  · cases y
    · have hk := E0.out rfl rfl
      clear E0 E1 E2 T N
      go_enter Try.func3, Try.ntmps3
      go_wp2_with fail
      refine (L1.out _).mono ?_; rintro e w1 ⟨rfl, b1⟩
      have B0 : Blk w1 w.heap.size #[.int .i64 p, .int .i64 t, .int .u32 i] 24 := (((Blk.new _ _ _).old _).old _).kept b1
      have B1 : Blk w1 (w.heap.size + 1) #[.int .i64 p', .int .i64 t', .int .u32 i'] 24 := ((Blk.fresh _ _ _ _ (by simp)).old _).kept b1
      have B2 : Blk w1 (w.heap.size + 1 + 1) #[.int .i64 q, .int .i64 s, .int .u32 j] 24 := (Blk.fresh _ _ _ _ (by simp)).kept b1
      have bb : Below w.heap.size w w1 := below_next b1 ((((Below.refl _ _).alloc (Nat.le_refl _) _).alloc (by simp) _).alloc (by simp; omega) _)
      have c0_0 := B0.cell 0; simp at c0_0
      have c0_1 := B0.cell 1; simp at c0_1
      have c0_2 := B0.cell 2; simp at c0_2
      have c1_0 := B1.cell 0; simp at c1_0
      have c1_1 := B1.cell 1; simp at c1_1
      have c1_2 := B1.cell 2; simp at c1_2
      have c2_0 := B2.cell 0; simp at c2_0
      have c2_1 := B2.cell 1; simp at c2_1
      have c2_2 := B2.cell 2; simp at c2_2
      go_wp2_with fail
      refine (L2.out _).mono ?_; rintro e w2 ⟨rfl, b2⟩
      clear c0_0 c0_1 c0_2 c1_0 c1_1 c1_2 c2_0 c2_1 c2_2
      replace B0 := B0.kept b2
      replace B1 := B1.kept b2
      replace B2 := B2.kept b2
      replace bb := below_next b2 bb
      have c0_0 := B0.cell 0; simp at c0_0
      have c0_1 := B0.cell 1; simp at c0_1
      have c0_2 := B0.cell 2; simp at c0_2
      have c1_0 := B1.cell 0; simp at c1_0
      have c1_1 := B1.cell 1; simp at c1_1
      have c1_2 := B1.cell 2; simp at c1_2
      have c2_0 := B2.cell 0; simp at c2_0
      have c2_1 := B2.cell 1; simp at c2_1
      have c2_2 := B2.cell 2; simp at c2_2
      go_wp2_with fail
      refine (L3.out _).mono ?_; rintro e w3 ⟨rfl, b3⟩
      clear c0_0 c0_1 c0_2 c1_0 c1_1 c1_2 c2_0 c2_1 c2_2
      replace B0 := B0.kept b3
      replace B1 := B1.kept b3
      replace B2 := B2.kept b3
      replace bb := below_next b3 bb
      have c0_0 := B0.cell 0; simp at c0_0
      have c0_1 := B0.cell 1; simp at c0_1
      have c0_2 := B0.cell 2; simp at c0_2
      have c1_0 := B1.cell 0; simp at c1_0
      have c1_1 := B1.cell 1; simp at c1_1
      have c1_2 := B1.cell 2; simp at c1_2
      have c2_0 := B2.cell 0; simp at c2_0
      have c2_1 := B2.cell 1; simp at c2_1
      have c2_2 := B2.cell 2; simp at c2_2
      go_wp2_with fail
      refine (L4.out _).mono ?_; rintro e w4 ⟨rfl, b4⟩
      clear c0_0 c0_1 c0_2 c1_0 c1_1 c1_2 c2_0 c2_1 c2_2
      replace B0 := B0.kept b4
      replace B1 := B1.kept b4
      replace B2 := B2.kept b4
      replace bb := below_next b4 bb
      have c0_0 := B0.cell 0; simp at c0_0
      have c0_1 := B0.cell 1; simp at c0_1
      have c0_2 := B0.cell 2; simp at c0_2
      have c1_0 := B1.cell 0; simp at c1_0
      have c1_1 := B1.cell 1; simp at c1_1
      have c1_2 := B1.cell 2; simp at c1_2
      have c2_0 := B2.cell 0; simp at c2_0
      have c2_1 := B2.cell 1; simp at c2_1
      have c2_2 := B2.cell 2; simp at c2_2
      go_wp2_with fail
      refine (R1.out _).mono ?_; rintro e w5 ⟨rfl, b5⟩
      clear c0_0 c0_1 c0_2 c1_0 c1_1 c1_2 c2_0 c2_1 c2_2
      replace B0 := B0.kept b5
      replace B1 := B1.kept b5
      replace B2 := B2.kept b5
      replace bb := below_next b5 bb
      have c0_0 := B0.cell 0; simp at c0_0
      have c0_1 := B0.cell 1; simp at c0_1
      have c0_2 := B0.cell 2; simp at c0_2
      have c1_0 := B1.cell 0; simp at c1_0
      have c1_1 := B1.cell 1; simp at c1_1
      have c1_2 := B1.cell 2; simp at c1_2
      have c2_0 := B2.cell 0; simp at c2_0
      have c2_1 := B2.cell 1; simp at c2_1
      have c2_2 := B2.cell 2; simp at c2_2
      go_wp2_with fail
      refine (KN.out _).mono ?_; rintro e w6 ⟨rfl, b6⟩
      clear c0_0 c0_1 c0_2 c1_0 c1_1 c1_2 c2_0 c2_1 c2_2
      replace B0 := B0.kept b6
      replace B1 := B1.kept b6
      replace B2 := B2.kept b6
      replace bb := below_next b6 bb
      have c0_0 := B0.cell 0; simp at c0_0
      have c0_1 := B0.cell 1; simp at c0_1
      have c0_2 := B0.cell 2; simp at c0_2
      have c1_0 := B1.cell 0; simp at c1_0
      have c1_1 := B1.cell 1; simp at c1_1
      have c1_2 := B1.cell 2; simp at c1_2
      have c2_0 := B2.cell 0; simp at c2_0
      have c2_1 := B2.cell 1; simp at c2_1
      have c2_2 := B2.cell 2; simp at c2_2
      go_wp2_with fail
      go_ret
      exact ⟨rfl, bb⟩
    · have hk := E2.out rfl
      clear E0 E1 E2 T N
      go_enter Try.func3, Try.ntmps3
      go_wp2_with fail
      refine (L1.out _).mono ?_; rintro e w1 ⟨rfl, b1⟩
      have B0 : Blk w1 w.heap.size #[.int .i64 p, .int .i64 t, .int .u32 i] 24 := (((Blk.new _ _ _).old _).old _).kept b1
      have B1 : Blk w1 (w.heap.size + 1) #[.int .i64 p', .int .i64 t', .int .u32 i'] 24 := ((Blk.fresh _ _ _ _ (by simp)).old _).kept b1
      have B2 : Blk w1 (w.heap.size + 1 + 1) #[.int .i64 q, .int .i64 s, .int .u32 j] 24 := (Blk.fresh _ _ _ _ (by simp)).kept b1
      have bb : Below w.heap.size w w1 := below_next b1 ((((Below.refl _ _).alloc (Nat.le_refl _) _).alloc (by simp) _).alloc (by simp; omega) _)
      have c0_0 := B0.cell 0; simp at c0_0
      have c0_1 := B0.cell 1; simp at c0_1
      have c0_2 := B0.cell 2; simp at c0_2
      have c1_0 := B1.cell 0; simp at c1_0
      have c1_1 := B1.cell 1; simp at c1_1
      have c1_2 := B1.cell 2; simp at c1_2
      have c2_0 := B2.cell 0; simp at c2_0
      have c2_1 := B2.cell 1; simp at c2_1
      have c2_2 := B2.cell 2; simp at c2_2
      go_wp2_with fail
      refine (L2.out _).mono ?_; rintro e w2 ⟨rfl, b2⟩
      clear c0_0 c0_1 c0_2 c1_0 c1_1 c1_2 c2_0 c2_1 c2_2
      replace B0 := B0.kept b2
      replace B1 := B1.kept b2
      replace B2 := B2.kept b2
      replace bb := below_next b2 bb
      have c0_0 := B0.cell 0; simp at c0_0
      have c0_1 := B0.cell 1; simp at c0_1
      have c0_2 := B0.cell 2; simp at c0_2
      have c1_0 := B1.cell 0; simp at c1_0
      have c1_1 := B1.cell 1; simp at c1_1
      have c1_2 := B1.cell 2; simp at c1_2
      have c2_0 := B2.cell 0; simp at c2_0
      have c2_1 := B2.cell 1; simp at c2_1
      have c2_2 := B2.cell 2; simp at c2_2
      go_wp2_with fail
      refine (L3.out _).mono ?_; rintro e w3 ⟨rfl, b3⟩
      clear c0_0 c0_1 c0_2 c1_0 c1_1 c1_2 c2_0 c2_1 c2_2
      replace B0 := B0.kept b3
      replace B1 := B1.kept b3
      replace B2 := B2.kept b3
      replace bb := below_next b3 bb
      have c0_0 := B0.cell 0; simp at c0_0
      have c0_1 := B0.cell 1; simp at c0_1
      have c0_2 := B0.cell 2; simp at c0_2
      have c1_0 := B1.cell 0; simp at c1_0
      have c1_1 := B1.cell 1; simp at c1_1
      have c1_2 := B1.cell 2; simp at c1_2
      have c2_0 := B2.cell 0; simp at c2_0
      have c2_1 := B2.cell 1; simp at c2_1
      have c2_2 := B2.cell 2; simp at c2_2
      go_wp2_with fail
      refine (L4.out _).mono ?_; rintro e w4 ⟨rfl, b4⟩
      clear c0_0 c0_1 c0_2 c1_0 c1_1 c1_2 c2_0 c2_1 c2_2
      replace B0 := B0.kept b4
      replace B1 := B1.kept b4
      replace B2 := B2.kept b4
      replace bb := below_next b4 bb
      have c0_0 := B0.cell 0; simp at c0_0
      have c0_1 := B0.cell 1; simp at c0_1
      have c0_2 := B0.cell 2; simp at c0_2
      have c1_0 := B1.cell 0; simp at c1_0
      have c1_1 := B1.cell 1; simp at c1_1
      have c1_2 := B1.cell 2; simp at c1_2
      have c2_0 := B2.cell 0; simp at c2_0
      have c2_1 := B2.cell 1; simp at c2_1
      have c2_2 := B2.cell 2; simp at c2_2
      go_wp2_with fail
      refine (R1.out _).mono ?_; rintro e w5 ⟨rfl, b5⟩
      clear c0_0 c0_1 c0_2 c1_0 c1_1 c1_2 c2_0 c2_1 c2_2
      replace B0 := B0.kept b5
      replace B1 := B1.kept b5
      replace B2 := B2.kept b5
      replace bb := below_next b5 bb
      have c0_0 := B0.cell 0; simp at c0_0
      have c0_1 := B0.cell 1; simp at c0_1
      have c0_2 := B0.cell 2; simp at c0_2
      have c1_0 := B1.cell 0; simp at c1_0
      have c1_1 := B1.cell 1; simp at c1_1
      have c1_2 := B1.cell 2; simp at c1_2
      have c2_0 := B2.cell 0; simp at c2_0
      have c2_1 := B2.cell 1; simp at c2_1
      have c2_2 := B2.cell 2; simp at c2_2
      go_wp2_with fail
      refine (KN.out _).mono ?_; rintro e w6 ⟨rfl, b6⟩
      clear c0_0 c0_1 c0_2 c1_0 c1_1 c1_2 c2_0 c2_1 c2_2
      replace B0 := B0.kept b6
      replace B1 := B1.kept b6
      replace B2 := B2.kept b6
      replace bb := below_next b6 bb
      have c0_0 := B0.cell 0; simp at c0_0
      have c0_1 := B0.cell 1; simp at c0_1
      have c0_2 := B0.cell 2; simp at c0_2
      have c1_0 := B1.cell 0; simp at c1_0
      have c1_1 := B1.cell 1; simp at c1_1
      have c1_2 := B1.cell 2; simp at c1_2
      have c2_0 := B2.cell 0; simp at c2_0
      have c2_1 := B2.cell 1; simp at c2_1
      have c2_2 := B2.cell 2; simp at c2_2
      go_wp2_with fail
      go_ret
      exact ⟨rfl, bb⟩
  · have hk := E1.out rfl
    obtain rfl := N.out rfl
    clear E0 E1 E2 N
    cases z
    · clear T
      go_enter Try.func3, Try.ntmps3
      go_wp2_with fail
      refine (L1.out _).mono ?_; rintro e w1 ⟨rfl, b1⟩
      have B0 : Blk w1 w.heap.size #[.int .i64 p, .int .i64 t, .int .u32 i] 24 := (((Blk.new _ _ _).old _).old _).kept b1
      have B1 : Blk w1 (w.heap.size + 1) #[.int .i64 p', .int .i64 t', .int .u32 i'] 24 := ((Blk.fresh _ _ _ _ (by simp)).old _).kept b1
      have B2 : Blk w1 (w.heap.size + 1 + 1) #[.int .i64 q, .int .i64 s, .int .u32 j] 24 := (Blk.fresh _ _ _ _ (by simp)).kept b1
      have bb : Below w.heap.size w w1 := below_next b1 ((((Below.refl _ _).alloc (Nat.le_refl _) _).alloc (by simp) _).alloc (by simp; omega) _)
      have c0_0 := B0.cell 0; simp at c0_0
      have c0_1 := B0.cell 1; simp at c0_1
      have c0_2 := B0.cell 2; simp at c0_2
      have c1_0 := B1.cell 0; simp at c1_0
      have c1_1 := B1.cell 1; simp at c1_1
      have c1_2 := B1.cell 2; simp at c1_2
      have c2_0 := B2.cell 0; simp at c2_0
      have c2_1 := B2.cell 1; simp at c2_1
      have c2_2 := B2.cell 2; simp at c2_2
      go_wp2_with fail
      refine (L2.out _).mono ?_; rintro e w2 ⟨rfl, b2⟩
      clear c0_0 c0_1 c0_2 c1_0 c1_1 c1_2 c2_0 c2_1 c2_2
      replace B0 := B0.kept b2
      replace B1 := B1.kept b2
      replace B2 := B2.kept b2
      replace bb := below_next b2 bb
      have c0_0 := B0.cell 0; simp at c0_0
      have c0_1 := B0.cell 1; simp at c0_1
      have c0_2 := B0.cell 2; simp at c0_2
      have c1_0 := B1.cell 0; simp at c1_0
      have c1_1 := B1.cell 1; simp at c1_1
      have c1_2 := B1.cell 2; simp at c1_2
      have c2_0 := B2.cell 0; simp at c2_0
      have c2_1 := B2.cell 1; simp at c2_1
      have c2_2 := B2.cell 2; simp at c2_2
      go_wp2_with fail
      refine (L3.out _).mono ?_; rintro e w3 ⟨rfl, b3⟩
      clear c0_0 c0_1 c0_2 c1_0 c1_1 c1_2 c2_0 c2_1 c2_2
      replace B0 := B0.kept b3
      replace B1 := B1.kept b3
      replace B2 := B2.kept b3
      replace bb := below_next b3 bb
      have c0_0 := B0.cell 0; simp at c0_0
      have c0_1 := B0.cell 1; simp at c0_1
      have c0_2 := B0.cell 2; simp at c0_2
      have c1_0 := B1.cell 0; simp at c1_0
      have c1_1 := B1.cell 1; simp at c1_1
      have c1_2 := B1.cell 2; simp at c1_2
      have c2_0 := B2.cell 0; simp at c2_0
      have c2_1 := B2.cell 1; simp at c2_1
      have c2_2 := B2.cell 2; simp at c2_2
      go_wp2_with fail
      refine (L4.out _).mono ?_; rintro e w4 ⟨rfl, b4⟩
      clear c0_0 c0_1 c0_2 c1_0 c1_1 c1_2 c2_0 c2_1 c2_2
      replace B0 := B0.kept b4
      replace B1 := B1.kept b4
      replace B2 := B2.kept b4
      replace bb := below_next b4 bb
      have c0_0 := B0.cell 0; simp at c0_0
      have c0_1 := B0.cell 1; simp at c0_1
      have c0_2 := B0.cell 2; simp at c0_2
      have c1_0 := B1.cell 0; simp at c1_0
      have c1_1 := B1.cell 1; simp at c1_1
      have c1_2 := B1.cell 2; simp at c1_2
      have c2_0 := B2.cell 0; simp at c2_0
      have c2_1 := B2.cell 1; simp at c2_1
      have c2_2 := B2.cell 2; simp at c2_2
      go_wp2_with fail
      refine (R1.out _).mono ?_; rintro e w5 ⟨rfl, b5⟩
      clear c0_0 c0_1 c0_2 c1_0 c1_1 c1_2 c2_0 c2_1 c2_2
      replace B0 := B0.kept b5
      replace B1 := B1.kept b5
      replace B2 := B2.kept b5
      replace bb := below_next b5 bb
      have c0_0 := B0.cell 0; simp at c0_0
      have c0_1 := B0.cell 1; simp at c0_1
      have c0_2 := B0.cell 2; simp at c0_2
      have c1_0 := B1.cell 0; simp at c1_0
      have c1_1 := B1.cell 1; simp at c1_1
      have c1_2 := B1.cell 2; simp at c1_2
      have c2_0 := B2.cell 0; simp at c2_0
      have c2_1 := B2.cell 1; simp at c2_1
      have c2_2 := B2.cell 2; simp at c2_2
      go_wp2_with fail
      refine (KN.out _).mono ?_; rintro e w6 ⟨rfl, b6⟩
      clear c0_0 c0_1 c0_2 c1_0 c1_1 c1_2 c2_0 c2_1 c2_2
      replace B0 := B0.kept b6
      replace B1 := B1.kept b6
      replace B2 := B2.kept b6
      replace bb := below_next b6 bb
      have c0_0 := B0.cell 0; simp at c0_0
      have c0_1 := B0.cell 1; simp at c0_1
      have c0_2 := B0.cell 2; simp at c0_2
      have c1_0 := B1.cell 0; simp at c1_0
      have c1_1 := B1.cell 1; simp at c1_1
      have c1_2 := B1.cell 2; simp at c1_2
      have c2_0 := B2.cell 0; simp at c2_0
      have c2_1 := B2.cell 1; simp at c2_1
      have c2_2 := B2.cell 2; simp at c2_2
      go_wp2_with fail
      go_ret
      exact ⟨rfl, bb⟩
    · obtain rfl := T.out rfl rfl
      clear T
      go_enter Try.func3, Try.ntmps3
      go_wp2_with fail
      refine (L1.out _).mono ?_; rintro e w1 ⟨rfl, b1⟩
      have B0 : Blk w1 w.heap.size #[.int .i64 p, .int .i64 t, .int .u32 i] 24 := (((Blk.new _ _ _).old _).old _).kept b1
      have B1 : Blk w1 (w.heap.size + 1) #[.int .i64 p', .int .i64 t', .int .u32 i'] 24 := ((Blk.fresh _ _ _ _ (by simp)).old _).kept b1
      have B2 : Blk w1 (w.heap.size + 1 + 1) #[.int .i64 q, .int .i64 s, .int .u32 j] 24 := (Blk.fresh _ _ _ _ (by simp)).kept b1
      have bb : Below w.heap.size w w1 := below_next b1 ((((Below.refl _ _).alloc (Nat.le_refl _) _).alloc (by simp) _).alloc (by simp; omega) _)
      have c0_0 := B0.cell 0; simp at c0_0
      have c0_1 := B0.cell 1; simp at c0_1
      have c0_2 := B0.cell 2; simp at c0_2
      have c1_0 := B1.cell 0; simp at c1_0
      have c1_1 := B1.cell 1; simp at c1_1
      have c1_2 := B1.cell 2; simp at c1_2
      have c2_0 := B2.cell 0; simp at c2_0
      have c2_1 := B2.cell 1; simp at c2_1
      have c2_2 := B2.cell 2; simp at c2_2
      go_wp2_with fail
      refine (L2.out _).mono ?_; rintro e w2 ⟨rfl, b2⟩
      clear c0_0 c0_1 c0_2 c1_0 c1_1 c1_2 c2_0 c2_1 c2_2
      replace B0 := B0.kept b2
      replace B1 := B1.kept b2
      replace B2 := B2.kept b2
      replace bb := below_next b2 bb
      have c0_0 := B0.cell 0; simp at c0_0
      have c0_1 := B0.cell 1; simp at c0_1
      have c0_2 := B0.cell 2; simp at c0_2
      have c1_0 := B1.cell 0; simp at c1_0
      have c1_1 := B1.cell 1; simp at c1_1
      have c1_2 := B1.cell 2; simp at c1_2
      have c2_0 := B2.cell 0; simp at c2_0
      have c2_1 := B2.cell 1; simp at c2_1
      have c2_2 := B2.cell 2; simp at c2_2
      go_wp2_with fail
      refine (L3.out _).mono ?_; rintro e w3 ⟨rfl, b3⟩
      clear c0_0 c0_1 c0_2 c1_0 c1_1 c1_2 c2_0 c2_1 c2_2
      replace B0 := B0.kept b3
      replace B1 := B1.kept b3
      replace B2 := B2.kept b3
      replace bb := below_next b3 bb
      have c0_0 := B0.cell 0; simp at c0_0
      have c0_1 := B0.cell 1; simp at c0_1
      have c0_2 := B0.cell 2; simp at c0_2
      have c1_0 := B1.cell 0; simp at c1_0
      have c1_1 := B1.cell 1; simp at c1_1
      have c1_2 := B1.cell 2; simp at c1_2
      have c2_0 := B2.cell 0; simp at c2_0
      have c2_1 := B2.cell 1; simp at c2_1
      have c2_2 := B2.cell 2; simp at c2_2
      go_wp2_with fail
      refine (L4.out _).mono ?_; rintro e w4 ⟨rfl, b4⟩
      clear c0_0 c0_1 c0_2 c1_0 c1_1 c1_2 c2_0 c2_1 c2_2
      replace B0 := B0.kept b4
      replace B1 := B1.kept b4
      replace B2 := B2.kept b4
      replace bb := below_next b4 bb
      have c0_0 := B0.cell 0; simp at c0_0
      have c0_1 := B0.cell 1; simp at c0_1
      have c0_2 := B0.cell 2; simp at c0_2
      have c1_0 := B1.cell 0; simp at c1_0
      have c1_1 := B1.cell 1; simp at c1_1
      have c1_2 := B1.cell 2; simp at c1_2
      have c2_0 := B2.cell 0; simp at c2_0
      have c2_1 := B2.cell 1; simp at c2_1
      have c2_2 := B2.cell 2; simp at c2_2
      go_wp2_with fail
      refine (L5.out _).mono ?_; rintro e w5 ⟨rfl, b5⟩
      clear c0_0 c0_1 c0_2 c1_0 c1_1 c1_2 c2_0 c2_1 c2_2
      replace B0 := B0.kept b5
      replace B1 := B1.kept b5
      replace B2 := B2.kept b5
      replace bb := below_next b5 bb
      have c0_0 := B0.cell 0; simp at c0_0
      have c0_1 := B0.cell 1; simp at c0_1
      have c0_2 := B0.cell 2; simp at c0_2
      have c1_0 := B1.cell 0; simp at c1_0
      have c1_1 := B1.cell 1; simp at c1_1
      have c1_2 := B1.cell 2; simp at c1_2
      have c2_0 := B2.cell 0; simp at c2_0
      have c2_1 := B2.cell 1; simp at c2_1
      have c2_2 := B2.cell 2; simp at c2_2
      go_wp2_with fail
      refine (R1.out _).mono ?_; rintro e w6 ⟨rfl, b6⟩
      clear c0_0 c0_1 c0_2 c1_0 c1_1 c1_2 c2_0 c2_1 c2_2
      replace B0 := B0.kept b6
      replace B1 := B1.kept b6
      replace B2 := B2.kept b6
      replace bb := below_next b6 bb
      have c0_0 := B0.cell 0; simp at c0_0
      have c0_1 := B0.cell 1; simp at c0_1
      have c0_2 := B0.cell 2; simp at c0_2
      have c1_0 := B1.cell 0; simp at c1_0
      have c1_1 := B1.cell 1; simp at c1_1
      have c1_2 := B1.cell 2; simp at c1_2
      have c2_0 := B2.cell 0; simp at c2_0
      have c2_1 := B2.cell 1; simp at c2_1
      have c2_2 := B2.cell 2; simp at c2_2
      go_wp2_with fail
      refine (KN.out _).mono ?_; rintro e w7 ⟨rfl, b7⟩
      clear c0_0 c0_1 c0_2 c1_0 c1_1 c1_2 c2_0 c2_1 c2_2
      replace B0 := B0.kept b7
      replace B1 := B1.kept b7
      replace B2 := B2.kept b7
      replace bb := below_next b7 bb
      have c0_0 := B0.cell 0; simp at c0_0
      have c0_1 := B0.cell 1; simp at c0_1
      have c0_2 := B0.cell 2; simp at c0_2
      have c1_0 := B1.cell 0; simp at c1_0
      have c1_1 := B1.cell 1; simp at c1_1
      have c1_2 := B1.cell 2; simp at c1_2
      have c2_0 := B2.cell 0; simp at c2_0
      have c2_1 := B2.cell 1; simp at c2_1
      have c2_2 := B2.cell 2; simp at c2_2
      go_wp2_with fail
      go_ret
      exact ⟨rfl, bb⟩


set_option maxRecDepth 100000 in
theorem lifted (os : Os) (started : os.Started) (H : Type) (enc : TypeId × Value → H) :
    ReturnsInHanded {} Try.checked os 3 .any (Rows.rankLessSpec.pre6 enc Try.prog Try.f3 Rows.rankLessRow.domain false) (Rows.rankLessSpec.post enc Try.prog Try.f3 false true false false) := by
  refine returnsInHanded_of_change (C := Try.checked) own started (by kernel_rfl) Try.func3
    (ChangeSpec.witness6 (enc := enc) (C := Try.checked) false ⟨#[], #[.agg #[.int .i64 0, .int .i64 0, .int .u32 0], .agg #[.int .i64 0, .int .i64 0, .int .u32 0], .agg #[.int .i64 0, .int .i64 0, .int .u32 0]], []⟩ 8 (by kernel_rfl) (by kernel_rfl) (by kernel_rfl) (by kernel_rfl)) ?_
  intro W base args ds gs before hval0 hW _ _
  have hval : ∀ (j : Nat) t v, Try.f3.params[j]? = some t → args[j]? = some v → Value.okWide Try.prog W .any base t v := hval0
  have hW' := hW
  obtain ⟨p, q, hA0, hV, rfl, hfz, hnd⟩ := hW
  have hA : DataW.TrodAll enc Try.prog W 0 (fun _ => true) true Try.f3.params.toList args.toList ds p := hA0
  rw [Try.params3] at hA hval
  obtain ⟨v0, vs0, d0, ds0, p0, q0, hargs, rfl, rfl, h0, r0⟩ := trodAll_cons hA
  obtain ⟨v1, vs1, d1, ds1, p1, q1, rfl, rfl, rfl, h1, r1⟩ := trodAll_cons r0
  obtain ⟨v2, vs2, d2, ds2, p2, q2, rfl, rfl, rfl, h2, r2⟩ := trodAll_cons r1
  obtain ⟨rfl, rfl, rfl⟩ := trodAll_nil r2
  obtain rfl : args = #[v0, v1, v2] := by cases args; simp_all
  obtain ⟨cs0, rfl, hs0, hf0⟩ := open_plain_struct Try.underlying24 (by kernel_rfl) (by kernel_rfl) (hval 0 24 v0 rfl rfl) h0
  obtain ⟨c0_0, y0_0, n0_0, e0_0, t0_0⟩ := hf0 0 _ rfl
  obtain ⟨p, rfl, w0_0⟩ := field_int Try.underlying3 t0_0
  obtain ⟨c0_1, y0_1, n0_1, e0_1, t0_1⟩ := hf0 1 _ rfl
  obtain ⟨t, rfl, w0_1⟩ := field_int Try.underlying3 t0_1
  obtain ⟨c0_2, y0_2, n0_2, e0_2, t0_2⟩ := hf0 2 _ rfl
  obtain ⟨i, rfl, w0_2⟩ := field_int Try.underlying22 t0_2
  obtain rfl : cs0 = #[.int .i64 p, .int .i64 t, .int .u32 i] := arr_of cs0 [.int .i64 p, .int .i64 t, .int .u32 i] hs0 (fun j hj => by match j, hj with | 0, _ => exact e0_0 | 1, _ => exact e0_1 | 2, _ => exact e0_2 | j + 3, hj => exact absurd hj (by simp))
  obtain ⟨cs1, rfl, hs1, hf1⟩ := open_plain_struct Try.underlying24 (by kernel_rfl) (by kernel_rfl) (hval 1 24 v1 rfl rfl) h1
  obtain ⟨c1_0, y1_0, n1_0, e1_0, t1_0⟩ := hf1 0 _ rfl
  obtain ⟨p', rfl, w1_0⟩ := field_int Try.underlying3 t1_0
  obtain ⟨c1_1, y1_1, n1_1, e1_1, t1_1⟩ := hf1 1 _ rfl
  obtain ⟨t', rfl, w1_1⟩ := field_int Try.underlying3 t1_1
  obtain ⟨c1_2, y1_2, n1_2, e1_2, t1_2⟩ := hf1 2 _ rfl
  obtain ⟨i', rfl, w1_2⟩ := field_int Try.underlying22 t1_2
  obtain rfl : cs1 = #[.int .i64 p', .int .i64 t', .int .u32 i'] := arr_of cs1 [.int .i64 p', .int .i64 t', .int .u32 i'] hs1 (fun j hj => by match j, hj with | 0, _ => exact e1_0 | 1, _ => exact e1_1 | 2, _ => exact e1_2 | j + 3, hj => exact absurd hj (by simp))
  obtain ⟨cs2, rfl, hs2, hf2⟩ := open_plain_struct Try.underlying24 (by kernel_rfl) (by kernel_rfl) (hval 2 24 v2 rfl rfl) h2
  obtain ⟨c2_0, y2_0, n2_0, e2_0, t2_0⟩ := hf2 0 _ rfl
  obtain ⟨q, rfl, w2_0⟩ := field_int Try.underlying3 t2_0
  obtain ⟨c2_1, y2_1, n2_1, e2_1, t2_1⟩ := hf2 1 _ rfl
  obtain ⟨s, rfl, w2_1⟩ := field_int Try.underlying3 t2_1
  obtain ⟨c2_2, y2_2, n2_2, e2_2, t2_2⟩ := hf2 2 _ rfl
  obtain ⟨j, rfl, w2_2⟩ := field_int Try.underlying22 t2_2
  obtain rfl : cs2 = #[.int .i64 q, .int .i64 s, .int .u32 j] := arr_of cs2 [.int .i64 q, .int .i64 s, .int .u32 j] hs2 (fun j hj => by match j, hj with | 0, _ => exact e2_0 | 1, _ => exact e2_1 | 2, _ => exact e2_2 | j + 3, hj => exact absurd hj (by simp))
  clear hA0 hval0
  refine (walk p t i p' t' i' q s j W w0_0 w0_1 w0_2 w1_0 w1_1 w1_2 w2_0 w2_1 w2_2).mono fun e W' ⟨he, hb⟩ => ?_
  subst he
  exact ⟨_, rfl, law_post (by kernel_rfl) (by kernel_rfl) rfl Try.underlying4 rfl hW' rfl hb⟩

theorem over : Rows.rankLessRow.holds Try.pinned (OpenSpec.ofChange Rows.rankLessSpec) :=
  OpenClaim.holds_of_wide 3 Try.f3 rfl rfl rfl rfl rfl rfl rfl ⟨rfl, rfl, rfl, rfl, rfl⟩ rfl rfl rfl rfl rfl (by kernel_rfl) Try.func3 (by kernel_rfl)
    (of_decide_eq_true (by kernel_rfl)) (by unfold Func.isWrapper; first | (rw [if_pos (by decide +kernel)]; kernel_rfl) | (rw [if_neg (by decide +kernel)]; exact ⟨rfl, rfl⟩))
    (fun os started H enc _ => lifted os started H enc)

theorem proved : Rows.RankLessSaid :=
  over
#print axioms proved
end Go.Proofs.Ytpgiladbljnpcaa.rankLess
