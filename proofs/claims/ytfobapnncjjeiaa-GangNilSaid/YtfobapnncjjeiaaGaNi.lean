/-
  A matrix that is not there.
-/
import Derived.Test.YtfobapnncjjeiaaGaLw
namespace Go.Proofs.Ytfobapnncjjeiaa
open Go Go.ChangeShapes Go.WideShapes Go.ChangeAt Go.RowKit Go.Lib Go.Deep
set_option linter.unusedVariables false

set_option maxRecDepth 100000 in
theorem nplace_any (id O : Int) (w : World) : Calls Try.prog 29 #[.pointer none, .int .u32 id, .int .i64 O] w fun e w' => e = .returned (.tuple #[.agg #[.int .u32 0, .int .i64 0, .int .i64 0, .int .i64 0], .int .i64 1]) ∧ Below w.heap.size w w' := by
  obtain ⟨gR, hgR⟩ : ∃ g, g = w.heap.size := ⟨_, rfl⟩
  obtain ⟨X, hX⟩ : ∃ X, X = w.alloc (.cells #[.int .u32 0, .int .i64 0, .int .i64 0, .int .i64 0] 48) := ⟨_, rfl⟩
  have hbX : Below w.heap.size w X := by rw [hX]; exact (Below.refl _ _).alloc (Nat.le_refl _) _
  have HBX := Lib.hid hbX
  have HR : Hid (Blk X gR #[.int .u32 0, .int .i64 0, .int .i64 0, .int .i64 0] 48) := by unfold Hid; rw [hX, hgR]; exact Blk.new w _ _
  have HGE : Hid (w.heap.size ≤ gR) := Nat.le_of_eq hgR.symm
  clear hbX
  go_enter Try.func29, Try.ntmps29
  go_upto_region 1 with fail
  rw [← hgR, ← hX]
  clear hgR hX
  obtain ⟨r0, r1, r2, r3, f0, f1, f2, f3⟩ := c4_of HR.out
  obtain ⟨W4, e4, hb4, hc4⟩ := end4 HR.out (.int .u32 0) (.int .i64 0) (.int .i64 0) (.int .i64 0)
  have HB4 := Lib.hid hb4
  have HC4 := Lib.hid hc4
  clear hb4 hc4
  go_wp2_with fail
  clear e4 r0 r1 r2 r3 f0 f1 f2 f3
  obtain ⟨z0, z1, z2, z3, _, _, _, _⟩ := c4_of HB4.out
  refine bodyPost_ret (v := .tuple #[.agg #[.int .u32 0, .int .i64 0, .int .i64 0, .int .i64 0], .int .i64 1]) (by simp [results, Try.results29, go_sem, z0, z1, z2, z3]) rfl ?_
  exact ⟨rfl, HBX.out.trans (HC4.out.to_below HBX.out.size (fun k hk e => by have h : k = gR := e; have := HGE.out; omega))⟩
theorem nrem_any (id : Int) (w : World) : Calls Try.prog 30 #[.pointer none, .int .u32 id] w fun e w' => e = .returned (.int .i64 1) ∧ w' = w := by
  go_enter Try.func30, Try.ntmps30
  go_wp2_with fail
  go_ret
  exact ⟨rfl, rfl⟩
theorem nturn_any (w : World) : Calls Try.prog 27 #[.pointer none] w fun e w' => e = .returned (.tuple #[]) ∧ w' = w := by
  go_enter Try.func27, Try.ntmps27
  go_wp2_with fail
  go_returns
  exact ⟨rfl, rfl⟩
theorem nunify_any (w : World) : Calls Try.prog 28 #[.pointer none] w fun e w' => e = .returned (.int .i64 0) ∧ w' = w := by
  go_enter Try.func28, Try.ntmps28
  go_wp2_with fail
  go_ret
  exact ⟨rfl, rfl⟩
theorem nactive_any (w : World) : Calls Try.prog 19 #[.pointer none] w fun e w' => e = .returned (.int .i64 0) ∧ w' = w := by
  go_enter Try.func19, Try.ntmps19
  go_wp2_with fail
  go_ret
  exact ⟨rfl, rfl⟩
theorem nrows_any (w : World) : Calls Try.prog 17 #[.pointer none] w fun e w' => e = .returned (.int .i64 0) ∧ w' = w := by
  go_enter Try.func17, Try.ntmps17
  go_wp2_with fail
  go_ret
  exact ⟨rfl, rfl⟩
theorem ncells_any (w : World) : Calls Try.prog 14 #[.pointer none] w fun e w' => e = .returned (.slice none 0 0) ∧ w' = w := by
  go_enter Try.func14, Try.ntmps14
  go_wp2_with fail
  go_ret
  exact ⟨rfl, rfl⟩
theorem nidle_any (w : World) : Calls Try.prog 20 #[.pointer none, .int .i64 0] w fun e w' => e = .returned (.int .i64 0) ∧ w' = w := by
  go_enter Try.func20, Try.ntmps20
  go_wp2_with fail
  go_ret
  exact ⟨rfl, rfl⟩
set_option maxRecDepth 100000 in
theorem nruns_any (w : World) : Calls Try.prog 15 #[.pointer none] w fun e w' => (∃ a c, e = .returned (.slice a 0 c)) ∧ Below w.heap.size w w' := by
  have RW := Lib.hid (nrows_any w)
  go_enter Try.func15, Try.ntmps15
  go_wp2_with fail
  refine RW.out.mono ?_; rintro e w1 ⟨rfl, hw⟩
  obtain rfl := hw
  clear RW
  go_upto_region 2 with fail
  obtain ⟨w2, hw2⟩ : ∃ x, x = w1.alloc (.cells zero16 62) := ⟨_, rfl⟩
  obtain ⟨w3, hw3⟩ : ∃ x, x = w2.alloc (.cells #[] 32) := ⟨_, rfl⟩
  have hb2 : Below w1.heap.size w1 w2 := by rw [hw2]; exact (Below.refl _ _).alloc (Nat.le_refl _) _
  have hb3 : Below w2.heap.size w2 w3 := by rw [hw3]; exact (Below.refl _ _).alloc (Nat.le_refl _) _
  have HB3 : Hid (Below w1.heap.size w1 w3) := below_next hb3 hb2
  have HOW : Hid (UOwn w3 w1.heap.size (.slice (some ⟨w2.heap.size, 0, none⟩) 0 0) []) := by
    unfold Hid; rw [hw3]; exact World.ownsRow_made w2 #[] 0 hb2.size (Nat.zero_le _) (by simp)
  unfold zero16 at hw2
  go_upto_region 3 with fail
  rw [← hw2]
  clear hw2
  obtain ⟨g3, hg3⟩ : ∃ g, g = w2.heap.size := ⟨_, rfl⟩
  rw [← hg3] at HOW
  go_upto_region 4 with fail
  rw [← hw3, ← hg3]
  clear hw3 hg3 hb2 hb3
  have SO := Lib.hid (sort12 w1.heap.size (.slice (some ⟨g3, 0, none⟩) 0 0) [] w3 (by decide) HOW.out)
  go_wp2_with fail
  go_loopw [15, 5] (fun iv sv wr => iv = .int .i64 0 ∧ sv = .slice (some ⟨g3, 0, none⟩) 0 0 ∧ wr = w3) (fun _ _ _ => 0)
  case atStart => exact ⟨rfl, rfl, rfl⟩
  case round =>
    obtain ⟨rfl, rfl, rfl⟩ := hrel
    go_wp2_with fail
    refine SO.out.mono ?_; rintro e w5 ⟨rfl, _, h4⟩
    have HB5 := Lib.hid (HB3.out.grown h4 HB3.out.size (fun k hk => (HOW.out.lt k hk).1))
    clear h4 SO
    go_wp2_with fail
    go_ret
    exact ⟨⟨_, _, rfl⟩, HB5.out⟩
end Go.Proofs.Ytfobapnncjjeiaa
