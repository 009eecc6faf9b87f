/-
  backfill's board.mayEver.
  backfill's slotOf, startNow, promise, none.
  backfill's check of a plan's jobs.
-/
import Derived.Test.YtioeblljabohbaaBfX
import Derived.Deep.DeepCutAuto
import Derived.Test.YtioeblljabohbaaBfTk
import Derived.Test.YtioeblljabohbaaBfZz
namespace Go.Proofs.Ytioeblljabohbaa
set_option linter.unusedVariables false

section
open Go Go.RowKit Go.Lib Go.Sort
/-- Is there a block of that order of which no worker failed? -/
def everB (n : Nat) (fl : List Nat) (q : Nat) : Bool := decide (q ≤ n) && decide (0 < zN (markK fl q fl.length) (2 ^ (n - q)))
set_option maxRecDepth 100000 in
set_option maxHeartbeats 4000000 in
theorem ever_any (bd B0 n q : Nat) (id len : Int) (fl : List Nat) (F T : List HeT) (w : World) (hb : BdI w bd B0 n fl F T) (hn : n ≤ 10) (hfl : ∀ x ∈ fl, x < 2 ^ n) (hfn : fl.length ≤ 1024) :
    Calls Try.prog 59 #[.pointer (some ⟨bd, 0, none⟩), .agg #[.int .u32 id, .int .i64 (q : Nat), .int .i64 len]] w fun e w' => e = .returned (.bool (everB n fl q)) ∧ Below w.heap.size w w' := by
  obtain ⟨W, hW⟩ : ∃ W, W = w.alloc (.cells #[.int .u32 id, .int .i64 (q : Nat), .int .i64 len] 51) := ⟨_, rfl⟩
  obtain ⟨gB, hgB⟩ : ∃ g, g = w.heap.size := ⟨_, rfl⟩
  have hbW : Below w.heap.size w W := by rw [hW]; exact (Below.refl _ _).alloc (Nat.le_refl _) _
  have hG : Blk W gB #[.int .u32 id, .int .i64 (q : Nat), .int .i64 len] 51 := by rw [hW, hgB]; exact Blk.new _ _ _
  have HBW := Lib.hid hbW
  have g1 := hG.cell 1
  simp at g1
  have hbd : ∃ vf vF vT, Blk W bd #[.int .i64 (n : Nat), vf, vF, vT] 85 := by
    obtain ⟨vf, vF, vT, h1, _⟩ := hb.kept hbW
    exact ⟨vf, vF, vT, h1⟩
  obtain ⟨vf, vF, vT, h1⟩ := hbd
  have b0 := h1.cell 0
  simp at b0
  have NM : Hid (q ≤ n → ∀ w', Below W.heap.size W w' → _) := fun hq w' h => newMarks_any bd B0 n q fl F T w' ((hb.kept hbW).kept h) hn hq hfl hfn
  unfold everB
  obtain ⟨N, hN⟩ : ∃ N, N = 2 ^ (n - q) := ⟨_, rfl⟩
  rw [← hN] at NM ⊢
  obtain ⟨z, hz⟩ : ∃ z, z = zN (markK fl q fl.length) N := ⟨_, rfl⟩
  rw [← hz]
  have HZ := Lib.hid hz
  clear hN hz hb h1 hG hbW hfl hfn
  go_enter Try.func59, Try.ntmps59
  go_upto_region 1 with fail
  rw [← hW, ← hgB]
  clear hW hgB
  by_cases hq : q ≤ n
  · have d1 : decide (q ≤ n) = true := decide_eq_true hq
    have d2 : decide ((q : Int) ≤ (n : Int)) = true := decide_eq_true (by omega)
    have NM2 := Lib.hid (NM.out hq)
    clear NM
    have hgz : decide ((z : Int) > 0) = decide (0 < z) := by rw [Bool.eq_iff_iff, decide_eq_true_eq, decide_eq_true_eq]; omega
    refine wp_region_held_drew (S := (fun w' => w'.cell? ⟨bd, 0, none⟩ = some (.int .i64 (n : Nat)) ∧ w'.cell? ⟨gB, 1, none⟩ = some (.int .i64 (q : Nat)) ∧ Below W.heap.size W w')) (by kernel_rfl) (by
      first
        | exact ⟨b0, g1, Below.refl _ _⟩
        | exact ⟨b0, g1, (Below.refl _ _).drew⟩
      ) (fun hHeld => ?_)
    refine wpAnyH_take (i := 0) (oi := { dst := some 5, op := Op.fieldAddr 51 (Operand.tmp 3) 1, type := 0, pos := "plan.go:92", after := #[], guard := none }) (v := ?_) rfl (by kernel_rfl) (by kernel_rfl) (by kernel_rfl) (fun _ _ _ h => h) (Or.inl ⟨by kernel_rfl, ?_⟩) (by assumption) ?_
    rotate_left
    · (intro w hSw; (try dsimp only at hSw); go_simp; try with_reducible rfl)
    try simp only [Act.put, List.setIfInBounds_toArray, List.set_cons_zero, List.set_cons_succ]
    refine wpAnyH_take (i := 1) (oi := { dst := some 6, op := Op.load 3 (Operand.tmp 5), type := 3, pos := "plan.go:92", after := #[{ on := 0, ground := Ground.data }], guard := none }) (v := ?_) rfl (by kernel_rfl) (by kernel_rfl) (by kernel_rfl) (fun _ _ _ h => h) (Or.inl ⟨by kernel_rfl, ?_⟩) (by assumption) ?_
    rotate_left
    · (intro w hSw; (try dsimp only at hSw); go_simp; try with_reducible rfl)
    try simp only [Act.put, List.setIfInBounds_toArray, List.set_cons_zero, List.set_cons_succ]
    refine wpAnyH_take (i := 2) (oi := { dst := some 7, op := Op.move (Operand.tmp 0), type := 70, pos := "plan.go:92", after := #[], guard := none }) (v := ?_) rfl (by kernel_rfl) (by kernel_rfl) (by kernel_rfl) (fun _ _ _ h => h) (Or.inl ⟨by kernel_rfl, ?_⟩) (by assumption) ?_
    rotate_left
    · (intro w hSw; (try dsimp only at hSw); go_simp; try with_reducible rfl)
    try simp only [Act.put, List.setIfInBounds_toArray, List.set_cons_zero, List.set_cons_succ]
    refine wpAnyH_take (i := 3) (oi := { dst := some 8, op := Op.nilCheck (Operand.tmp 7), type := 0, pos := "plan.go:92", after := #[{ on := 2, ground := Ground.data }], guard := none }) (v := ?_) rfl (by kernel_rfl) (by kernel_rfl) (by kernel_rfl) (fun _ _ _ h => h) (Or.inl ⟨by kernel_rfl, ?_⟩) (by assumption) ?_
    rotate_left
    · (intro w hSw; (try dsimp only at hSw); go_simp; try with_reducible rfl)
    try simp only [Act.put, List.setIfInBounds_toArray, List.set_cons_zero, List.set_cons_succ]
    refine wpAnyH_take (i := 4) (oi := { dst := some 9, op := Op.fieldAddr 85 (Operand.tmp 8) 0, type := 0, pos := "plan.go:92", after := #[{ on := 3, ground := Ground.data }], guard := none }) (v := ?_) rfl (by kernel_rfl) (by kernel_rfl) (by kernel_rfl) (fun _ _ _ h => h) (Or.inl ⟨by kernel_rfl, ?_⟩) (by assumption) ?_
    rotate_left
    · (intro w hSw; (try dsimp only at hSw); go_simp; try with_reducible rfl)
    try simp only [Act.put, List.setIfInBounds_toArray, List.set_cons_zero, List.set_cons_succ]
    refine wpAnyH_take (i := 5) (oi := { dst := some 10, op := Op.load 3 (Operand.tmp 9), type := 3, pos := "plan.go:92", after := #[{ on := 4, ground := Ground.data }], guard := none }) (v := ?_) rfl (by kernel_rfl) (by kernel_rfl) (by kernel_rfl) (fun _ _ _ h => h) (Or.inl ⟨by kernel_rfl, ?_⟩) (by assumption) ?_
    rotate_left
    · (intro w hSw; (try dsimp only at hSw); go_simp; try with_reducible rfl)
    try simp only [Act.put, List.setIfInBounds_toArray, List.set_cons_zero, List.set_cons_succ]
    refine wpAnyH_take (i := 6) (oi := { dst := some 11, op := Op.binOp BinOp.leq 3 (Operand.tmp 6) (Operand.tmp 10) 3, type := 4, pos := "plan.go:92", after := #[{ on := 1, ground := Ground.data }, { on := 5, ground := Ground.data }], guard := none }) (v := ?_) rfl (by kernel_rfl) (by kernel_rfl) (by kernel_rfl) (fun _ _ _ h => h) (Or.inl ⟨by kernel_rfl, ?_⟩) (by assumption) ?_
    rotate_left
    · (intro w hSw; (try dsimp only at hSw); go_simp; try with_reducible rfl)
    try simp only [Act.put, List.setIfInBounds_toArray, List.set_cons_zero, List.set_cons_succ]
    refine wpAnyH_take (i := 7) (oi := { dst := some 12, op := Op.move (Operand.tmp 11), type := 4, pos := "plan.go:92", after := #[{ on := 6, ground := Ground.data }], guard := none }) (v := ?_) rfl (by kernel_rfl) (by kernel_rfl) (by kernel_rfl) (fun _ _ _ h => h) (Or.inl ⟨by kernel_rfl, ?_⟩) (by assumption) ?_
    rotate_left
    · (intro w hSw; (try dsimp only at hSw); go_simp; try with_reducible rfl)
    try simp only [Act.put, List.setIfInBounds_toArray, List.set_cons_zero, List.set_cons_succ]
    refine wpAnyH_take (i := 8) (oi := { dst := some 13, op := Op.move (Operand.tmp 0), type := 70, pos := "plan.go:92", after := #[{ on := 7, ground := Ground.guard }], guard := some (7, true) }) (v := ?_) rfl (by kernel_rfl) (by kernel_rfl) (by kernel_rfl) (fun _ _ _ h => h) (Or.inl ⟨by kernel_rfl, ?_⟩) (by assumption) ?_
    rotate_left
    · (intro w hSw; (try dsimp only at hSw); go_simp; try with_reducible rfl)
    try simp only [Act.put, List.setIfInBounds_toArray, List.set_cons_zero, List.set_cons_succ]
    refine wpAnyH_take (i := 9) (oi := { dst := some 14, op := Op.fieldAddr 51 (Operand.tmp 3) 1, type := 0, pos := "plan.go:92", after := #[{ on := 7, ground := Ground.guard }], guard := some (7, true) }) (v := ?_) rfl (by kernel_rfl) (by kernel_rfl) (by kernel_rfl) (fun _ _ _ h => h) (Or.inl ⟨by kernel_rfl, ?_⟩) (by assumption) ?_
    rotate_left
    · (intro w hSw; (try dsimp only at hSw); go_simp; try with_reducible rfl)
    try simp only [Act.put, List.setIfInBounds_toArray, List.set_cons_zero, List.set_cons_succ]
    refine wpAnyH_take (i := 10) (oi := { dst := some 15, op := Op.load 3 (Operand.tmp 14), type := 3, pos := "plan.go:92", after := #[{ on := 9, ground := Ground.data }, { on := 7, ground := Ground.guard }], guard := some (7, true) }) (v := ?_) rfl (by kernel_rfl) (by kernel_rfl) (by kernel_rfl) (fun _ _ _ h => h) (Or.inl ⟨by kernel_rfl, ?_⟩) (by assumption) ?_
    rotate_left
    · (intro w hSw; (try dsimp only at hSw); go_simp; try with_reducible rfl)
    try simp only [Act.put, List.setIfInBounds_toArray, List.set_cons_zero, List.set_cons_succ]
    refine wpAnyH_ready (rs := [11]) (by kernel_rfl) (by simp) ?_
    refine AllReadyH.cons (o := { dst := some 16, op := Op.call { callee := Callee.value (Operand.func 52), args := #[Operand.tmp 13, Operand.tmp 15], argTypes := #[70, 3] }, type := 88, pos := "plan.go:92", after := #[{ on := 8, ground := Ground.data }, { on := 10, ground := Ground.data }, { on := 7, ground := Ground.chain }, { on := 7, ground := Ground.guard }], guard := some (7, true) }) rfl (fun K hK => ?_) AllReadyH.nil
    (go_simp; go_at_call 52; ((with_reducible refine (NM2.out _ (‹_ ∧ _ ∧ Below W.heap.size W _›).2.2).mono ?_); rintro e w2 ⟨m, rfl, ⟨gc, cc, hmm, _⟩, b2⟩; have m2 := hmm.cell 2; simp at m2; rw [← HZ.out] at m2; clear hmm; go_simp))
    refine hK.out _ _ ?_ (fun hHeld => ?_)
    · first
        | assumption
        | (rcases ‹_ ∧ _ ∧ Below W.heap.size _ _› with ⟨q0, q1, q5⟩; exact ⟨cell_next (by assumption) q0, cell_next (by assumption) q1, below_next (by assumption) q5⟩)
    clear hK K
    try simp only [Act.put, List.setIfInBounds_toArray, List.set_cons_zero, List.set_cons_succ]
    refine wpAnyH_take (i := 12) (oi := { dst := some 17, op := Op.nilCheck (Operand.tmp 16), type := 0, pos := "plan.go:92", after := #[{ on := 11, ground := Ground.data }, { on := 7, ground := Ground.guard }], guard := some (7, true) }) (v := ?_) rfl (by kernel_rfl) (by kernel_rfl) (by kernel_rfl) (fun _ _ _ h => h) (Or.inl ⟨by kernel_rfl, ?_⟩) (by assumption) ?_
    rotate_left
    · (intro w hSw; (try dsimp only at hSw); go_simp; try with_reducible rfl)
    try simp only [Act.put, List.setIfInBounds_toArray, List.set_cons_zero, List.set_cons_succ]
    refine wpAnyH_take (i := 13) (oi := { dst := some 18, op := Op.fieldAddr 104 (Operand.tmp 17) 2, type := 0, pos := "plan.go:92", after := #[{ on := 12, ground := Ground.data }, { on := 7, ground := Ground.guard }], guard := some (7, true) }) (v := ?_) rfl (by kernel_rfl) (by kernel_rfl) (by kernel_rfl) (fun _ _ _ h => h) (Or.inl ⟨by kernel_rfl, ?_⟩) (by assumption) ?_
    rotate_left
    · (intro w hSw; (try dsimp only at hSw); go_simp; try with_reducible rfl)
    try simp only [Act.put, List.setIfInBounds_toArray, List.set_cons_zero, List.set_cons_succ]
    refine wpAnyH_ready (rs := [14]) (by kernel_rfl) (by simp) ?_
    refine AllReadyH.cons (o := { dst := some 19, op := Op.load 3 (Operand.tmp 18), type := 3, pos := "plan.go:92", after := #[{ on := 13, ground := Ground.data }, { on := 7, ground := Ground.guard }], guard := some (7, true) }) rfl (fun K hK => ?_) AllReadyH.nil
    go_simp
    refine hK.out _ _ ?_ (fun hHeld => ?_)
    · first
        | assumption
        | (rcases ‹_ ∧ _ ∧ Below W.heap.size _ _› with ⟨q0, q1, q5⟩; exact ⟨cell_next (by assumption) q0, cell_next (by assumption) q1, below_next (by assumption) q5⟩)
    clear hK K
    try simp only [Act.put, List.setIfInBounds_toArray, List.set_cons_zero, List.set_cons_succ]
    refine wpAnyH_take (i := 15) (oi := { dst := some 20, op := Op.binOp BinOp.gtr 3 (Operand.tmp 19) (Operand.const (Value.int IntKind.i64 0)) 3, type := 4, pos := "plan.go:92", after := #[{ on := 14, ground := Ground.data }, { on := 7, ground := Ground.guard }], guard := some (7, true) }) (v := ?_) rfl (by kernel_rfl) (by kernel_rfl) (by kernel_rfl) (fun _ _ _ h => h) (Or.inl ⟨by kernel_rfl, ?_⟩) (by assumption) ?_
    rotate_left
    · (intro w hSw; (try dsimp only at hSw); go_simp; try with_reducible rfl)
    try simp only [Act.put, List.setIfInBounds_toArray, List.set_cons_zero, List.set_cons_succ]
    refine wpAnyH_take (i := 16) (oi := { dst := some 21, op := Op.pick (Operand.tmp 12) (Operand.tmp 20) (Operand.const (Value.bool false)), type := 4, pos := "plan.go:92", after := #[{ on := 7, ground := Ground.data }, { on := 15, ground := Ground.data }], guard := none }) (v := ?_) rfl (by kernel_rfl) (by kernel_rfl) (by kernel_rfl) (fun _ _ _ h => h) (Or.inl ⟨by kernel_rfl, ?_⟩) (by assumption) ?_
    rotate_left
    · (intro w hSw; (try dsimp only at hSw); go_simp; try with_reducible rfl)
    try simp only [Act.put, List.setIfInBounds_toArray, List.set_cons_zero, List.set_cons_succ]
    refine wpAnyH_take (i := 17) (oi := { dst := some 4, op := Op.assign (Operand.tmp 21), type := 4, pos := "plan.go:92", after := #[{ on := 16, ground := Ground.data }, { on := 11, ground := Ground.chain }, { on := 0, ground := Ground.phase }, { on := 1, ground := Ground.phase }, { on := 2, ground := Ground.phase }, { on := 3, ground := Ground.phase }, { on := 4, ground := Ground.phase }, { on := 5, ground := Ground.phase }, { on := 6, ground := Ground.phase }, { on := 7, ground := Ground.phase }, { on := 8, ground := Ground.phase }, { on := 9, ground := Ground.phase }, { on := 10, ground := Ground.phase }, { on := 11, ground := Ground.phase }, { on := 12, ground := Ground.phase }, { on := 13, ground := Ground.phase }, { on := 14, ground := Ground.phase }, { on := 15, ground := Ground.phase }, { on := 16, ground := Ground.phase }], guard := none }) (v := ?_) rfl (by kernel_rfl) (by kernel_rfl) (by kernel_rfl) (fun _ _ _ h => h) (Or.inl ⟨by kernel_rfl, ?_⟩) (by assumption) ?_
    rotate_left
    · (intro w hSw; (try dsimp only at hSw); go_simp; try with_reducible rfl)
    try simp only [Act.put, List.setIfInBounds_toArray, List.set_cons_zero, List.set_cons_succ]
    refine wpAnyH_done (by kernel_rfl) ?_ _
    go_wp2_with fail
    go_ret
    exact ⟨by (rw [d1, Bool.true_and]; rfl), (below_next (‹_ ∧ _ ∧ Below W.heap.size W _›).2.2 HBW.out)⟩
  · have d1 : decide (q ≤ n) = false := decide_eq_false hq
    have d2 : decide ((q : Int) ≤ (n : Int)) = false := decide_eq_false (by omega)
    go_quiet (fail)
    go_wp2_with fail
    go_ret
    exact ⟨by (rw [d1, Bool.false_and]; rfl), below_next (below_drewN (Below.refl _ _) _) HBW.out⟩
end

section
open Go Go.RowKit Go.Lib Go.Sort
/-- A slot's cells: id, start, order, tick. -/
def slCs (id s o t : Int) : Array Value := #[.int .u32 id, .int .i64 s, .int .i64 o, .int .i64 t]
theorem end4 {w w1 : World} {B g : Nat} {cs : Array Value} {ty : TypeId} (h : Blk w1 g cs ty) (hcs : cs.size = 4) (hB : Below B w w1) (hg : B ≤ g) (id s o t : Int) :
    ∃ W4, (((w1.setCell ⟨g, 0, none⟩ (.int .u32 id)).setCell ⟨g, 1, none⟩ (.int .i64 s)).setCell ⟨g, 2, none⟩ (.int .i64 o)).setCell ⟨g, 3, none⟩ (.int .i64 t) = W4 ∧
      (W4.cell? ⟨g, 0, none⟩ = some (.int .u32 id) ∧ W4.cell? ⟨g, 1, none⟩ = some (.int .i64 s) ∧ W4.cell? ⟨g, 2, none⟩ = some (.int .i64 o) ∧ W4.cell? ⟨g, 3, none⟩ = some (.int .i64 t)) ∧ Below B w W4 := by
  have h4 := (((h.set 0 (.int .u32 id)).set 1 (.int .i64 s)).set 2 (.int .i64 o)).set 3 (.int .i64 t)
  refine ⟨_, rfl, ⟨?_, ?_, ?_, ?_⟩, (((hB.setCell (p := ⟨g, 0, none⟩) hg _).setCell (p := ⟨g, 1, none⟩) hg _).setCell (p := ⟨g, 2, none⟩) hg _).setCell (p := ⟨g, 3, none⟩) hg _⟩
  · rw [h4.cell 0]; simp [hcs]
  · rw [h4.cell 1]; simp [hcs]
  · rw [h4.cell 2]; simp [hcs]
  · rw [h4.cell 3]; simp [hcs]
set_option maxRecDepth 100000 in
set_option maxHeartbeats 2000000 in
theorem slotOf_any (id q len s t : Int) (w : World) :
    Calls Try.prog 61 #[.agg #[.int .u32 id, .int .i64 q, .int .i64 len], .int .i64 s, .int .i64 t] w fun e w' => e = .returned (.agg #[.int .u32 id, .int .i64 s, .int .i64 q, .int .i64 t]) ∧ Below w.heap.size w w' := by
  obtain ⟨W, hW⟩ : ∃ W, W = (w.alloc (.cells #[.int .u32 id, .int .i64 q, .int .i64 len] 51)).alloc (.cells #[.int .u32 0, .int .i64 0, .int .i64 0, .int .i64 0] 55) := ⟨_, rfl⟩
  obtain ⟨gW, hgW⟩ : ∃ g, g = w.heap.size := ⟨_, rfl⟩
  obtain ⟨gS, hgS⟩ : ∃ g, g = w.heap.size + 1 := ⟨_, rfl⟩
  have hbW : Below w.heap.size w W := by rw [hW]; exact ((Below.refl _ _).alloc (Nat.le_refl _) _).alloc (by simp) _
  have hB : Blk W gW #[.int .u32 id, .int .i64 q, .int .i64 len] 51 := by rw [hW, hgW]; exact (Blk.new _ _ _).old _
  have hS : Blk W gS #[.int .u32 0, .int .i64 0, .int .i64 0, .int .i64 0] 55 := by
    have h := Blk.new (w.alloc (.cells #[.int .u32 id, .int .i64 q, .int .i64 len] 51)) #[.int .u32 0, .int .i64 0, .int .i64 0, .int .i64 0] 55
    have e : (w.alloc (.cells #[.int .u32 id, .int .i64 q, .int .i64 len] 51)).heap.size = w.heap.size + 1 := by simp
    rw [e] at h
    rw [hW, hgS]; exact h
  have hgw : w.heap.size ≤ gS := by omega
  have b0 := hB.cell 0
  have b1 := hB.cell 1
  have k0 := hS.cell 0
  have k1 := hS.cell 1
  have k2 := hS.cell 2
  have k3 := hS.cell 3
  have f0 := hS.free 0
  have f1 := hS.free 1
  have f2 := hS.free 2
  have f3 := hS.free 3
  simp at b0 b1 k0 k1 k2 k3
  obtain ⟨W4, e4, ⟨z0, z1, z2, z3⟩, hend⟩ := end4 hS rfl hbW hgw id s q t
  have E4 := Lib.hid e4
  have HEND := Lib.hid hend
  clear e4 hend hB hS hbW
  go_enter Try.func61, Try.ntmps61
  go_upto_region 1 with fail
  rw [← hgS, ← hgW, ← hW]
  clear hgS hgW hW
  go_wp2_with fail
  rw [E4.out]
  exact bodyPost_ret (v := .agg #[.int .u32 id, .int .i64 s, .int .i64 q, .int .i64 t]) (by simp [results, Try.results61, go_sem, z0, z1, z2, z3]) rfl ⟨rfl, HEND.out⟩
set_option maxRecDepth 100000 in
set_option maxHeartbeats 2000000 in
theorem startNow_any (bd : Nat) (id : Int) (q len now : Nat) (r1 : Int) (r2 : Bool) (w : World) (hnow : now ≤ 1099511627776) (hlen : len ≤ 1099511627776)
    (hat : ∀ w', Below w.heap.size w w' → Calls Try.prog 36 #[.pointer (some ⟨bd, 0, none⟩), .int .i64 (q : Nat), .int .i64 (now : Nat), .int .i64 ((now + len : Nat) : Int)] w' fun e w'' => e = .returned (.tuple #[.int .i64 r1, .bool r2]) ∧ Below w'.heap.size w' w'') :
    Calls Try.prog 43 #[.pointer (some ⟨bd, 0, none⟩), .agg #[.int .u32 id, .int .i64 (q : Nat), .int .i64 (len : Nat)], .int .i64 (now : Nat)] w fun e w' => e = .returned (.tuple #[.agg #[.int .u32 id, .int .i64 r1, .int .i64 (q : Nat), .int .i64 (now : Nat)], .bool r2]) ∧ Below w.heap.size w w' := by
  obtain ⟨W, hW⟩ : ∃ W, W = (w.alloc (.cells #[.int .u32 id, .int .i64 (q : Nat), .int .i64 (len : Nat)] 51)).alloc (.cells #[.int .u32 0, .int .i64 0, .int .i64 0, .int .i64 0] 55) := ⟨_, rfl⟩
  obtain ⟨gW, hgW⟩ : ∃ g, g = w.heap.size := ⟨_, rfl⟩
  obtain ⟨gS, hgS⟩ : ∃ g, g = w.heap.size + 1 := ⟨_, rfl⟩
  have hbW : Below w.heap.size w W := by rw [hW]; exact ((Below.refl _ _).alloc (Nat.le_refl _) _).alloc (by simp) _
  have hB : Blk W gW #[.int .u32 id, .int .i64 (q : Nat), .int .i64 (len : Nat)] 51 := by rw [hW, hgW]; exact (Blk.new _ _ _).old _
  have hS : Blk W gS #[.int .u32 0, .int .i64 0, .int .i64 0, .int .i64 0] 55 := by
    have h := Blk.new (w.alloc (.cells #[.int .u32 id, .int .i64 (q : Nat), .int .i64 (len : Nat)] 51)) #[.int .u32 0, .int .i64 0, .int .i64 0, .int .i64 0] 55
    have e : (w.alloc (.cells #[.int .u32 id, .int .i64 (q : Nat), .int .i64 (len : Nat)] 51)).heap.size = w.heap.size + 1 := by simp
    rw [e] at h
    rw [hW, hgS]; exact h
  have HB := Lib.hid hB
  have HS := Lib.hid hS
  have HBW := Lib.hid hbW
  have HGS : Hid (w.heap.size ≤ gS) := by unfold Hid; omega
  have b1 := hB.cell 1
  have b2 := hB.cell 2
  simp at b1 b2
  obtain ⟨E, hE⟩ : ∃ E, E = now + len := ⟨_, rfl⟩
  rw [← hE] at hat
  have hEi : (now : Int) + (len : Int) = (E : Int) := by omega
  have hE41 : E ≤ 2199023255552 := by omega
  clear hE
  have AT := Lib.hid (hat W hbW)
  have SL : Hid (∀ w', Calls Try.prog 61 #[.agg #[.int .u32 id, .int .i64 (q : Nat), .int .i64 (len : Nat)], .int .i64 r1, .int .i64 (now : Nat)] w' fun e w'' => e = .returned (.agg #[.int .u32 id, .int .i64 r1, .int .i64 (q : Nat), .int .i64 (now : Nat)]) ∧ Below w'.heap.size w' w'') := fun w' => slotOf_any id (q : Int) (len : Int) _ _ w'
  clear hat hB hS hbW
  go_enter Try.func43, Try.ntmps43
  go_upto_region 1 with fail
  rw [← hgS, ← hgW, ← hW]
  clear hgS hgW hW
  go_wp2_with fail
  refine AT.out.mono ?_; rintro e w1 ⟨rfl, b1'⟩
  have HB1 := Lib.hid (HB.out.kept b1')
  have HS1 := Lib.hid (HS.out.kept b1')
  have HBW1 := Lib.hid (below_next b1' HBW.out)
  have c0 := HB1.out.cell 0
  have c1 := HB1.out.cell 1
  have c2 := HB1.out.cell 2
  simp at c0 c1 c2
  clear b1 b2 b1' AT HB HS HBW
  go_wp2_with fail
  refine (SL.out _).mono ?_; rintro e w2 ⟨rfl, b2'⟩
  have HS2 := HS1.out.kept b2'
  have HBW2 := below_next b2' HBW1.out
  have k0 := HS2.cell 0
  have k1 := HS2.cell 1
  have k2 := HS2.cell 2
  have k3 := HS2.cell 3
  have f0 := HS2.free 0
  have f1 := HS2.free 1
  have f2 := HS2.free 2
  have f3 := HS2.free 3
  simp at k0 k1 k2 k3
  obtain ⟨W4, e4, ⟨z0, z1, z2, z3⟩, hend⟩ := end4 HS2 rfl HBW2 HGS.out id r1 (q : Int) (now : Int)
  have E4 := Lib.hid e4
  have HEND := Lib.hid hend
  clear e4 hend c0 c1 c2
  go_wp2_with fail
  rw [E4.out]
  exact bodyPost_ret (v := .tuple #[.agg #[.int .u32 id, .int .i64 r1, .int .i64 (q : Nat), .int .i64 (now : Nat)], .bool r2]) (by simp [results, Try.results43, go_sem, z0, z1, z2, z3]) rfl ⟨rfl, HEND.out⟩
set_option maxRecDepth 100000 in
set_option maxHeartbeats 2000000 in
theorem promise_any (bd : Nat) (id : Int) (q len now : Nat) (t1 r1 : Int) (r2 : Bool) (w : World) 
    (hat : ∀ w', Below w.heap.size w w' → Calls Try.prog 40 #[.pointer (some ⟨bd, 0, none⟩), .int .i64 (q : Nat), .int .i64 (now : Nat), .int .i64 (len : Nat)] w' fun e w'' => e = .returned (.tuple #[.int .i64 t1, .int .i64 r1, .bool r2]) ∧ Below w'.heap.size w' w'') :
    Calls Try.prog 44 #[.pointer (some ⟨bd, 0, none⟩), .agg #[.int .u32 id, .int .i64 (q : Nat), .int .i64 (len : Nat)], .int .i64 (now : Nat)] w fun e w' => e = .returned (.tuple #[.agg #[.int .u32 id, .int .i64 r1, .int .i64 (q : Nat), .int .i64 t1], .bool r2]) ∧ Below w.heap.size w w' := by
  obtain ⟨W, hW⟩ : ∃ W, W = (w.alloc (.cells #[.int .u32 id, .int .i64 (q : Nat), .int .i64 (len : Nat)] 51)).alloc (.cells #[.int .u32 0, .int .i64 0, .int .i64 0, .int .i64 0] 55) := ⟨_, rfl⟩
  obtain ⟨gW, hgW⟩ : ∃ g, g = w.heap.size := ⟨_, rfl⟩
  obtain ⟨gS, hgS⟩ : ∃ g, g = w.heap.size + 1 := ⟨_, rfl⟩
  have hbW : Below w.heap.size w W := by rw [hW]; exact ((Below.refl _ _).alloc (Nat.le_refl _) _).alloc (by simp) _
  have hB : Blk W gW #[.int .u32 id, .int .i64 (q : Nat), .int .i64 (len : Nat)] 51 := by rw [hW, hgW]; exact (Blk.new _ _ _).old _
  have hS : Blk W gS #[.int .u32 0, .int .i64 0, .int .i64 0, .int .i64 0] 55 := by
    have h := Blk.new (w.alloc (.cells #[.int .u32 id, .int .i64 (q : Nat), .int .i64 (len : Nat)] 51)) #[.int .u32 0, .int .i64 0, .int .i64 0, .int .i64 0] 55
    have e : (w.alloc (.cells #[.int .u32 id, .int .i64 (q : Nat), .int .i64 (len : Nat)] 51)).heap.size = w.heap.size + 1 := by simp
    rw [e] at h
    rw [hW, hgS]; exact h
  have HB := Lib.hid hB
  have HS := Lib.hid hS
  have HBW := Lib.hid hbW
  have HGS : Hid (w.heap.size ≤ gS) := by unfold Hid; omega
  have b1 := hB.cell 1
  have b2 := hB.cell 2
  simp at b1 b2
  have AT := Lib.hid (hat W hbW)
  have SL : Hid (∀ w', Calls Try.prog 61 #[.agg #[.int .u32 id, .int .i64 (q : Nat), .int .i64 (len : Nat)], .int .i64 r1, .int .i64 t1] w' fun e w'' => e = .returned (.agg #[.int .u32 id, .int .i64 r1, .int .i64 (q : Nat), .int .i64 t1]) ∧ Below w'.heap.size w' w'') := fun w' => slotOf_any id (q : Int) (len : Int) _ _ w'
  clear hat hB hS hbW
  go_enter Try.func44, Try.ntmps44
  go_upto_region 1 with fail
  rw [← hgS, ← hgW, ← hW]
  clear hgS hgW hW
  go_wp2_with fail
  refine AT.out.mono ?_; rintro e w1 ⟨rfl, b1'⟩
  have HB1 := Lib.hid (HB.out.kept b1')
  have HS1 := Lib.hid (HS.out.kept b1')
  have HBW1 := Lib.hid (below_next b1' HBW.out)
  have c0 := HB1.out.cell 0
  have c1 := HB1.out.cell 1
  have c2 := HB1.out.cell 2
  simp at c0 c1 c2
  clear b1 b2 b1' AT HB HS HBW
  go_wp2_with fail
  refine (SL.out _).mono ?_; rintro e w2 ⟨rfl, b2'⟩
  have HS2 := HS1.out.kept b2'
  have HBW2 := below_next b2' HBW1.out
  have k0 := HS2.cell 0
  have k1 := HS2.cell 1
  have k2 := HS2.cell 2
  have k3 := HS2.cell 3
  have f0 := HS2.free 0
  have f1 := HS2.free 1
  have f2 := HS2.free 2
  have f3 := HS2.free 3
  simp at k0 k1 k2 k3
  obtain ⟨W4, e4, ⟨z0, z1, z2, z3⟩, hend⟩ := end4 HS2 rfl HBW2 HGS.out id r1 (q : Int) t1
  have E4 := Lib.hid e4
  have HEND := Lib.hid hend
  clear e4 hend c0 c1 c2
  go_wp2_with fail
  rw [E4.out]
  exact bodyPost_ret (v := .tuple #[.agg #[.int .u32 id, .int .i64 r1, .int .i64 (q : Nat), .int .i64 t1], .bool r2]) (by simp [results, Try.results44, go_sem, z0, z1, z2, z3]) rfl ⟨rfl, HEND.out⟩
set_option maxRecDepth 100000 in
set_option maxHeartbeats 2000000 in
theorem none_any (bv : Value) (id q len now : Int) (w : World) :
    Calls Try.prog 45 #[bv, .agg #[.int .u32 id, .int .i64 q, .int .i64 len], .int .i64 now] w fun e w' => e = .returned (.tuple #[.agg #[.int .u32 0, .int .i64 0, .int .i64 0, .int .i64 0], .bool false]) ∧ Below w.heap.size w w' := by
  obtain ⟨W, hW⟩ : ∃ W, W = (w.alloc (.cells #[.int .u32 id, .int .i64 q, .int .i64 len] 51)).alloc (.cells #[.int .u32 0, .int .i64 0, .int .i64 0, .int .i64 0] 55) := ⟨_, rfl⟩
  obtain ⟨gS, hgS⟩ : ∃ g, g = w.heap.size + 1 := ⟨_, rfl⟩
  have hbW : Below w.heap.size w W := by rw [hW]; exact ((Below.refl _ _).alloc (Nat.le_refl _) _).alloc (by simp) _
  have hS : Blk W gS #[.int .u32 0, .int .i64 0, .int .i64 0, .int .i64 0] 55 := by
    have h := Blk.new (w.alloc (.cells #[.int .u32 id, .int .i64 q, .int .i64 len] 51)) #[.int .u32 0, .int .i64 0, .int .i64 0, .int .i64 0] 55
    have e : (w.alloc (.cells #[.int .u32 id, .int .i64 q, .int .i64 len] 51)).heap.size = w.heap.size + 1 := by simp
    rw [e] at h
    rw [hW, hgS]; exact h
  have hgw : w.heap.size ≤ gS := by omega
  have k0 := hS.cell 0
  have k1 := hS.cell 1
  have k2 := hS.cell 2
  have k3 := hS.cell 3
  have f0 := hS.free 0
  have f1 := hS.free 1
  have f2 := hS.free 2
  have f3 := hS.free 3
  simp at k0 k1 k2 k3
  obtain ⟨W4, e4, ⟨z0, z1, z2, z3⟩, hend⟩ := end4 hS rfl hbW hgw 0 0 0 0
  have E4 := Lib.hid e4
  have HEND := Lib.hid hend
  clear e4 hend hS hbW
  go_enter Try.func45, Try.ntmps45
  go_upto_region 1 with fail
  rw [← hgS, ← hW]
  clear hgS hW
  go_wp2_with fail
  rw [E4.out]
  exact bodyPost_ret (v := .tuple #[.agg #[.int .u32 0, .int .i64 0, .int .i64 0, .int .i64 0], .bool false]) (by simp [results, Try.results45, go_sem, z0, z1, z2, z3]) rfl ⟨rfl, HEND.out⟩
end

section
open Go Go.RowKit Go.Lib Go.Sort
/-- A job: number, order, length. -/
abbrev WaI := Int × Int × Int
def waI (x : WaI) : List Value := [.int .u32 x.1, .int .i64 x.2.1, .int .i64 x.2.2]
theorem waI_len (x : WaI) : (waI x).length = 3 := rfl
abbrev WRow := RowG 3 waI
def waOk (x : WaI) : Prop := 0 ≤ x.2.1 ∧ 1 ≤ x.2.2 ∧ x.2.2 ≤ 1099511627776
theorem wa_cells {w : World} {bb off n c : Nat} {l : List WaI} (h : WRow w (.slice (some ⟨bb, off, none⟩) n c) l) {k : Nat} (hk : k < l.length) {w' : World} (hb : Below w.heap.size w w') :
    w'.cell? ⟨bb, off + k * 3, none⟩ = some (.int .u32 l[k].1) ∧ w'.cell? ⟨bb, off + k * 3 + 1, none⟩ = some (.int .i64 l[k].2.1) ∧ w'.cell? ⟨bb, off + k * 3 + 2, none⟩ = some (.int .i64 l[k].2.2) := by
  obtain ⟨b', off', e, hc⟩ := h.at hk
  injection e with e; injection e with e1 e2; subst e1; subst e2
  exact ⟨hc w' hb 0 _ rfl, hc w' hb 1 _ rfl, hc w' hb 2 _ rfl⟩
theorem wrow_none {w : World} {n c : Nat} {l : List WaI} (h : WRow w (.slice none n c) l) : l = [] := by
  rcases h with ⟨h0, x, c, _⟩ | ⟨bb, off, c, h1, _⟩
  · simpa using h0
  · cases h1
theorem wrow_some {w : World} {n c : Nat} {A : Addr} {l : List WaI} (h : WRow w (.slice (some A) n c) l) (hk : 0 < l.length) : ∃ bb off, A = ⟨bb, off, none⟩ := by
  rcases h with ⟨h0, x, c, _⟩ | ⟨bb, off, c, h1, _⟩
  · subst h0; simp at hk
  · injection h1 with h1; injection h1 with h1; exact ⟨bb, off, h1⟩
/-- May a plan be asked for? -/
def Ask (N : Int) (FL : List Int) (HL : List HeI) (WL : List WaI) (now : Int) : Prop := Good N FL HL ∧ (0 ≤ now ∧ now ≤ 1099511627776) ∧ WL.length ≤ 300 ∧ ∀ x ∈ WL, waOk x
set_option maxRecDepth 100000 in
set_option maxHeartbeats 4000000 in
theorem ask_any (N now : Int) (vf vh vw : Value) (FL : List Int) (HL : List HeI) (WL : List WaI) (w : World) (hf : GRow w vf FL) (hh : HRow w vh HL) (hw : WRow w vw WL) (hfl : FL.length ≤ maxLen) (hhl : HL.length ≤ maxLen) (hwl : WL.length ≤ maxLen) :
    Calls Try.prog 58 #[.agg #[.int .i64 N, vf, vh], vw, .int .i64 now] w fun e w' => ∃ er : Int, e = .returned (.int .i64 er) ∧ ((er = 0 ∧ Ask N FL HL WL now) ∨ (er = 2 ∧ ¬ Ask N FL HL WL now)) ∧ Below w.heap.size w w' := by
  obtain ⟨er, hcd⟩ := code_some N FL HL
  have CK : Hid (∀ w1, Below w.heap.size w w1 → Calls Try.prog 11 #[.agg #[.int .i64 N, vf, vh]] w1 fun e w' => e = .returned (.int .i64 er) ∧ Below w1.heap.size w1 w') := fun w1 h1 =>
    (check_any N vf vh _ _ w1 (hf.kept h1) (hh.kept h1) hfl hhl).mono fun e w' ⟨er2, he, hcd2, hbl⟩ => by
      have := hcd2.det hcd
      rw [this] at he; exact ⟨he, hbl⟩
  have WA : Hid (∀ w1, Calls Try.prog 28 #[.int .i64 now, .int .i64 0, .int .i64 1099511627776] w1 fun e w' => e = .returned (.bool (wiB now 0 1099511627776)) ∧ w' = w1) := fun w1 => within_any now 0 1099511627776 w1
  have hw63 : WL.length ≤ 9223372036854775807 := by unfold maxLen at hwl; omega
  obtain ⟨fa, fc, rfl⟩ := hf.slice
  obtain ⟨ha, hc2, rfl⟩ := hh.slice
  obtain ⟨wa, wc3, rfl⟩ := hw.slice
  obtain ⟨LF, hLF⟩ : ∃ n, n = FL.length := ⟨_, rfl⟩
  obtain ⟨LH, hLH⟩ : ∃ n, n = HL.length := ⟨_, rfl⟩
  obtain ⟨LW, hLW⟩ : ∃ n, n = WL.length := ⟨_, rfl⟩
  rw [← hLF, ← hLH] at CK ⊢
  rw [← hLW] at hw hw63 ⊢
  have HWR := Lib.hid hw
  have HLW := Lib.hid hLW
  have HCD := Lib.hid hcd
  clear hLF hLH hLW hf hh hw hfl hhl hwl hcd
  obtain ⟨gS, hgS⟩ : ∃ g, g = w.heap.size := ⟨_, rfl⟩
  obtain ⟨W, hW⟩ : ∃ W, W = w.alloc (.cells #[.int .i64 N, .slice fa LF fc, .slice ha LH hc2] 25) := ⟨_, rfl⟩
  have HBW : Hid (Below w.heap.size w W) := by unfold Hid; rw [hW]; exact (Below.refl _ _).alloc (Nat.le_refl _) _
  have HS : Hid (Blk W gS #[.int .i64 N, .slice fa LF fc, .slice ha LH hc2] 25) := by unfold Hid; rw [hW, hgS]; exact Blk.new w _ _
  have s0 := HS.out.cell 0
  have s1 := HS.out.cell 1
  have s2 := HS.out.cell 2
  simp at s0 s1 s2
  have CKW := Lib.hid (CK.out W HBW.out)
  clear CK HS
  by_cases hg : Good N FL HL
  · have her : er = 0 := HCD.out.det (.inl ⟨rfl, hg⟩)
    subst her
    have HG := Lib.hid hg
    clear hg HCD
    by_cases hA : 0 ≤ now ∧ now ≤ 1099511627776
    · rw [wiB_iff.2 hA] at WA
      have HA := Lib.hid hA
      clear hA
      by_cases h300 : 300 < LW
      · have d1 : decide ((LW : Int) > 300) = true := decide_eq_true (by omega)
        have d2 : decide (LW > 300) = true := decide_eq_true h300
        have d3 : decide (300 < LW) = true := decide_eq_true h300
        have HNO : Hid (¬ Ask N FL HL WL now) := fun h => by have := h.2.2.1; have := HLW.out; omega
        go_enter Try.func58, Try.ntmps58
        go_upto_region 1 with fail
        rw [← hW, ← hgS]
        clear hW hgS
        go_wp2_with fail
        refine CKW.out.mono ?_; rintro e w1 ⟨rfl, b1⟩
        have HB1 := Lib.hid (below_next b1 HBW.out)
        clear b1 CKW
        go_wp2_with fail
        refine (WA.out _).mono ?_; rintro e w2 ⟨rfl, hw⟩; subst hw
        go_wp2_with fail
        go_ret
        exact ⟨2, rfl, .inr ⟨rfl, HNO.out⟩, HB1.out⟩
      · have d1 : decide ((LW : Int) > 300) = false := decide_eq_false (by omega)
        have d2 : decide (LW > 300) = false := decide_eq_false h300
        have d3 : decide (300 < LW) = false := decide_eq_false h300
        go_enter Try.func58, Try.ntmps58
        go_upto_region 1 with fail
        rw [← hW, ← hgS]
        clear hW hgS
        go_wp2_with fail
        refine CKW.out.mono ?_; rintro e w1 ⟨rfl, b1⟩
        have HB1 := Lib.hid (below_next b1 HBW.out)
        clear b1 CKW
        go_wp2_with fail
        refine (WA.out _).mono ?_; rintro e w2 ⟨rfl, hw⟩; subst hw
        go_wp2_with fail
        go_loopw [24] (fun iv wr => ∃ k : Nat, k ≤ LW ∧ iv = .int .i64 k ∧ Hid (∀ i (h : i < WL.length), i < k → waOk WL[i]) ∧ Hid (Below w.heap.size w wr)) (fun iv _ => LW - (RowKit.intOf iv).toNat)
        case atStart => exact ⟨0, Nat.zero_le _, rfl, fun i h h' => absurd h' (Nat.not_lt_zero _), HB1⟩
        case round =>
          clear HB1 s0 s1 s2
          obtain ⟨k, hk, rfl, HOK, HBr⟩ := hrel
          by_cases hlt : k < LW
          · have hd : decide (k < LW) = true := decide_eq_true hlt
            have hki : (k : Int) < (LW : Int) := by omega
            have hkl : k < WL.length := by rw [← HLW.out]; exact hlt
            cases wa with
            | none => have := wrow_none HWR.out; rw [this] at hkl; simp at hkl
            | some A =>
            obtain ⟨bb, off, rfl⟩ := wrow_some HWR.out (by omega)
            obtain ⟨c0, c1, c2⟩ := wa_cells HWR.out hkl HBr.out
            have HMEM : Hid (∀ P : WaI → Prop, (∀ x ∈ WL, P x) → P WL[k]) := fun P h => h _ (List.getElem_mem hkl)
            have HSTEP : Hid (waOk WL[k] → ∀ i (h : i < WL.length), i < k + 1 → waOk WL[i]) := fun h i hi hi2 => by
              rcases Nat.lt_or_ge i k with h1 | h1
              · exact HOK.out i hi h1
              · obtain rfl : i = k := by omega
                exact h
            obtain ⟨y, hy⟩ : ∃ y, y = WL[k] := ⟨_, rfl⟩
            rw [← hy] at c0 c1 c2 HMEM HSTEP
            obtain ⟨yi, yo, yl⟩ := y
            dsimp only at c0 c1 c2
            clear hy hkl HOK
            have WLn := within_any yl 1 1099511627776
            obtain ⟨W2, hW2⟩ : ∃ W, W = wr.alloc (.cells #[.int .u32 yi, .int .i64 yo, .int .i64 yl] 51) := ⟨_, rfl⟩
            have hBW2 : Below wr.heap.size wr W2 := by rw [hW2]; exact (Below.refl _ _).alloc (Nat.le_refl _) _
            have HXB := Blk.new wr #[.int .u32 yi, .int .i64 yo, .int .i64 yl] 51
            rw [← hW2] at HXB
            obtain ⟨g, hgg⟩ : ∃ g, g = wr.heap.size := ⟨_, rfl⟩
            rw [← hgg] at HXB
            have HB2 : Hid (Below w.heap.size w W2) := HBr.out.trans (hBW2.mono HBr.out.size)
            have h1 := HXB.cell 1
            have h2 := HXB.cell 2
            simp at h1 h2
            have WLH := Lib.hid WLn
            clear HXB hBW2 WLn
            go_upto_region 6 with fail
            rw [← hW2, ← hgg]
            clear hW2 hgg c0 c1 c2 HBr
            by_cases ho : yo < 0
            · have d4 : decide (yo < 0) = true := decide_eq_true ho
              have HNO : Hid (¬ Ask N FL HL WL now) := fun h => by have := HMEM.out waOk h.2.2.2; have := this.1; dsimp only at this; omega
              clear HMEM HSTEP
              go_wp2_with fail
              go_ret
              exact ⟨2, rfl, .inr ⟨rfl, HNO.out⟩, HB2.out⟩
            · have d4 : decide (yo < 0) = false := decide_eq_false ho
              by_cases hl : 1 ≤ yl ∧ yl ≤ 1099511627776
              · rw [wiB_iff.2 hl] at WLH
                have HNX := Lib.hid (HSTEP.out ⟨by dsimp only; omega, by dsimp only; omega, by dsimp only; omega⟩)
                clear HMEM HSTEP hl
                go_wp2_with fail
                refine (WLH.out _).mono ?_; rintro e w2 ⟨rfl, hw⟩; subst hw
                go_wp2_with fail
                go_roundw
                case rel => exact ⟨k + 1, hlt, by go_num, HNX, HB2⟩
                case measure => simp [RowKit.intOf]; omega
              · rw [wiB_no hl] at WLH
                have HNO : Hid (¬ Ask N FL HL WL now) := fun h => hl (HMEM.out waOk h.2.2.2).2
                clear HMEM HSTEP hl
                go_wp2_with fail
                refine (WLH.out _).mono ?_; rintro e w2 ⟨rfl, hw⟩; subst hw
                go_wp2_with fail
                go_ret
                exact ⟨2, rfl, .inr ⟨rfl, HNO.out⟩, HB2.out⟩
          · have hd : decide (k < LW) = false := decide_eq_false hlt
            have hki : ¬ (k : Int) < (LW : Int) := by omega
            have HY : Hid (Ask N FL HL WL now) := ⟨HG.out, HA.out, by have := HLW.out; omega, fun x hx => by
              obtain ⟨i, hi, rfl⟩ := List.mem_iff_getElem.1 hx
              exact HOK.out i hi (by have := HLW.out; omega)⟩
            clear HOK hlt hk
            go_wp2_with fail
            go_ret
            exact ⟨0, rfl, .inl ⟨rfl, HY.out⟩, HBr.out⟩
    · rw [wiB_no hA] at WA
      have HNO : Hid (¬ Ask N FL HL WL now) := fun h => hA h.2.1
      clear hA
      go_enter Try.func58, Try.ntmps58
      go_upto_region 1 with fail
      rw [← hW, ← hgS]
      clear hW hgS
      go_wp2_with fail
      refine CKW.out.mono ?_; rintro e w1 ⟨rfl, b1⟩
      have HB1 := Lib.hid (below_next b1 HBW.out)
      clear b1 CKW
      go_wp2_with fail
      refine (WA.out _).mono ?_; rintro e w2 ⟨rfl, hw⟩; subst hw
      go_wp2_with fail
      go_ret
      exact ⟨2, rfl, .inr ⟨rfl, HNO.out⟩, HB1.out⟩
  · have her : er = 2 := HCD.out.det (.inr ⟨rfl, hg⟩)
    subst her
    have HNO : Hid (¬ Ask N FL HL WL now) := fun h => hg h.1
    clear hg HCD
    go_enter Try.func58, Try.ntmps58
    go_upto_region 1 with fail
    rw [← hW, ← hgS]
    clear hW hgS
    go_wp2_with fail
    refine CKW.out.mono ?_; rintro e w1 ⟨rfl, b1⟩
    have HB1 := Lib.hid (below_next b1 HBW.out)
    clear b1 CKW
    go_wp2_with fail
    go_ret
    exact ⟨2, rfl, .inr ⟨rfl, HNO.out⟩, HB1.out⟩
end

end Go.Proofs.Ytioeblljabohbaa
