/-
  The yard's take, sufficient, Take.
-/
import Derived.Test.YtcdlfhheolbhaaaYeA
namespace Go.Proofs.Ytcdlfhheolbhaaa
open Go Go.RowKit Go.Lib
set_option linter.unusedVariables false

theorem takeTail (y : Nat) (own : Nat → Prop) (n : Nat) (op : Opn) (tk : List Bk) (fl : List Nat) (x : Bk) (p : Nat) (W : World) (hp : p ≤ tk.length) (hl : tk.length ≤ 1024) (hY : YI W y own n op tk fl)
    (gB : Nat) (cB : Array Value) (hB : Blk W gB cB 45) (hgB : ¬ own gB) :
    ∃ v : Value, W.cell? ⟨y, 12, none⟩ = some v ∧
      (∀ w', (∃ q, w' = (W.drewN q).alloc (.cells #[.int .i64 (x.1 : Int), .int .i64 (x.2 : Int)] 45)) → Calls Try.prog 70 #[v, .int .i64 (p : Nat), .slice (some ⟨W.heap.size, 0, none⟩) 1 1] w'
        fun e w'' => ∃ va vn vc, e = .returned (.slice va vn vc) ∧ (w''.cell? ⟨y, 12, none⟩ = some v ∧ w''.frozen? ⟨y, 12, none⟩ = false ∧ Hid (Blk w'' gB cB 45)) ∧
          Hid (YI (w''.setCell ⟨y, 12, none⟩ (.slice va vn vc)) y own n op (tk.take p ++ x :: tk.drop p) fl ∧ Chg own W (w''.setCell ⟨y, 12, none⟩ (.slice va vn vc)))) := by
  obtain ⟨v, hv, hr⟩ := hY.tk
  refine ⟨v, hv, ?_⟩
  rintro w' ⟨q, rfl⟩
  have hq : Below W.heap.size W (W.drewN q) := below_drewN (Below.refl _ _) _
  have hk : Below W.heap.size W ((W.drewN q).alloc (.cells #[.int .i64 (x.1 : Int), .int .i64 (x.2 : Int)] 45)) := hq.alloc (Nat.le_refl _) _
  refine (insB_any v tk p W.heap.size 1 x _ hp hl (own_older hr hk) (Blk.fresh (W.drewN q) _ _ _ rfl) (fun e => by have := (hr.lt _ e.symm).2; omega)).mono ?_
  rintro e w2 ⟨v', rfl, d1, d2, d3⟩
  obtain ⟨e1, e2, cs, e3, e4⟩ := (hY.kept hk).putTk (v := v) (v' := v') (cell_next hk hv) d2 d3 d1
  obtain ⟨va, vc, rfl⟩ := own_slice d1
  have hgv : ∀ g, v.ownBlock = some g → own g := fun g hg => by
    obtain ⟨cs, q1, q2, q3⟩ := hY
    have hv' := hv
    rw [q1.blk.cell] at hv'
    exact (q1.ob _ v g (by omega) (by omega) hv' hg).1
  exact ⟨va, _, vc, rfl, ⟨(e3.at e4).1, (e3.at e4).2, (hB.kept hk).grown d2 (fun e => hgB (hgv gB e))⟩, e1, (Chg.of_below hk).trans e2⟩

set_option maxHeartbeats 4000000 in
theorem take_any (y : Nat) (own : Nat → Prop) (n : Nat) (tk : List Bk) (fl : List Nat) (o s : Nat) (w : World) (ho : o ≤ n) (hs : s % 2 ^ o = 0) (hb : s + 2 ^ o ≤ 2 ^ n) (ha : allB (opn n tk fl) o s) (hY : YS w y own n tk fl) :
    Calls Try.prog 55 #[.pointer (some ⟨y, 0, none⟩), bkV (s, o)] w
      fun e w' => e = .returned (.tuple #[]) ∧ YS w' y own n (insT tk (s, o)) fl ∧ Chg own w w' := by
  have hn := hY.1.hn
  have HOK := Lib.hid (okY_take (b := (s, o)) hY.1 ho hs hb ha)
  have HOP := Lib.hid (opn_take (b := (s, o)) ha)
  have hl := hY.1.tlen
  have hst := hY.1.starts
  obtain ⟨gB, hgB⟩ : ∃ gB, gB = w.heap.size := ⟨_, rfl⟩
  obtain ⟨w0, hw0⟩ : ∃ w0, w0 = w.alloc (.cells #[.int .i64 (s : Int), .int .i64 (o : Int)] 45) := ⟨_, rfl⟩
  have hB0 : Below w.heap.size w w0 := by rw [hw0]; exact (Below.refl _ _).alloc (Nat.le_refl _) _
  have HY0 : YI w0 y (fun k => own k ∧ k ≠ gB) n (opn n tk fl) tk fl := by rw [hw0, hgB]; exact hY.2.box _
  have HG : Blk w0 gB #[.int .i64 (s : Int), .int .i64 (o : Int)] 45 := by rw [hw0, hgB]; exact Blk.new _ _ _
  have CV := Lib.hid (carve_any y _ n (opn n tk fl) tk fl o s w0 ho hs hb ha HY0)
  have HGH := Lib.hid HG
  have HB0 := Lib.hid hB0
  have hnB : ¬ ((fun k => own k ∧ k ≠ gB) gB) := fun h => h.2 rfl
  obtain ⟨own', hown'⟩ : ∃ own' : Nat → Prop, own' = fun k => own k ∧ k ≠ gB := ⟨_, rfl⟩
  have HOW : Hid (∀ k, own' k → own k) := fun k hk => by rw [hown'] at hk; exact hk.1
  rw [← hown'] at CV hnB
  have HNB := Lib.hid hnB
  clear hY hB0 HG HY0 ha hnB hown'
  go_enter Try.func55, Try.ntmps55
  go_wp2_with fail
  rw [← hw0, ← hgB]
  clear hw0 hgB
  refine CV.out.mono ?_; rintro e w1 ⟨rfl, hY1, hC1⟩
  have hG1 := HGH.out.chg hC1 HNB.out
  have g10 := hG1.cell 0
  simp at g10
  have HY1 := Lib.hid hY1
  have HG1 := Lib.hid hG1
  have HC1 : Hid (Chg own w w1) := (Chg.of_below HB0.out).trans (hC1.weak HOW.out)
  have FT := Lib.hid (findTaken_any y own' n _ tk fl (s : Int) w1 hl hst hY1)
  clear hY1 hC1 hG1
  go_wp2_with fail
  refine FT.out.mono ?_; rintro e w3 ⟨p, f, rfl, hT, b3⟩
  have hG3 := HG1.out.kept b3
  obtain ⟨v, hv, IN⟩ := takeTail y own' n (less (opn n tk fl) o s) tk fl (s, o) p w3 hT.le hl (HY1.out.kept b3) gB _ hG3 HNB.out
  have hIN := Lib.hid IN
  have hg0 := hG3.cell 0
  have hg1 := hG3.cell 1
  simp at hg0 hg1
  have HC3 : Hid (Chg own w w3) := HC1.out.trans (Chg.of_below b3)
  have hyg : y ≠ gB := fun e => HNB.out (e ▸ HY1.out.yown)
  have hbl1 : ∀ q C t, ((w3.drewN q).alloc (.cells C t)).cell? ⟨y, 12, none⟩ = some v := fun q C t => cell_next (w2 := (w3.drewN q).alloc (.cells C t)) (below_drewN (Below.refl _ _) q |>.alloc (Nat.le_refl _) _) hv
  have hbl2 : ∀ q C t, ((w3.drewN q).alloc (.cells C t)).cell? ⟨gB, 0, none⟩ = some (.int .i64 (s : Int)) := fun q C t => cell_next (w2 := (w3.drewN q).alloc (.cells C t)) (below_drewN (Below.refl _ _) q |>.alloc (Nat.le_refl _) _) hg0
  have hbl3 : ∀ q C t, ((w3.drewN q).alloc (.cells C t)).cell? ⟨gB, 1, none⟩ = some (.int .i64 (o : Int)) := fun q C t => cell_next (w2 := (w3.drewN q).alloc (.cells C t)) (below_drewN (Below.refl _ _) q |>.alloc (Nat.le_refl _) _) hg1
  have hins : insT tk (s, o) = tk.take p ++ (s, o) :: tk.drop p := insT_at hT.le (fun q hq hqp => by have := hT.lo q hq hqp; dsimp only; omega) (fun q hq hqp => by have := hT.hi q hq hqp; dsimp only; omega)
  have HINS := Lib.hid hins
  have hbl4 : ∀ C t, (w3.alloc (.cells C t)).cell? ⟨y, 12, none⟩ = some v := fun C t => hbl1 0 C t
  have hW3 : ∃ q, (w3.alloc (.cells #[.int .i64 (s : Int), .int .i64 (o : Int)] 45)).drew = (w3.drewN q).alloc (.cells #[.int .i64 (s : Int), .int .i64 (o : Int)] 45) := ⟨1, rfl⟩
  clear IN hT b3 hins g10 hG3
  go_wp2_with fail
  refine wp_region_held_drew (S := (fun w' => w'.cell? ⟨gB, 0, none⟩ = some (.int .i64 (s : Int)) ∧ w'.cell? ⟨gB, 1, none⟩ = some (.int .i64 (o : Int)))) (by kernel_rfl) (by
    first
      | exact ⟨hg0, hg1⟩
      | exact ⟨hbl2 _ _ _, hbl3 _ _ _⟩
      | exact ⟨hbl2 0 _ _, hbl3 0 _ _⟩
      | exact ⟨by assumption, by assumption⟩
      | exact ⟨(World.cell?_setCell_far _ _ _ _ hyg).trans (by assumption), (World.cell?_setCell_far _ _ _ _ hyg).trans (by assumption)⟩
    ) (fun hHeld => ?_)
  refine wpAnyH_take (i := 0) (oi := { dst := some 16, op := Op.move (Operand.tmp 0), type := 25, pos := "buddy.go:83", after := #[], guard := none }) (v := ?_) rfl (by kernel_rfl) (by kernel_rfl) (by kernel_rfl) (fun _ _ _ h => h) (Or.inl ⟨by kernel_rfl, ?_⟩) (by assumption) ?_
  rotate_left
  · (intro w hSw; (try dsimp only at hSw); go_simp; try with_reducible rfl)
  try simp only [Act.put, List.setIfInBounds_toArray, List.set_cons_zero, List.set_cons_succ]
  refine wpAnyH_take (i := 1) (oi := { dst := some 17, op := Op.move (Operand.tmp 0), type := 25, pos := "buddy.go:83", after := #[], guard := none }) (v := ?_) rfl (by kernel_rfl) (by kernel_rfl) (by kernel_rfl) (fun _ _ _ h => h) (Or.inl ⟨by kernel_rfl, ?_⟩) (by assumption) ?_
  rotate_left
  · (intro w hSw; (try dsimp only at hSw); go_simp; try with_reducible rfl)
  try simp only [Act.put, List.setIfInBounds_toArray, List.set_cons_zero, List.set_cons_succ]
  refine wpAnyH_take (i := 2) (oi := { dst := some 18, op := Op.nilCheck (Operand.tmp 17), type := 0, pos := "buddy.go:83", after := #[{ on := 1, ground := Ground.data }], guard := none }) (v := ?_) rfl (by kernel_rfl) (by kernel_rfl) (by kernel_rfl) (fun _ _ _ h => h) (Or.inl ⟨by kernel_rfl, ?_⟩) (by assumption) ?_
  rotate_left
  · (intro w hSw; (try dsimp only at hSw); go_simp; try with_reducible rfl)
  try simp only [Act.put, List.setIfInBounds_toArray, List.set_cons_zero, List.set_cons_succ]
  refine wpAnyH_take (i := 3) (oi := { dst := some 19, op := Op.fieldAddr 65 (Operand.tmp 18) 2, type := 0, pos := "buddy.go:83", after := #[{ on := 2, ground := Ground.data }], guard := none }) (v := ?_) rfl (by kernel_rfl) (by kernel_rfl) (by kernel_rfl) (fun _ _ _ h => h) (Or.inl ⟨by kernel_rfl, ?_⟩) (by assumption) ?_
  rotate_left
  · (intro w hSw; (try dsimp only at hSw); go_simp; try with_reducible rfl)
  try simp only [Act.put, List.setIfInBounds_toArray, List.set_cons_zero, List.set_cons_succ]
  refine wpAnyH_take (i := 5) (oi := { dst := some 21, op := Op.move (Operand.tmp 4), type := 3, pos := "buddy.go:83", after := #[], guard := none }) (v := ?_) rfl (by kernel_rfl) (by kernel_rfl) (by kernel_rfl) (fun _ _ _ h => h) (Or.inl ⟨by kernel_rfl, ?_⟩) (by assumption) ?_
  rotate_left
  · (intro w hSw; (try dsimp only at hSw); go_simp; try with_reducible rfl)
  try simp only [Act.put, List.setIfInBounds_toArray, List.set_cons_zero, List.set_cons_succ]
  refine wpAnyH_take (i := 6) (oi := { dst := some 22, op := Op.load 45 (Operand.tmp 3), type := 45, pos := "buddy.go:83", after := #[], guard := none }) (v := ?_) rfl (by kernel_rfl) (by kernel_rfl) (by kernel_rfl) (fun _ _ _ h => h) (Or.inl ⟨by kernel_rfl, ?_⟩) (by assumption) ?_
  rotate_left
  · (intro w hSw; (try dsimp only at hSw); go_simp; try with_reducible rfl)
  try simp only [Act.put, List.setIfInBounds_toArray, List.set_cons_zero, List.set_cons_succ]
  refine wpAnyH_ready (rs := [4, 7]) (by kernel_rfl) (by simp) ?_
  refine AllReadyH.cons (o := { dst := some 20, op := Op.load 39 (Operand.tmp 19), type := 39, pos := "buddy.go:83", after := #[{ on := 3, ground := Ground.data }], guard := none }) rfl (fun K hK => ?_) (AllReadyH.cons (o := { dst := some 23, op := Op.buildSlice 39 1 #[(0, Operand.tmp 22)], type := 39, pos := "buddy.go:83", after := #[{ on := 6, ground := Ground.data }], guard := none }) rfl (fun K hK => ?_) AllReadyH.nil)
  rotate_left
  · go_simp
    refine hK.out _ _ ?_ (fun hHeld => ?_)
    · first
        | exact ⟨hg0, hg1⟩
        | exact ⟨hbl2 _ _ _, hbl3 _ _ _⟩
        | exact ⟨hbl2 0 _ _, hbl3 0 _ _⟩
        | exact ⟨by assumption, by assumption⟩
        | exact ⟨(World.cell?_setCell_far _ _ _ _ hyg).trans (by assumption), (World.cell?_setCell_far _ _ _ _ hyg).trans (by assumption)⟩
    clear hK K
    try simp only [Act.put, List.setIfInBounds_toArray, List.set_cons_zero, List.set_cons_succ]
    refine wpAnyH_ready (rs := [4]) (by kernel_rfl) (by simp) ?_
    refine AllReadyH.cons (o := { dst := some 20, op := Op.load 39 (Operand.tmp 19), type := 39, pos := "buddy.go:83", after := #[{ on := 3, ground := Ground.data }], guard := none }) rfl (fun K hK => ?_) AllReadyH.nil
    go_simp
    refine hK.out _ _ ?_ (fun hHeld => ?_)
    · first
        | exact ⟨hg0, hg1⟩
        | exact ⟨hbl2 _ _ _, hbl3 _ _ _⟩
        | exact ⟨hbl2 0 _ _, hbl3 0 _ _⟩
        | exact ⟨by assumption, by assumption⟩
        | exact ⟨(World.cell?_setCell_far _ _ _ _ hyg).trans (by assumption), (World.cell?_setCell_far _ _ _ _ hyg).trans (by assumption)⟩
    clear hK K
    try simp only [Act.put, List.setIfInBounds_toArray, List.set_cons_zero, List.set_cons_succ]
    refine wpAnyH_ready (rs := [8]) (by kernel_rfl) (by simp) ?_
    refine AllReadyH.cons (o := { dst := some 24, op := Op.call { callee := Callee.value (Operand.func 70), args := #[Operand.tmp 20, Operand.tmp 21, Operand.tmp 23], argTypes := #[39, 3, 39] }, type := 39, pos := "buddy.go:83", after := #[{ on := 4, ground := Ground.data }, { on := 5, ground := Ground.data }, { on := 7, ground := Ground.data }], guard := none }) rfl (fun K hK => ?_) AllReadyH.nil
    (go_simp; go_at_call 70; ((with_reducible refine (hIN.out _ hW3).mono ?_); rintro e w2 ⟨va, vn, vc, rfl, ⟨d1, d2, d3⟩, hfin⟩; have d4 := d3.out.cell 0; have d5 := d3.out.cell 1; simp at d4 d5; go_simp))
    refine hK.out _ _ ?_ (fun hHeld => ?_)
    · first
        | exact ⟨hg0, hg1⟩
        | exact ⟨hbl2 _ _ _, hbl3 _ _ _⟩
        | exact ⟨hbl2 0 _ _, hbl3 0 _ _⟩
        | exact ⟨by assumption, by assumption⟩
        | exact ⟨(World.cell?_setCell_far _ _ _ _ hyg).trans (by assumption), (World.cell?_setCell_far _ _ _ _ hyg).trans (by assumption)⟩
    clear hK K
    try simp only [Act.put, List.setIfInBounds_toArray, List.set_cons_zero, List.set_cons_succ]
    refine wpAnyH_take (i := 9) (oi := { dst := some 25, op := Op.nilCheck (Operand.tmp 16), type := 0, pos := "buddy.go:83", after := #[{ on := 0, ground := Ground.data }, { on := 0, ground := Ground.phase }, { on := 1, ground := Ground.phase }, { on := 2, ground := Ground.phase }, { on := 3, ground := Ground.phase }, { on := 4, ground := Ground.phase }, { on := 5, ground := Ground.phase }, { on := 6, ground := Ground.phase }, { on := 7, ground := Ground.phase }, { on := 8, ground := Ground.phase }], guard := none }) (v := ?_) rfl (by kernel_rfl) (by kernel_rfl) (by kernel_rfl) (fun _ _ _ h => h) (Or.inl ⟨by kernel_rfl, ?_⟩) (by assumption) ?_
    rotate_left
    · (intro w hSw; (try dsimp only at hSw); go_simp; try with_reducible rfl)
    try simp only [Act.put, List.setIfInBounds_toArray, List.set_cons_zero, List.set_cons_succ]
    refine wpAnyH_take (i := 10) (oi := { dst := some 26, op := Op.fieldAddr 65 (Operand.tmp 25) 2, type := 0, pos := "buddy.go:83", after := #[{ on := 9, ground := Ground.data }, { on := 0, ground := Ground.phase }, { on := 1, ground := Ground.phase }, { on := 2, ground := Ground.phase }, { on := 3, ground := Ground.phase }, { on := 4, ground := Ground.phase }, { on := 5, ground := Ground.phase }, { on := 6, ground := Ground.phase }, { on := 7, ground := Ground.phase }, { on := 8, ground := Ground.phase }], guard := none }) (v := ?_) rfl (by kernel_rfl) (by kernel_rfl) (by kernel_rfl) (fun _ _ _ h => h) (Or.inl ⟨by kernel_rfl, ?_⟩) (by assumption) ?_
    rotate_left
    · (intro w hSw; (try dsimp only at hSw); go_simp; try with_reducible rfl)
    try simp only [Act.put, List.setIfInBounds_toArray, List.set_cons_zero, List.set_cons_succ]
    refine wpAnyH_ready (rs := [11]) (by kernel_rfl) (by simp) ?_
    refine AllReadyH.cons (o := { dst := none, op := Op.store 39 (Operand.tmp 26) (Operand.tmp 24), type := 0, pos := "buddy.go:83", after := #[{ on := 10, ground := Ground.data }, { on := 8, ground := Ground.data }, { on := 8, ground := Ground.chain }, { on := 0, ground := Ground.phase }, { on := 1, ground := Ground.phase }, { on := 2, ground := Ground.phase }, { on := 3, ground := Ground.phase }, { on := 4, ground := Ground.phase }, { on := 5, ground := Ground.phase }, { on := 6, ground := Ground.phase }, { on := 7, ground := Ground.phase }, { on := 8, ground := Ground.phase }], guard := none }) rfl (fun K hK => ?_) AllReadyH.nil
    go_simp
    refine hK.out _ _ ?_ (fun hHeld => ?_)
    · first
        | exact ⟨hg0, hg1⟩
        | exact ⟨hbl2 _ _ _, hbl3 _ _ _⟩
        | exact ⟨hbl2 0 _ _, hbl3 0 _ _⟩
        | exact ⟨by assumption, by assumption⟩
        | exact ⟨(World.cell?_setCell_far _ _ _ _ hyg).trans (by assumption), (World.cell?_setCell_far _ _ _ _ hyg).trans (by assumption)⟩
    clear hK K
    try simp only [Act.put, List.setIfInBounds_toArray, List.set_cons_zero, List.set_cons_succ]
    refine wpAnyH_done (by kernel_rfl) ?_ _
    go_wp2_with fail
    go_returns
    refine ⟨rfl, ⟨HOK.out, ?_⟩, HC3.out.trans (hfin.out.2.weak HOW.out)⟩
    have h1 := hfin.out.1.wider HOW.out
    rw [← HINS.out, ← HOP.out] at h1
    exact h1
  · go_simp
    refine hK.out _ _ ?_ (fun hHeld => ?_)
    · first
        | exact ⟨hg0, hg1⟩
        | exact ⟨hbl2 _ _ _, hbl3 _ _ _⟩
        | exact ⟨hbl2 0 _ _, hbl3 0 _ _⟩
        | exact ⟨by assumption, by assumption⟩
        | exact ⟨(World.cell?_setCell_far _ _ _ _ hyg).trans (by assumption), (World.cell?_setCell_far _ _ _ _ hyg).trans (by assumption)⟩
    clear hK K
    try simp only [Act.put, List.setIfInBounds_toArray, List.set_cons_zero, List.set_cons_succ]
    refine wpAnyH_ready (rs := [7]) (by kernel_rfl) (by simp) ?_
    refine AllReadyH.cons (o := { dst := some 23, op := Op.buildSlice 39 1 #[(0, Operand.tmp 22)], type := 39, pos := "buddy.go:83", after := #[{ on := 6, ground := Ground.data }], guard := none }) rfl (fun K hK => ?_) AllReadyH.nil
    go_simp
    refine hK.out _ _ ?_ (fun hHeld => ?_)
    · first
        | exact ⟨hg0, hg1⟩
        | exact ⟨hbl2 _ _ _, hbl3 _ _ _⟩
        | exact ⟨hbl2 0 _ _, hbl3 0 _ _⟩
        | exact ⟨by assumption, by assumption⟩
        | exact ⟨(World.cell?_setCell_far _ _ _ _ hyg).trans (by assumption), (World.cell?_setCell_far _ _ _ _ hyg).trans (by assumption)⟩
    clear hK K
    try simp only [Act.put, List.setIfInBounds_toArray, List.set_cons_zero, List.set_cons_succ]
    refine wpAnyH_ready (rs := [8]) (by kernel_rfl) (by simp) ?_
    refine AllReadyH.cons (o := { dst := some 24, op := Op.call { callee := Callee.value (Operand.func 70), args := #[Operand.tmp 20, Operand.tmp 21, Operand.tmp 23], argTypes := #[39, 3, 39] }, type := 39, pos := "buddy.go:83", after := #[{ on := 4, ground := Ground.data }, { on := 5, ground := Ground.data }, { on := 7, ground := Ground.data }], guard := none }) rfl (fun K hK => ?_) AllReadyH.nil
    (go_simp; go_at_call 70; ((with_reducible refine (hIN.out _ hW3).mono ?_); rintro e w2 ⟨va, vn, vc, rfl, ⟨d1, d2, d3⟩, hfin⟩; have d4 := d3.out.cell 0; have d5 := d3.out.cell 1; simp at d4 d5; go_simp))
    refine hK.out _ _ ?_ (fun hHeld => ?_)
    · first
        | exact ⟨hg0, hg1⟩
        | exact ⟨hbl2 _ _ _, hbl3 _ _ _⟩
        | exact ⟨hbl2 0 _ _, hbl3 0 _ _⟩
        | exact ⟨by assumption, by assumption⟩
        | exact ⟨(World.cell?_setCell_far _ _ _ _ hyg).trans (by assumption), (World.cell?_setCell_far _ _ _ _ hyg).trans (by assumption)⟩
    clear hK K
    try simp only [Act.put, List.setIfInBounds_toArray, List.set_cons_zero, List.set_cons_succ]
    refine wpAnyH_take (i := 9) (oi := { dst := some 25, op := Op.nilCheck (Operand.tmp 16), type := 0, pos := "buddy.go:83", after := #[{ on := 0, ground := Ground.data }, { on := 0, ground := Ground.phase }, { on := 1, ground := Ground.phase }, { on := 2, ground := Ground.phase }, { on := 3, ground := Ground.phase }, { on := 4, ground := Ground.phase }, { on := 5, ground := Ground.phase }, { on := 6, ground := Ground.phase }, { on := 7, ground := Ground.phase }, { on := 8, ground := Ground.phase }], guard := none }) (v := ?_) rfl (by kernel_rfl) (by kernel_rfl) (by kernel_rfl) (fun _ _ _ h => h) (Or.inl ⟨by kernel_rfl, ?_⟩) (by assumption) ?_
    rotate_left
    · (intro w hSw; (try dsimp only at hSw); go_simp; try with_reducible rfl)
    try simp only [Act.put, List.setIfInBounds_toArray, List.set_cons_zero, List.set_cons_succ]
    refine wpAnyH_take (i := 10) (oi := { dst := some 26, op := Op.fieldAddr 65 (Operand.tmp 25) 2, type := 0, pos := "buddy.go:83", after := #[{ on := 9, ground := Ground.data }, { on := 0, ground := Ground.phase }, { on := 1, ground := Ground.phase }, { on := 2, ground := Ground.phase }, { on := 3, ground := Ground.phase }, { on := 4, ground := Ground.phase }, { on := 5, ground := Ground.phase }, { on := 6, ground := Ground.phase }, { on := 7, ground := Ground.phase }, { on := 8, ground := Ground.phase }], guard := none }) (v := ?_) rfl (by kernel_rfl) (by kernel_rfl) (by kernel_rfl) (fun _ _ _ h => h) (Or.inl ⟨by kernel_rfl, ?_⟩) (by assumption) ?_
    rotate_left
    · (intro w hSw; (try dsimp only at hSw); go_simp; try with_reducible rfl)
    try simp only [Act.put, List.setIfInBounds_toArray, List.set_cons_zero, List.set_cons_succ]
    refine wpAnyH_ready (rs := [11]) (by kernel_rfl) (by simp) ?_
    refine AllReadyH.cons (o := { dst := none, op := Op.store 39 (Operand.tmp 26) (Operand.tmp 24), type := 0, pos := "buddy.go:83", after := #[{ on := 10, ground := Ground.data }, { on := 8, ground := Ground.data }, { on := 8, ground := Ground.chain }, { on := 0, ground := Ground.phase }, { on := 1, ground := Ground.phase }, { on := 2, ground := Ground.phase }, { on := 3, ground := Ground.phase }, { on := 4, ground := Ground.phase }, { on := 5, ground := Ground.phase }, { on := 6, ground := Ground.phase }, { on := 7, ground := Ground.phase }, { on := 8, ground := Ground.phase }], guard := none }) rfl (fun K hK => ?_) AllReadyH.nil
    go_simp
    refine hK.out _ _ ?_ (fun hHeld => ?_)
    · first
        | exact ⟨hg0, hg1⟩
        | exact ⟨hbl2 _ _ _, hbl3 _ _ _⟩
        | exact ⟨hbl2 0 _ _, hbl3 0 _ _⟩
        | exact ⟨by assumption, by assumption⟩
        | exact ⟨(World.cell?_setCell_far _ _ _ _ hyg).trans (by assumption), (World.cell?_setCell_far _ _ _ _ hyg).trans (by assumption)⟩
    clear hK K
    try simp only [Act.put, List.setIfInBounds_toArray, List.set_cons_zero, List.set_cons_succ]
    refine wpAnyH_done (by kernel_rfl) ?_ _
    go_wp2_with fail
    go_returns
    refine ⟨rfl, ⟨HOK.out, ?_⟩, HC3.out.trans (hfin.out.2.weak HOW.out)⟩
    have h1 := hfin.out.1.wider HOW.out
    rw [← HINS.out, ← HOP.out] at h1
    exact h1

/-- sufficient: the least order of which there is a free block. -/
theorem sufficient_any (y : Nat) (own : Nat → Prop) (n : Nat) (op : Opn) (tk : List Bk) (fl : List Nat) (o : Nat) (w : World) (hY : YI w y own n op tk fl) :
    Calls Try.prog 52 #[.pointer (some ⟨y, 0, none⟩), .int .i64 (o : Int)] w
      fun e w' => ∃ r : Int, e = .returned (.int .i64 r) ∧ ((r = -1 ∧ ∀ k, o ≤ k → k ≤ n → frL n op k = []) ∨ (∃ k : Nat, r = k ∧ o ≤ k ∧ k ≤ n ∧ frL n op k ≠ [] ∧ ∀ j, o ≤ j → j < k → frL n op j = [])) ∧ w' = w := by
  have hn := hY.n10
  have hy0 := hY.ord
  have HY := Lib.hid hY
  obtain ⟨W, hW⟩ : ∃ W, W = w := ⟨_, rfl⟩
  have HW := Lib.hid hW
  clear hY hW
  go_enter Try.func52, Try.ntmps52
  go_wp2_with fail
  go_loop [5] (fun i => ∃ k : Nat, o ≤ k ∧ (k ≤ n + 1 ∨ k = o) ∧ i = .int .i64 k ∧ Hid (∀ j, o ≤ j → j < k → frL n op j = [])) (fun i => n + 1 - (RowKit.intOf i).toNat)
  case atStart => exact ⟨o, Nat.le_refl _, .inr rfl, rfl, fun j h1 h2 => absurd h1 (by omega)⟩
  case round =>
    obtain ⟨k, hok, hkn, rfl, hN⟩ := hrel
    by_cases hlt : (k : Int) ≤ (n : Int)
    · have hd : decide ((k : Int) ≤ (n : Int)) = true := decide_eq_true hlt
      obtain ⟨v, hv, hr⟩ := HY.out.free (show k ≤ 10 by omega)
      obtain ⟨l, hl⟩ : ∃ l, l = frL n op k := ⟨_, rfl⟩
      rw [← hl] at hr
      obtain ⟨a, c, rfl⟩ := own_slice hr
      have hlen := natI_len l
      rw [hlen] at hv
      have hki : (k : Int) < 11 := by omega
      have hkz : (0 : Int) ≤ (k : Int) := by omega
      have HL := Lib.hid hl
      clear hr hl hlen
      by_cases h0 : (0 : Int) < (l.length : Int)
      · have hd2 : decide ((0 : Int) < (l.length : Int)) = true := decide_eq_true h0
        have hd3 : decide (0 < l.length) = true := decide_eq_true (by omega)
        have H0 := Lib.hid h0
        go_wp2_with fail
        go_returns
        refine ⟨k, rfl, .inr ⟨k, rfl, hok, by omega, fun e => ?_, hN.out⟩, rfl⟩
        rw [← HL.out] at e; have := H0.out; rw [e] at this; simp at this
      · have hd2 : decide ((0 : Int) < (l.length : Int)) = false := decide_eq_false h0
        have hd3 : decide (0 < l.length) = false := decide_eq_false (by omega)
        have H0 := Lib.hid h0
        clear h0
        go_wp2_with fail
        go_round
        case rel =>
          refine ⟨k + 1, by omega, .inl (by omega), by go_num, fun j h1 h2 => ?_⟩
          rcases Nat.lt_or_ge j k with h3 | h3
          · exact hN.out j h1 h3
          · obtain rfl : j = k := by omega
            rw [← HL.out]
            exact List.eq_nil_of_length_eq_zero (by have := H0.out; omega)
        case measure => simp [RowKit.intOf]; omega
    · have hd : decide ((k : Int) ≤ (n : Int)) = false := decide_eq_false hlt
      go_wp2_with fail
      go_returns
      exact ⟨-1, rfl, .inl ⟨rfl, fun j h1 h2 => hN.out j h1 (by omega)⟩, rfl⟩
end Go.Proofs.Ytcdlfhheolbhaaa
