/-
  Matrix.add and Matrix.drop.
-/
import Derived.Test.YtfobapnncjjeiaaGaD
import Derived.Deep.AppendLies
namespace Go.Proofs.Ytfobapnncjjeiaa
open Go Go.RowKit Go.Lib
set_option linter.unusedVariables false

theorem ins_flat (l : List Ce) (c : Ce) : (l.flatMap ceV).take (posG l c * 4) ++ ceV c ++ (l.flatMap ceV).drop (posG l c * 4) = (insG l c).flatMap ceV := by
  rw [ceL_take, ceL_drop, insG_pos, List.flatMap_append, List.flatMap_cons, List.append_assoc]
/-- slices.Insert of the one cell, and the store: what a walk wants. -/
theorem addTail (m n a : Nat) (own : Nat → Prop) (v : Value) (W : Nat → Nat) (l : List Ce) (c : Ce) (X : World) (hI : GI X m own n a v W l) (hO : OkG n l) (gC : Nat) (cC : Array Value) (hB : Blk X gC cC 48) (hgC : ¬ own gC) :
    ∀ w', (∃ q, w' = (X.drewN q).alloc (.cells #[.int .u32 (c.1 : Nat), .int .i64 (c.2.1 : Nat), .int .i64 (c.2.2.1 : Nat), .int .i64 (c.2.2.2 : Nat)] 48)) →
      Calls Try.prog 58 #[v, .int .i64 (posG l c : Nat), .slice (some ⟨X.heap.size, 0, none⟩) 1 1] w'
        fun e w'' => ∃ va vn vc, e = .returned (.slice va vn vc) ∧ (w''.cell? ⟨m, 2, none⟩ = some v ∧ w''.frozen? ⟨m, 2, none⟩ = false ∧ Hid (Blk w'' gC cC 48)) ∧
          Hid (GI (w''.setCell ⟨m, 2, none⟩ (.slice va vn vc)) m own n a (.slice va vn vc) W (insG l c) ∧ Chg own X (w''.setCell ⟨m, 2, none⟩ (.slice va vn vc))) := by
  rintro w' ⟨q, rfl⟩
  have hl := hO.len
  have hk : Below X.heap.size X ((X.drewN q).alloc (.cells #[.int .u32 (c.1 : Nat), .int .i64 (c.2.1 : Nat), .int .i64 (c.2.2.1 : Nat), .int .i64 (c.2.2.2 : Nat)] 48)) := (below_drewN (Below.refl _ _) q).alloc (Nat.le_refl _) _
  have hq := hI.kept hk
  refine (insICell_any 0 v l.length (posG l c) 1 1 X.heap.size _ _ (l.flatMap ceV) (ceV c) _ (by omega) (posG_le l c) (by omega) (Nat.zero_le _) hq.row (ceV_one l) (Blk.new (X.drewN q) _ _) (fun e => by have := (hI.row.lt _ e.symm).2; omega) rfl rfl (by intro u hu; simp [ceV] at hu; rcases hu with rfl | rfl | rfl | rfl <;> rfl)).mono ?_
  rintro e w2 ⟨v', rfl, d1, d2, d3⟩
  rw [ins_flat, ← insG_len l c] at d1
  obtain ⟨e1, e2, e3⟩ := hq.put d2 d3 d1
  obtain ⟨va, vc, rfl⟩ := own_slice d1
  have hgv : ∀ g, v.ownBlock = some g → own g := fun g hg => (hI.ob g hg).1
  exact ⟨va, _, vc, rfl, ⟨e3.c2, e3.frozen 2, (hB.kept hk).other' d2 (fun e => hgC (hgv gC e))⟩, e1, (Chg.of_below hk).trans e2⟩
set_option maxRecDepth 100000 in
set_option maxHeartbeats 4000000 in
theorem gadd_any (m n a : Nat) (own : Nat → Prop) (l : List Ce) (c : Ce) (w : World) (h : GN w m own n a l) (hc : CeOk n c) (hf : FreeG l c.row c.st c.ord) (hid : ∀ d ∈ l, d.1 ≠ c.1) :
    Calls Try.prog 43 #[.pointer (some ⟨m, 0, none⟩), ceA c] w fun e w' => e = .returned (.tuple #[]) ∧ GN w' m own n a (insG l c) ∧ Chg own w w' := by
  obtain ⟨v, Wd, hI, hW, hO⟩ := h
  have hOi := hO.ins hc hf hid
  obtain ⟨id, r, s, o⟩ := c
  have hr : r < 16 := hc.row
  obtain ⟨gC, hgC⟩ : ∃ g, g = w.heap.size := ⟨_, rfl⟩
  obtain ⟨X, hX⟩ : ∃ X, X = w.alloc (.cells #[.int .u32 (id : Nat), .int .i64 (r : Nat), .int .i64 (s : Nat), .int .i64 (o : Nat)] 48) := ⟨_, rfl⟩
  obtain ⟨ow, how⟩ : ∃ ow : Nat → Prop, ow = fun k => own k ∧ k ≠ gC := ⟨_, rfl⟩
  have HOW : Hid (∀ k, ow k → own k) := fun k hk => by rw [how] at hk; exact hk.1
  have HGC : Hid (¬ ow gC) := by unfold Hid; rw [how]; exact fun h => h.2 rfl
  have HBX : Hid (Below w.heap.size w X) := by unfold Hid; rw [hX]; exact (Below.refl _ _).alloc (Nat.le_refl _) _
  have HC : Hid (Blk X gC #[.int .u32 (id : Nat), .int .i64 (r : Nat), .int .i64 (s : Nat), .int .i64 (o : Nat)] 48) := by unfold Hid; rw [hX, hgC]; exact Blk.new w _ _
  have HI : Hid (GI X m ow n a v Wd l) := by unfold Hid; rw [hX, how, hgC]; exact hI.boxed _
  have HO := Lib.hid hO
  have HW := Lib.hid hW
  have HCE := Lib.hid hc
  have HOI := Lib.hid hOi
  have BS : Hid (∀ w1, Below X.heap.size X w1 → Calls Try.prog 56 #[v, .agg #[.int .u32 (id : Nat), .int .i64 (r : Nat), .int .i64 (s : Nat), .int .i64 (o : Nat)], .func (.func 57) #[] #[]] w1
      fun e w' => (∃ f, e = .returned (.tuple #[.int .i64 (posG l (id, r, s, o) : Nat), .bool f])) ∧ Below w1.heap.size w1 w') := fun w1 hb =>
    bsC_any v l (id, r, s, o) w1 (by have := HO.out.len; omega) (RowG.kept (crow_of_own HI.out.row) hb) HO.out.srt
  obtain ⟨va, vc, rfl⟩ := own_slice HI.out.row
  clear hI hW hO hOi hc hf hid how
  have x2 := HI.out.gb.c2
  have b0 := HC.out.cell 0
  have b1 := HC.out.cell 1
  have b2 := HC.out.cell 2
  have b3 := HC.out.cell 3
  simp at b0 b1 b2 b3
  unfold ceA
  dsimp only
  go_enter Try.func43, Try.ntmps43
  go_upto_region 1 with fail
  rw [← hgC, ← hX]
  clear hgC hX
  go_cut [4] (fun pv wx => pv = .int .i64 (posG l (id, r, s, o) : Nat) ∧ Hid (Below X.heap.size X wx))
  case first =>
    go_region_held3 (fun w' => w'.cell? ⟨m, 2, none⟩ = some (.slice va l.length vc) ∧ w'.cell? ⟨gC, 0, none⟩ = some (.int .u32 (id : Nat)) ∧ w'.cell? ⟨gC, 1, none⟩ = some (.int .i64 (r : Nat)) ∧ w'.cell? ⟨gC, 2, none⟩ = some (.int .i64 (s : Nat)) ∧ w'.cell? ⟨gC, 3, none⟩ = some (.int .i64 (o : Nat)) ∧ Below X.heap.size X w')
      (first
        | exact ⟨x2, b0, b1, b2, b3, (Below.refl _ _).drew⟩
        | (rcases ‹_ ∧ _ ∧ _ ∧ _ ∧ _ ∧ Below _ _ _› with ⟨g0, g1, g2, g3, g4, g5⟩; exact ⟨cell_next (by assumption) g0, cell_next (by assumption) g1, cell_next (by assumption) g2, cell_next (by assumption) g3, cell_next (by assumption) g4, below_next (by assumption) g5⟩))
      (first
        | (go_at_call 56; ((with_reducible refine (BS.out _ (‹_ ∧ _ ∧ _ ∧ _ ∧ _ ∧ Below X.heap.size X _›).2.2.2.2.2).mono ?_); rintro e w2 ⟨⟨ff, rfl⟩, c2⟩)))
    go_wp2_with fail
    go_meet
    exact ⟨rfl, (‹_ ∧ _ ∧ _ ∧ _ ∧ _ ∧ Below X.heap.size X _›).2.2.2.2.2⟩
  case rest =>
    obtain ⟨rfl, HBc⟩ := hcut
    obtain ⟨w1, hw1⟩ : ∃ x, x = wc := ⟨_, rfl⟩
    subst hw1
    have HIc := Lib.hid (HI.out.kept HBc.out)
    have HCc := Lib.hid (HC.out.kept HBc.out)
    clear HC HI BS x2 b0 b1 b2 b3
    have hIN := Lib.hid (addTail m n a ow _ Wd l (id, r, s, o) w1 HIc.out HO.out gC _ HCc.out HGC.out)
    have x2 := HIc.out.gb.c2
    have x2f := HIc.out.gb.frozen 2
    have hm := HIc.out.gb.lt
    have hg := HCc.out.lt
    have HNE : Hid (gC ≠ m) := fun e => HGC.out (e ▸ HIc.out.bown)
    have b0 := HCc.out.cell 0
    have b1 := HCc.out.cell 1
    have b2 := HCc.out.cell 2
    have b3 := HCc.out.cell 3
    simp at b0 b1 b2 b3
    generalize posG l (id, r, s, o) = p at *
    go_wp2_with fail
    go_cut [5] (fun pv wx => (∃ v' W', Hid (GI wx m ow n a v' W' (insG l (id, r, s, o)) ∧ Chg ow w1 wx) ∧ Hid (W' = Wd) ∧ Hid (Blk wx gC #[.int .u32 (id : Nat), .int .i64 (r : Nat), .int .i64 (s : Nat), .int .i64 (o : Nat)] 48)))
    case first =>
      go_region_law
        (first
          | (go_simp; go_at_call 58; ((with_reducible refine (hIN.out _ (by first | exact ⟨1, rfl⟩ | exact ⟨0, rfl⟩ | exact ⟨_, rfl⟩)).mono ?_); rintro e w2 ⟨wa, wn, wvc, rfl, ⟨d1, d2, d3⟩, hfin⟩)))
      all_goals (go_wp2_with fail)
      all_goals go_meet
      all_goals (refine ⟨.slice wa wn wvc, Wd, ?_, rfl, ?_⟩)
      all_goals first
        | exact hfin.out
        | exact ⟨hfin.out.1.drewN 1, hfin.out.2.drewN 1⟩
        | exact d3.out.other (HNE.out) _
        | exact Blk.drew (d3.out.other (HNE.out) _)
    case rest =>
      obtain ⟨v', W', HG, hWW, HB9⟩ := hcut
      obtain rfl := hWW.out
      have RA : Hid (∀ w', Below wc.heap.size wc w' → Calls Try.prog 37 #[.pointer (some ⟨m, 3 + r * 16, none⟩), .agg #[.int .i64 (s : Nat), .int .i64 (o : Nat)]] w' fun e w'' => e = .returned (.tuple #[]) ∧ (∃ W', GI w'' m ow n a v' W' (insG l (id, r, s, o)) ∧ WordsG W' (insG l (id, r, s, o))) ∧ Chg ow w' w'') := fun w' hb =>
        rowAdd_any m n a r s o ow v' W' _ l w' (HG.out.1.kept hb) HW.out HO.out.n10 hr HCE.out.ord HCE.out.al HCE.out.en (fun r' x => cov_ins)
      have b1 := HB9.out.cell 1
      have b2 := HB9.out.cell 2
      have b3 := HB9.out.cell 3
      simp at b1 b2 b3
      have hri : (r : Int) < 16 := by omega
      have HCH : Hid (Chg own w wc) := ((Chg.of_below HBX.out).trans (Chg.of_below HBc.out)).trans (HG.out.2.weak HOW.out)
      go_wp2_with fail
      go_region_law
        (first
          | (go_simp; go_at_call 37; ((with_reducible refine (RA.out _ (by first | exact (Below.refl _ _).drew | exact Below.refl _ _)).mono ?_); rintro e w2 ⟨rfl, ⟨W2, k1, k2⟩, k3⟩)))
      all_goals (go_wp2_with fail)
      all_goals go_returns
      all_goals first
        | exact ⟨rfl, ⟨v', W2, (k1.wider HOW.out), k2, HOI.out⟩, HCH.out.trans (k3.weak HOW.out)⟩
        | exact ⟨rfl, ⟨v', W2, (k1.wider HOW.out), k2, HOI.out⟩, (HCH.out.drewN 1).trans (k3.weak HOW.out)⟩
        | trace_state
theorem del_flat (l : List Ce) (k : Nat) : (l.flatMap ceV).take (k * 4) ++ (l.flatMap ceV).drop ((k + 1) * 4) = (l.eraseIdx k).flatMap ceV := by
  rw [ceL_take, ceL_drop, List.eraseIdx_eq_take_drop_succ, List.flatMap_append]
set_option maxRecDepth 100000 in
set_option maxHeartbeats 4000000 in
theorem gdrop_any (m n a k : Nat) (own : Nat → Prop) (l : List Ce) (w : World) (h : GN w m own n a l) (hk : k < l.length) :
    Calls Try.prog 41 #[.pointer (some ⟨m, 0, none⟩), .int .i64 (k : Nat)] w fun e w' => e = .returned (.tuple #[]) ∧ GN w' m own n a (l.eraseIdx k) ∧ Chg own w w' := by
  obtain ⟨v, Wd, hI, hW, hO⟩ := h
  have hlen := hO.len
  have hck := hO.ce l[k] (List.getElem_mem hk)
  have hcov := fun (r x : Nat) => hO.cov_erase (k := k) hk (r := r) (x := x)
  have hOi : OkG n (l.eraseIdx k) := hO.sub (List.eraseIdx_sublist l k)
  have hcr := crow_of_own hI.row
  obtain ⟨va, vc, hve⟩ := RowG.slice hcr
  subst hve
  cases va with
  | none => have := hcr.nil; rw [this] at hk; simp at hk
  | some A =>
  obtain ⟨bb, off, rfl⟩ := hcr.addr (by omega)
  obtain ⟨x0, x1, x2, x3⟩ := hcr.cells hk (Below.refl _ _)
  obtain ⟨c, hc⟩ : ∃ c, c = l[k] := ⟨_, rfl⟩
  rw [← hc] at x0 x1 x2 x3 hck hcov
  obtain ⟨id, r, s, o⟩ := c
  dsimp only at x0 x1 x2 x3
  have hr : r < 16 := hck.row
  obtain ⟨gC, hgC⟩ : ∃ g, g = w.heap.size := ⟨_, rfl⟩
  obtain ⟨X, hX⟩ : ∃ X, X = w.alloc (.cells #[.int .u32 (id : Nat), .int .i64 (r : Nat), .int .i64 (s : Nat), .int .i64 (o : Nat)] 48) := ⟨_, rfl⟩
  obtain ⟨ow, how⟩ : ∃ ow : Nat → Prop, ow = fun k => own k ∧ k ≠ gC := ⟨_, rfl⟩
  have HOW : Hid (∀ k, ow k → own k) := fun k hk => by rw [how] at hk; exact hk.1
  have HGC : Hid (¬ ow gC) := by unfold Hid; rw [how]; exact fun h => h.2 rfl
  have HBX : Hid (Below w.heap.size w X) := by unfold Hid; rw [hX]; exact (Below.refl _ _).alloc (Nat.le_refl _) _
  have HC : Hid (Blk X gC #[.int .u32 (id : Nat), .int .i64 (r : Nat), .int .i64 (s : Nat), .int .i64 (o : Nat)] 48) := by unfold Hid; rw [hX, hgC]; exact Blk.new w _ _
  have HI : Hid (GI X m ow n a (.slice (some ⟨bb, off, none⟩) l.length vc) Wd l) := by unfold Hid; rw [hX, how, hgC]; exact hI.boxed _
  have HO := Lib.hid hO
  have HW := Lib.hid hW
  have HCE := Lib.hid hck
  have HOI := Lib.hid hOi
  have HCOV := Lib.hid hcov
  have y2 := hI.gb.c2
  obtain ⟨LL, hLL⟩ : ∃ n, n = l.length := ⟨_, rfl⟩
  have DL : Hid (Calls Try.prog 52 #[.slice (some ⟨bb, off, none⟩) LL vc, .int .i64 (k : Nat), .int .i64 ((k : Int) + 1)] X
      fun e w'' => ∃ wa wn wvc, e = .returned (.slice wa wn wvc) ∧ (w''.cell? ⟨m, 2, none⟩ = some (.slice (some ⟨bb, off, none⟩) LL vc) ∧ w''.frozen? ⟨m, 2, none⟩ = false ∧ Hid (Blk w'' gC #[.int .u32 (id : Nat), .int .i64 (r : Nat), .int .i64 (s : Nat), .int .i64 (o : Nat)] 48)) ∧
        Hid (GI (w''.setCell ⟨m, 2, none⟩ (.slice wa wn wvc)) m ow n a (.slice wa wn wvc) Wd (l.eraseIdx k) ∧ Chg ow X (w''.setCell ⟨m, 2, none⟩ (.slice wa wn wvc)))) := by
    unfold Hid
    rw [hLL, show ((k : Int) + 1) = ((k + 1 : Nat) : Int) by omega]
    refine (delICell_any 0 _ l.length k (k + 1) (l.flatMap ceV) X (by omega) (by omega) HI.out.row (ceV_one l)).mono ?_
    rintro e w2 ⟨v', rfl, d1, d2, d3⟩
    rw [del_flat] at d1
    have hll : k + (l.length - (k + 1)) = (l.eraseIdx k).length := by rw [List.length_eraseIdx, if_pos hk]; omega
    rw [hll] at d1
    obtain ⟨e1, e2, e3⟩ := HI.out.put d2 d3 d1
    obtain ⟨wa, wvc, rfl⟩ := own_slice d1
    have hgv := fun g hg => (HI.out.ob g hg).1
    exact ⟨wa, _, wvc, rfl, ⟨e3.c2, e3.frozen 2, HC.out.other' d2 (fun e => HGC.out (hgv gC e))⟩, e1, e2⟩
  have y2' := HI.out.gb.c2
  rw [← hLL] at y2 y2' hk
  have hki : (k : Int) < (LL : Int) := by omega
  have hkw : IntKind.i64.wrap ((k : Int) + 1) = (k : Int) + 1 := by rw [IntKind.wrap_i64]; omega
  have hm := HI.out.gb.lt
  have hg := HC.out.lt
  have HNE : Hid (gC ≠ m) := fun e => HGC.out (e ▸ HI.out.bown)
  clear hI hW hO hOi hck hcov hcr hc how hLL HI
  go_enter Try.func41, Try.ntmps41
  go_upto_region 1 with fail
  rw [← hgC, ← hX]
  clear hgC hX x0 x1 x2 x3 y2
  go_wp2_with fail
  refine DL.out.mono ?_; rintro e w2 ⟨wa, wn, wvc, rfl, ⟨d1, d2, d3⟩, hfin⟩
  have HD3 : Hid (Blk (w2.setCell ⟨m, 2, none⟩ (.slice wa wn wvc)) gC #[.int .u32 (id : Nat), .int .i64 (r : Nat), .int .i64 (s : Nat), .int .i64 (o : Nat)] 48) := d3.out.other HNE.out _
  clear DL
  go_upto_region 2 with fail
  obtain ⟨wc, hwc⟩ : ∃ x, x = w2.setCell ⟨m, 2, none⟩ (.slice wa wn wvc) := ⟨_, rfl⟩
  rw [← hwc] at hfin HD3 ⊢
  clear hwc d1 d2 d3
  have RA : Hid (∀ w', Below wc.heap.size wc w' → Calls Try.prog 53 #[.pointer (some ⟨m, 3 + r * 16, none⟩), .agg #[.int .i64 (s : Nat), .int .i64 (o : Nat)]] w' fun e w'' => e = .returned (.tuple #[]) ∧ (∃ W', GI w'' m ow n a (.slice wa wn wvc) W' (l.eraseIdx k) ∧ WordsG W' (l.eraseIdx k)) ∧ Chg ow w' w'') := fun w' hb =>
    rowRem_any m n a r s o ow _ Wd _ l w' (hfin.out.1.kept hb) HW.out HO.out.n10 hr HCE.out.ord HCE.out.al HCE.out.en (fun r' x => HCOV.out r' x)
  have b1 := HD3.out.cell 1
  have b2 := HD3.out.cell 2
  have b3 := HD3.out.cell 3
  simp at b1 b2 b3
  have hri : (r : Int) < 16 := by omega
  have HCH : Hid (Chg own w wc) := (Chg.of_below HBX.out).trans (hfin.out.2.weak HOW.out)
  go_region_law
    (first
      | (go_simp; go_at_call 53; ((with_reducible refine (RA.out _ (by first | exact (Below.refl _ _).drew | exact Below.refl _ _)).mono ?_); rintro e w2 ⟨rfl, ⟨W2, k1, k2⟩, k3⟩)))
  all_goals (go_wp2_with fail)
  all_goals go_returns
  all_goals first
    | exact ⟨rfl, ⟨_, W2, (k1.wider HOW.out), k2, HOI.out⟩, HCH.out.trans (k3.weak HOW.out)⟩
    | exact ⟨rfl, ⟨_, W2, (k1.wider HOW.out), k2, HOI.out⟩, (HCH.out.drewN 1).trans (k3.weak HOW.out)⟩
end Go.Proofs.Ytfobapnncjjeiaa
