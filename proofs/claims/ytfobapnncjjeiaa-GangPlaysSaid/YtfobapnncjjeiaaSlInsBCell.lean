/-
  slices.Insert at a row of elements of 4 cells that the caller owns, with the block at which the answer lies. Written by wip/gen/slgen.py (insb).
-/
import Derived.Test.YtfobapnncjjeiaaGrp
import Derived.Test.YtfobapnncjjeiaaMem
import Derived.Test.YtfobapnncjjeiaaShelf
import Derived.Lib.Hide
import Derived.Test.YtfobapnncjjeiaaAtB
import Derived.Maps.AppendAt
import Derived.Shelf.Spec.SlicesInsert
import Derived.Laws.NewBlocks
namespace Go.Proofs.Ytfobapnncjjeiaa
open Go.ChangeShapes Go.WideShapes Go.ChangeAt Go.RowKit Go.Lib
set_option linter.unusedVariables false

theorem Try.infoICell : (Try.prog.info? 48).map (fun i => (i.zero, i.size, i.bytes)) = some (some (.agg #[.int .u32 0, .int .i64 0, .int .i64 0, .int .i64 0]), 4, 32) := by kernel_rfl

set_option maxRecDepth 100000 in
/-- At the end. -/
theorem insICell_end (base : Nat) (v : Value) (n m vc vb : Nat) (arr : Array Value) (t : TypeId) (xs vs : List Value) (w : World) (hm : 0 < m) (hn : n + m ≤ 4194304) (hbase : base ≤ w.heap.size) (hown : w.ownsRow base 48 4 v n xs)
    (hB : Blk w vb arr t) (hva : arr.toList = vs) (hvl : vs.length = m * 4) (h1v : ∀ u ∈ vs, u.oneCell' = true) :
    Calls Try.prog 58 #[v, .int .i64 n, .slice (some ⟨vb, 0, none⟩) m vc] w
      fun e w' => ∃ v', e = .returned v' ∧ w'.ownsRow base 48 4 v' (n + m) (xs ++ vs) ∧ w.grownBy w' v.ownBlock ∧ AtB w v v' := by
  obtain ⟨i0, hi, hz0, hz1, hz2⟩ := info_parts Try.infoICell
  have HO := Lib.hid hown
  have HV : Hid (∀ j u, vs[j]? = some u → w.cell? ((⟨vb, 0, none⟩ : Addr).add j) = some u) := news_blk (by rw [← hva]; simpa using hB)
  have H1 := Lib.hid h1v
  have HL := Lib.hid hvl
  obtain ⟨A, c, hc, rfl⟩ : ∃ A c, n ≤ c ∧ v = .slice A n c := by
    rcases hown.2 with ⟨rfl, rfl⟩ | ⟨g, cap, cur, rfl, _, _, h, _⟩
    · exact ⟨none, 0, Nat.le_refl _, rfl⟩
    · exact ⟨_, _, h, rfl⟩
  have hA : A = none → n = 0 := by
    intro h; subst h
    rcases hown.2 with ⟨h, rfl⟩ | ⟨g, cap, cur, h, _⟩
    · rfl
    · simp at h
  have hz : ¬ ((m : Int) = 0) := by omega
  clear hB hva hvl h1v hown
  cases A with
  | none =>
    obtain rfl := hA rfl
    clear hA
    go_enter Try.func58, Try.ntmps58
    go_wp2_with (at_builtin; refine wpList_append_own_at _ rfl _ _ 35 rfl base 48 i0 _ 4 32 Try.underlying35 hi hz0 hz1 hz2 rfl (by decide) _ _ xs rfl HO.out _ m vc vs rfl HL.out HV.out H1.out (by unfold maxLen; omega) (by omega) hbase ?_; intro v1 w1 hown1 hgrow hnil hat)
    all_goals (go_ret; exact ⟨v1, rfl, hown1, hgrow, atB_of hat⟩)
  | some a =>
    clear hA
    by_cases hcn : c = n
    · subst hcn
      go_enter Try.func58, Try.ntmps58
      go_wp2_with (at_builtin; refine wpList_append_own_at _ rfl _ _ 35 rfl base 48 i0 _ 4 32 Try.underlying35 hi hz0 hz1 hz2 rfl (by decide) _ _ xs rfl HO.out _ m vc vs rfl HL.out HV.out H1.out (by unfold maxLen; omega) (by omega) hbase ?_; intro v1 w1 hown1 hgrow hnil hat)
      all_goals (go_ret; exact ⟨v1, rfl, hown1, hgrow, atB_of hat⟩)
    · go_enter Try.func58, Try.ntmps58
      go_wp2_with (at_builtin; refine wpList_append_own_at _ rfl _ _ 35 rfl base 48 i0 _ 4 32 Try.underlying35 hi hz0 hz1 hz2 rfl (by decide) _ _ xs rfl HO.out _ m vc vs rfl HL.out HV.out H1.out (by unfold maxLen; omega) (by omega) hbase ?_; intro v1 w1 hown1 hgrow hnil hat)
      all_goals (go_ret; exact ⟨v1, rfl, hown1, hgrow, atB_of hat⟩)

set_option maxHeartbeats 4000000 in
set_option maxRecDepth 100000 in
/-- Inside, with room. -/
theorem insICell_room (base g n cap i m vc vb : Nat) (cur arr : Array Value) (t : TypeId) (xs vs : List Value) (w : World) (hm : 0 < m) (hin : i < n) (hroom : n + m ≤ cap) (hbg : base ≤ g)
    (hg : w.heap[g]? = some (.cells cur 48 (0, 0))) (hcm : cap ≤ maxLen) (hcs : cur.size = cap * 4) (hxs : cur.toList.take (n * 4) = xs) (hx : xs.length = n * 4) (h1x : ∀ u ∈ xs, u.oneCell' = true)
    (hB : Blk w vb arr t) (hvg : vb ≠ g) (hva : arr.toList = vs) (hvl : vs.length = m * 4) (h1v : ∀ u ∈ vs, u.oneCell' = true) :
    Calls Try.prog 58 #[.slice (some ⟨g, 0, none⟩) n cap, .int .i64 i, .slice (some ⟨vb, 0, none⟩) m vc] w
      fun e w' => e = .returned (.slice (some ⟨g, 0, none⟩) (n + m) cap) ∧ w'.ownsRow base 48 4 (.slice (some ⟨g, 0, none⟩) (n + m) cap) (n + m) (xs.take (i * 4) ++ vs ++ xs.drop (i * 4)) ∧ w.grownBy w' (some g) := by
  have mixed : Try.prog.follows Departure.mixedOrders = true := by kernel_rfl
  have hz1 : ¬ ((m : Int) = 0) := by omega
  have hz2 : ¬ ((i : Int) = (n : Int)) := by omega
  unfold maxLen at hcm
  have hC : cap * 4 = cur.size := hcs.symm
  have hgb : Blk w g cur 48 := hg
  have hsz : (Try.prog.info? 48).map (·.size) = some 4 := by kernel_rfl
  have hov : ∀ lb cb, (callFunc 73 #[.slice (some ⟨vb, 0, none⟩) m vc, .slice (some ⟨g, (i + m) * 4, none⟩) lb cb]).run Try.prog w = .ok (.value (.bool false)) w := fun lb cb => by
    rw [run_callFunc_extern Try.func73 (by kernel_rfl) (by kernel_rfl) (by kernel_rfl) (e := Extern.SlicesOverlaps.overlaps #[35, 35] #[4]) (by kernel_rfl),
      Lib.run_overlaps_apart w 35 4 48 Try.underlying35 4 Try.sizeOf48 ⟨vb, 0, none⟩ ⟨g, (i + m) * 4, none⟩ m vc lb cb hvg t 48 arr.size cur.size
        (by unfold Blk at hB; simp [World.shape?, hB]) (by simp [World.shape?, hg]) (by omega) (hB.free _) (hB.free _)]
    rfl
  have hdl : (xs.drop (i * 4)).length = n * 4 - i * 4 := by rw [List.length_drop, hx]
  have hw1 : IntKind.i64.wrap ((i : Int) + (m : Int)) = (i : Int) + (m : Int) := by rw [IntKind.wrap_i64]; omega
  have hb1 : (0 : Int) ≤ (i : Int) + (m : Int) := by omega
  have hin' : i ≤ n := by omega
  have htn : ((i : Int) + (m : Int)).toNat = i + m := by omega
  have hb2 : ¬ (cap = i + m) := by omega
  have hb3 : (i : Int) ≤ (n : Int) + (m : Int) := by omega
  have hb4 : ¬ (cap = i) := by omega
  have hcell : ∀ j v, xs[j]? = some v → w.cell? ⟨g, j, none⟩ = some v := fun j v hj => by
    rw [hgb.cell]
    rw [← hxs, List.getElem?_take] at hj
    split at hj
    · simpa using hj
    · cases hj
  have hsp : ∀ j, j < (n + m) * 4 → (w.cell? ⟨g, j, none⟩).isSome = true := fun j hj => by
    rw [hgb.cell, Array.getElem?_eq_getElem (by omega)]; rfl
  have hcp1 : ∀ ty dc sc, (Builtin.copy_ #[35, 35] ty #[.slice (some ⟨g, (i + m) * 4, none⟩) (n + m - (i + m)) dc, .slice (some ⟨g, i * 4, none⟩) (n + m - i) sc]).run Try.prog w.drew = .ok (goInt (Nat.min (n + m - i) (n + m - (i + m)))) (w.drew.setCells g ((i + m) * 4) (xs.drop (i * 4))) := fun ty dc sc =>
    run_copy_rows w.drew _ _ ty 48 4 g ((i + m) * 4) (n + m - (i + m)) dc ⟨g, i * 4, none⟩ (n + m - i) sc (xs.drop (i * 4)) Try.underlying35 hsz (by rw [hdl]; simp only [Nat.min_def]; split <;> omega)
      (fun j v hj => by rw [Addr.add_lit]; exact hcell _ v (by rwa [List.getElem?_drop] at hj))
      (fun j hj => hsp _ (by omega)) (fun j hj => hgb.free _) (fun v hv => h1x v (List.mem_of_mem_drop hv))
  obtain ⟨W1, hW1⟩ : ∃ W1, W1 = w.drew.setCells g ((i + m) * 4) (xs.drop (i * 4)) := ⟨_, rfl⟩
  have hsp1 : ∀ k, k < (n + m) * 4 → (W1.cell? ⟨g, k, none⟩).isSome = true := fun k hk => by
    rw [hW1]
    exact isSome_setCells g (xs.drop (i * 4)) ((i + m) * 4) w.drew (fun j hj => by rw [hdl] at hj; exact hsp _ (by omega)) _ (hsp k hk)
  have hcp2 : ∀ (W : World), (∀ x, W.cell? x = W1.cell? x) → (∀ x, W.frozen? x = W1.frozen? x) → ∀ ty dc, (Builtin.copy_ #[35, 35] ty #[.slice (some ⟨g, i * 4, none⟩) (n + m - i) dc, .slice (some ⟨vb, 0, none⟩) m vc]).run Try.prog W = .ok (goInt (Nat.min m (n + m - i))) (W.setCells g (i * 4) vs) := fun W hWc hWf ty dc =>
    run_copy_rows W _ _ ty 48 4 g (i * 4) (n + m - i) dc ⟨vb, 0, none⟩ m vc vs Try.underlying35 hsz (by rw [hvl]; simp only [Nat.min_def]; split <;> omega)
      (fun j v hj => by
        rw [Addr.add_lit, hWc, hW1, World.cell?_setCells_out g _ _ _ _ (fun h _ => absurd h hvg), Nat.zero_add]
        show w.cell? ⟨vb, j, none⟩ = _
        rw [hB.cell, ← Array.getElem?_toList, hva]; exact hj)
      (fun j hj => by rw [hWc]; exact hsp1 _ (by omega)) (fun j hj => by rw [hWf, hW1, World.frozen?_setCells]; exact hgb.free _) h1v
  rw [← hW1] at hcp1
  have HFIN : Hid ((W1.setCells g (i * 4) vs).ownsRow base 48 4 (.slice (some ⟨g, 0, none⟩) (n + m) cap) (n + m) (xs.take (i * 4) ++ vs ++ xs.drop (i * 4))) := by
    rw [hW1]; exact owns_opened (w := w.drew) hbg hg (by unfold maxLen; omega) hcs hxs hin' hroom hvl hx
  have HGR : Hid (w.grownBy (W1.setCells g (i * 4) vs) (some g)) := by
    rw [hW1]
    have h1 : w.grownBy (w.setCells g ((i + m) * 4) (xs.drop (i * 4))) (some g) := grownBy_setCells g _ _ _
    have h2 : w.grownBy ((w.drew).setCells g ((i + m) * 4) (xs.drop (i * 4))) (some g) := World.grownBy.trans (b := w.drew) ⟨rfl, rfl, rfl, Nat.le_refl _, fun _ _ _ => rfl⟩ (grownBy_setCells g _ _ _)
    exact World.grownBy.trans h2 (grownBy_setCells g _ _ _)
  clear hg hgb hxs hx h1x hB hva hvl h1v hdl hsp hsp1 hcell hC hcs hvg hsz
  go_enter Try.func58, Try.ntmps58
  go_wp2_with (simp only [hov])
  go_region_law_o (refine step_copy_runI rfl _ _ 35 35 rfl _ _ (by simp [Act.eval, Act.put]) (by simp [Act.eval, Act.put]) (hcp1 _ _ _) ?_)
  go_wp2_with (at_builtin; refine wpList_copy_runI _ rfl _ _ 35 35 rfl _ _ rfl rfl (hcp2 _ (fun _ => rfl) (fun _ => rfl) _ _) ?_)
  go_ret
  rw [← hW1]
  exact ⟨rfl, HFIN.out, HGR.out⟩
set_option maxHeartbeats 4000000 in
set_option maxRecDepth 100000 in
/-- Inside, without room. -/
theorem insICell_grow (base g n cap i m vc vb : Nat) (cur arr : Array Value) (t : TypeId) (xs vs : List Value) (w : World) (hm : 0 < m) (hin : i < n) (hnc : n ≤ cap) (hroom : cap < n + m) (hn : n + m ≤ 4194304) (hbase : base ≤ w.heap.size)
    (hg : w.heap[g]? = some (.cells cur 48 (0, 0))) (hxs : cur.toList.take (n * 4) = xs) (hx : xs.length = n * 4) (h1x : ∀ u ∈ xs, u.oneCell' = true)
    (hB : Blk w vb arr t) (hva : arr.toList = vs) (hvl : vs.length = m * 4) (h1v : ∀ u ∈ vs, u.oneCell' = true) :
    Calls Try.prog 58 #[.slice (some ⟨g, 0, none⟩) n cap, .int .i64 i, .slice (some ⟨vb, 0, none⟩) m vc] w
      fun e w' => ∃ G, e = .returned (.slice (some ⟨w.heap.size, 0, none⟩) (n + m) G) ∧ w'.ownsRow base 48 4 (.slice (some ⟨w.heap.size, 0, none⟩) (n + m) G) (n + m) (xs.take (i * 4) ++ vs ++ xs.drop (i * 4)) ∧ w.grownBy w' none := by
  obtain ⟨i0, hi0, hz0, hzs, hzb⟩ := info_parts Try.infoICell
  have mixed : Try.prog.follows Departure.mixedOrders = true := by kernel_rfl
  have hz1 : ¬ ((m : Int) = 0) := by omega
  have hz2 : ¬ ((i : Int) = (n : Int)) := by omega
  have hz3 : (cap : Int) < (n : Int) + (m : Int) := by omega
  have hgb : Blk w g cur 48 := hg
  have hsz : (Try.prog.info? 48).map (·.size) = some 4 := by kernel_rfl
  have hbw : g < w.heap.size := hgb.lt
  have hvw : vb < w.heap.size := hB.lt
  have hkk : (n : Int) + (m : Int) - (i : Int) = ((n + m - i : Nat) : Int) := by omega
  have hik : i + (n + m - i) = n + m := by omega
  have hcell : ∀ j v, xs[j]? = some v → w.cell? ⟨g, j, none⟩ = some v := fun j v hj => by
    rw [hgb.cell]
    rw [← hxs, List.getElem?_take] at hj
    split at hj
    · simpa using hj
    · cases hj
  have htl : (xs.take (i * 4)).length = i * 4 := by rw [List.length_take, hx]; omega
  have hold : (Builtin.firstCells i0.size i (.slice (some ⟨g, 0, none⟩) i cap)).run Try.prog w.drew = .ok (xs.take (i * 4)).toArray w.drew := by
    rw [hzs]
    exact run_firstCells_some w.drew 4 i ⟨g, 0, none⟩ i cap (xs.take (i * 4)) htl (fun j v hj => by
      rw [Addr.add_lit, Nat.zero_add]
      rw [List.getElem?_take] at hj
      split at hj
      · exact hcell j v hj
      · cases hj)
  obtain ⟨z, hz⟩ : ∃ z : Value, z = .agg #[.int .u32 0, .int .i64 0, .int .i64 0, .int .i64 0] := ⟨_, rfl⟩
  have hzc : z.cells.size = 4 := by rw [hz]; rfl
  have hz0' : i0.zero = some z := by rw [hz]; exact hz0
  have hrz : ∀ ty, (Builtin.append_ #[35, 3] ty #[.slice (some ⟨g, 0, none⟩) i cap, .int .i64 ((n : Int) + (m : Int) - (i : Int))]).run Try.prog w =
      .ok (.slice (some ⟨w.heap.size, 0, none⟩) (n + m) (grownCap w (n + m) cap 48)) (w.drew.alloc (.cells ((xs.take (i * 4)).toArray ++ Builtin.zeroCells z.cells (n + m - i) ++ Builtin.zeroCells z.cells (grownCap w (n + m) cap 48 - (n + m))) 48)) := fun ty => by
    have h := Lib.run_append_grow_zeros w 35 3 ty 48 i0 _ .i64 .i64 Try.underlying35 Try.underlying3 hi0 hz0' (some ⟨g, 0, none⟩) i cap (xs.take (i * 4)) hold (n + m - i) (by omega) (by omega) (by omega) (by omega) (by rw [hzb]; omega) (by rw [hzb, hik]; exact growslice_fits hroom (by omega))
    rw [hik] at h
    rw [hkk]
    exact h
  obtain ⟨G, hG⟩ : ∃ G, G = grownCap w (n + m) cap 48 := ⟨_, rfl⟩
  obtain ⟨ROW, hROW⟩ : ∃ ROW : Array Value, ROW = (xs.take (i * 4)).toArray ++ Builtin.zeroCells z.cells (n + m - i) ++ Builtin.zeroCells z.cells (G - (n + m)) := ⟨_, rfl⟩
  rw [← hG] at hrz
  rw [← hROW] at hrz
  have hGn : n + m ≤ G := by rw [hG]; exact grownCap_ge w _ _ _
  have hGm : G ≤ maxLen := by
    have := grownCap_le_maxLen w (n + m) cap 48 (by unfold maxLen; omega)
    rwa [← hG] at this
  have hG63 : G ≤ 9223372036854775807 := by unfold maxLen at hGm; omega
  have hRl : ROW.size = G * 4 := by
    rw [hROW, Array.size_append, Array.size_append, size_zeroCells, size_zeroCells, hzc]
    simp only [List.size_toArray, htl]
    omega
  have hRt : ROW.toList.take (i * 4) = xs.take (i * 4) := by
    rw [hROW, Array.toList_append, Array.toList_append, List.append_assoc]
    exact List.take_left' htl
  obtain ⟨W1, hW1⟩ : ∃ W1, W1 = w.drew.alloc (.cells ROW 48) := ⟨_, rfl⟩
  rw [← hW1] at hrz
  have hNB : Blk W1 w.heap.size ROW 48 := by rw [hW1]; exact Blk.fresh w.drew ROW _ w.heap.size rfl
  have hN : ∀ j, j < (n + m) * 4 → (W1.cell? ⟨w.heap.size, j, none⟩).isSome = true := fun j hj => by
    rw [hNB.cell, Array.getElem?_eq_getElem (by omega)]; rfl
  have hOb : ∀ j v, w.cell? ⟨g, j, none⟩ = some v → W1.cell? ⟨g, j, none⟩ = some v := fun j v h => by rw [hW1, World.cell?_alloc_past (w := w.drew) _ g j hbw]; exact h
  have hOv : ∀ j v, w.cell? ⟨vb, j, none⟩ = some v → W1.cell? ⟨vb, j, none⟩ = some v := fun j v h => by rw [hW1, World.cell?_alloc_past (w := w.drew) _ vb j hvw]; exact h
  have hcpA : ∀ (W : World), (∀ x, W.cell? x = W1.cell? x) → (∀ x, W.frozen? x = W1.frozen? x) → ∀ ty dc, (Builtin.copy_ #[35, 35] ty #[.slice (some ⟨w.heap.size, i * 4, none⟩) (n + m - i) dc, .slice (some ⟨vb, 0, none⟩) m vc]).run Try.prog W = .ok (goInt (Nat.min m (n + m - i))) (W.setCells w.heap.size (i * 4) vs) := fun W hWc hWf ty dc =>
    run_copy_rows W _ _ ty 48 4 w.heap.size (i * 4) (n + m - i) dc ⟨vb, 0, none⟩ m vc vs Try.underlying35 hsz (by rw [hvl]; simp only [Nat.min_def]; split <;> omega)
      (fun j v hj => by rw [Addr.add_lit, hWc, Nat.zero_add]; exact hOv _ v (by rw [hB.cell, ← Array.getElem?_toList, hva]; exact hj))
      (fun j hj => by rw [hWc]; exact hN _ (by omega)) (fun j hj => by rw [hWf]; exact hNB.free _) h1v
  have hGi : ¬ (G = i) := by omega
  have hGim : ¬ (G = i + m) := by omega
  have hci : ¬ (cap = i) := by omega
  have hbN : g ≠ w.heap.size := by omega
  have hdl : (xs.drop (i * 4)).length = n * 4 - i * 4 := by rw [List.length_drop, hx]
  have hcpB : ∀ (W : World), (∀ x, W.cell? x = (W1.setCells w.heap.size (i * 4) vs).cell? x) → (∀ x, W.frozen? x = (W1.setCells w.heap.size (i * 4) vs).frozen? x) → ∀ ty dc sc, (Builtin.copy_ #[35, 35] ty #[.slice (some ⟨w.heap.size, (i + m) * 4, none⟩) (n + m - (i + m)) dc, .slice (some ⟨g, i * 4, none⟩) (n - i) sc]).run Try.prog W = .ok (goInt (Nat.min (n - i) (n + m - (i + m)))) (W.setCells w.heap.size ((i + m) * 4) (xs.drop (i * 4))) := fun W hWc hWf ty dc sc =>
    run_copy_rows W _ _ ty 48 4 w.heap.size ((i + m) * 4) (n + m - (i + m)) dc ⟨g, i * 4, none⟩ (n - i) sc (xs.drop (i * 4)) Try.underlying35 hsz (by rw [hdl]; simp only [Nat.min_def]; split <;> omega)
      (fun j v hj => by
        rw [Addr.add_lit, hWc, World.cell?_setCells_out _ _ _ _ _ (fun h _ => absurd h hbN)]
        exact hOb _ v (hcell (i * 4 + j) v (by rwa [List.getElem?_drop] at hj)))
      (fun j hj => by rw [hWc]; exact isSome_setCells w.heap.size vs (i * 4) W1 (fun t ht => hN _ (by omega)) _ (hN _ (by omega)))
      (fun j hj => by rw [hWf, World.frozen?_setCells]; exact hNB.free _) (fun v hv => h1x v (List.mem_of_mem_drop hv))
  subst hW1
  have hE1 : ∀ x, ((w.alloc (.cells ROW 48)).drew).cell? x = (w.drew.alloc (.cells ROW 48)).cell? x := fun x => rfl
  have hE2 : ∀ x, ((w.alloc (.cells ROW 48)).drew).frozen? x = (w.drew.alloc (.cells ROW 48)).frozen? x := fun x => rfl
  have hF1 : ∀ x, (((w.alloc (.cells ROW 48)).drew.setCells w.heap.size (i * 4) vs).drew).cell? x = ((w.drew.alloc (.cells ROW 48)).setCells w.heap.size (i * 4) vs).cell? x := fun x => rfl
  have hF2 : ∀ x, (((w.alloc (.cells ROW 48)).drew.setCells w.heap.size (i * 4) vs).drew).frozen? x = ((w.drew.alloc (.cells ROW 48)).setCells w.heap.size (i * 4) vs).frozen? x := fun x => rfl
  have HFIN : Hid (((((w.alloc (.cells ROW 48)).drew.setCells w.heap.size (i * 4) vs).drew).setCells w.heap.size ((i + m) * 4) (xs.drop (i * 4))).ownsRow base 48 4 (.slice (some ⟨w.heap.size, 0, none⟩) (n + m) G) (n + m) (xs.take (i * 4) ++ vs ++ xs.drop (i * 4))) := by
    unfold Hid
    rw [drew_setCells]
    exact owns_laid (w := (w.alloc (.cells ROW 48)).drew.drew) (vs := vs) hbase (Blk.new w ROW 48) hGm hRl hRt (Nat.le_of_lt hin) hGn hvl hx
  have HGR : Hid (w.grownBy ((((w.alloc (.cells ROW 48)).drew.setCells w.heap.size (i * 4) vs).drew).setCells w.heap.size ((i + m) * 4) (xs.drop (i * 4))) none) := by
    have h1 := grownBy_setCells w.heap.size vs (i * 4) ((w.alloc (.cells ROW 48)).drew)
    have h2 := grownBy_setCells w.heap.size (xs.drop (i * 4)) ((i + m) * 4) (((w.alloc (.cells ROW 48)).drew.setCells w.heap.size (i * 4) vs).drew)
    have h0 := World.grownBy_alloc w (.cells ROW 48) none
    refine ⟨h2.os.trans (h1.os.trans h0.os), h2.tape.trans (h1.tape.trans h0.tape), h2.output.trans (h1.output.trans h0.output), Nat.le_trans h0.size (Nat.le_trans h1.size h2.size), fun k hk _ => ?_⟩
    have k0 : k < (w.alloc (.cells ROW 48)).heap.size := Nat.lt_of_lt_of_le hk h0.size
    have hne : some k ≠ some w.heap.size := fun e => by cases e; omega
    exact ((h2.block k (Nat.lt_of_lt_of_le k0 h1.size) hne).trans (h1.block k k0 hne)).trans (h0.block k hk (by simp))
  have hw1 : IntKind.i64.wrap ((i : Int) + (m : Int)) = (i : Int) + (m : Int) := by rw [IntKind.wrap_i64]; omega
  have hb1 : (0 : Int) ≤ (i : Int) + (m : Int) := by omega
  have hin' : i ≤ n := by omega
  have htn : ((i : Int) + (m : Int)).toNat = i + m := by omega
  have hb3 : (i : Int) ≤ (n : Int) := by omega
  clear hkk hik hold hROW hG hRl hRt hxs hx h1x hB hva hvl h1v hcell hN hNB hOb hOv hdl hg hgb hGm htl hz hzc hz0' hz0 hsz
  go_enter Try.func58, Try.ntmps58
  go_wp2_with (first
    | (at_builtin; refine Lib.wpList_append_run _ rfl _ _ _ _ rfl _ _ rfl rfl _ _ (hrz _) ?_)
    | (at_builtin; refine wpList_copy_runI _ rfl _ _ 35 35 rfl _ _ rfl rfl (hcpA _ hE1 hE2 _ _) ?_)
    | (at_builtin; refine wpList_copy_runI _ rfl _ _ 35 35 rfl _ _ rfl rfl (hcpB _ (fun _ => rfl) (fun _ => rfl) _ _ _) ?_))
  go_region_law_o (refine step_copy_runI rfl _ _ 35 35 rfl (.slice (some ⟨w.heap.size, (i + m) * 4, none⟩) (n + m - (i + m)) (G - (i + m))) (.slice (some ⟨g, i * 4, none⟩) (n - i) (cap - i)) (by simp [Act.eval, Act.put]) (by simp [Act.eval, Act.put]) (hcpB _ hF1 hF2 3 (G - (i + m)) (cap - i)) ?_)
  go_wp2
  go_ret
  exact ⟨G, rfl, HFIN.out, HGR.out⟩

/-- slices.Insert: at any place of a row that the caller owns. -/
theorem insICell_any (base : Nat) (v : Value) (n i m vc vb : Nat) (arr : Array Value) (t : TypeId) (xs vs : List Value) (w : World) (hm : 0 < m) (hi : i ≤ n) (hn : n + m ≤ 4194304) (hbase : base ≤ w.heap.size) (hown : w.ownsRow base 48 4 v n xs) (h1x : ∀ u ∈ xs, u.oneCell' = true)
    (hB : Blk w vb arr t) (hvg : some vb ≠ v.ownBlock) (hva : arr.toList = vs) (hvl : vs.length = m * 4) (h1v : ∀ u ∈ vs, u.oneCell' = true) :
    Calls Try.prog 58 #[v, .int .i64 i, .slice (some ⟨vb, 0, none⟩) m vc] w
      fun e w' => ∃ v', e = .returned v' ∧ w'.ownsRow base 48 4 v' (n + m) (xs.take (i * 4) ++ vs ++ xs.drop (i * 4)) ∧ w.grownBy w' v.ownBlock ∧ AtB w v v' := by
  have hx := hown.1
  rcases Nat.lt_or_ge i n with h | h
  · obtain ⟨g, cap, cur, rfl, hbg, hg, hnc, hcm, hcs, hxs⟩ := owns_parts hown (by omega)
    rcases Nat.lt_or_ge cap (n + m) with hc | hc
    · refine (insICell_grow base g n cap i m vc vb cur arr t xs vs w hm h hnc hc hn hbase hg hxs hx h1x hB hva hvl h1v).mono ?_
      rintro e w' ⟨G, rfl, ho, hgr⟩
      exact ⟨_, rfl, ho, ⟨hgr.os, hgr.tape, hgr.output, hgr.size, fun k hk _ => hgr.block k hk (by simp)⟩, atB_new _ _ _ _⟩
    · refine (insICell_room base g n cap i m vc vb cur arr t xs vs w hm h hc hbg hg hcm hcs hxs hx h1x hB (fun e => hvg (by rw [e]; rfl)) hva hvl h1v).mono ?_
      rintro e w' ⟨rfl, ho, hgr⟩
      exact ⟨_, rfl, ho, hgr, atB_same _ _ _ _ _ _ _⟩
  · obtain rfl : i = n := by omega
    rw [List.take_of_length_le (by omega), List.drop_eq_nil_of_le (by omega), List.append_nil]
    exact insICell_end base v i m vc vb arr t xs vs w hm hn hbase hown hB hva hvl h1v
end Go.Proofs.Ytfobapnncjjeiaa
