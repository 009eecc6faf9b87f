/-
  slices.Delete at a row of elements of 4 cells that the caller owns: any part of it. Written by wip/gen/slgen.py.
-/
import Derived.Test.YtfobapnncjjeiaaGrp
import Derived.Test.YtfobapnncjjeiaaMem
import Derived.Test.YtfobapnncjjeiaaShelf
import Derived.Lib.Hide
import Derived.Test.YtfobapnncjjeiaaAtB
import Derived.Shelf.Spec.SlicesInsert
namespace Go.Proofs.Ytfobapnncjjeiaa
open Go.ChangeShapes Go.WideShapes Go.ChangeAt Go.RowKit Go.Lib
set_option linter.unusedVariables false

theorem Try.infoDICell : (Try.prog.info? 48).map (fun i => (i.zero, i.size, i.bytes)) = some (some (.agg #[.int .u32 0, .int .i64 0, .int .i64 0, .int .i64 0]), 4, 32) := by kernel_rfl

set_option maxHeartbeats 4000000 in
set_option maxRecDepth 100000 in
theorem delICell_some (base g n cap i j : Nat) (cur : Array Value) (xs : List Value) (w : World) (hij : i < j) (hjn : j ≤ n) (hnc : n ≤ cap) (hbg : base ≤ g)
    (hg : w.heap[g]? = some (.cells cur 48 (0, 0))) (hcm : cap ≤ maxLen) (hcs : cur.size = cap * 4) (hxs : cur.toList.take (n * 4) = xs) (hx : xs.length = n * 4) (h1x : ∀ u ∈ xs, u.oneCell' = true) :
    Calls Try.prog 52 #[.slice (some ⟨g, 0, none⟩) n cap, .int .i64 i, .int .i64 j] w
      fun e w' => e = .returned (.slice (some ⟨g, 0, none⟩) (i + (n - j)) cap) ∧ w'.ownsRow base 48 4 (.slice (some ⟨g, 0, none⟩) (i + (n - j)) cap) (i + (n - j)) (xs.take (i * 4) ++ xs.drop (j * 4)) ∧ w.grownBy w' (some g) := by
  obtain ⟨i0, hi0, hz0, hzs, hzb⟩ := info_parts Try.infoDICell
  have mixed : Try.prog.follows Departure.mixedOrders = true := by kernel_rfl
  have hgb : Blk w g cur 48 := hg
  have hz1 : ¬ ((i : Int) = (j : Int)) := by omega
  have hown : w.ownsRow base 48 4 (.slice (some ⟨g, 0, none⟩) n cap) n xs := ⟨hx, .inr ⟨g, cap, cur, rfl, hbg, hg, hnc, hcm, hcs, hxs⟩⟩
  have hof : w.drew.ownsRow base 48 4 (.slice (some ⟨g, 0, none⟩) i cap) i (xs.take (i * 4)) := owns_front (w := w.drew) hown i (by omega)
  have hdl : (xs.drop (j * 4)).length = (n - j) * 4 := by rw [List.length_drop, hx]; omega
  have hcell : ∀ q v, xs[q]? = some v → w.cell? ⟨g, q, none⟩ = some v := fun q v hq => by
    rw [hgb.cell]
    rw [← hxs, List.getElem?_take] at hq
    split at hq
    · simpa using hq
    · cases hq
  have hap : ∀ (ad : Addr) (ty : TypeId), (j < n → ad = ⟨g, j * 4, none⟩) → ∃ w1, (Builtin.append_ #[35, 35] ty #[.slice (some ⟨g, 0, none⟩) i cap, .slice (some ad) (n - j) (cap - j)]).run Try.prog w.drew = .ok (.slice (some ⟨g, 0, none⟩) (i + (n - j)) cap) w1 ∧
      w1.ownsRow base 48 4 (.slice (some ⟨g, 0, none⟩) (i + (n - j)) cap) (i + (n - j)) (xs.take (i * 4) ++ xs.drop (j * 4)) ∧ w.drew.grownBy w1 (some g) := fun ad ty had =>
    run_append_fits w.drew base 35 ty 48 i0 4 Try.underlying35 hi0 hzs g i cap (xs.take (i * 4)) hof ad (n - j) (cap - j) (xs.drop (j * 4)) hdl
      (fun q u hq => by
        have hlt : j < n := by
          have := (List.getElem?_eq_some_iff.1 hq).1
          omega
        rw [had hlt, Addr.add_lit]
        exact hcell _ u (by rwa [List.getElem?_drop] at hq)) (fun u hu => h1x u (List.mem_of_mem_drop hu)) (by omega)
  obtain ⟨z, hz⟩ : ∃ z : Value, z = .agg #[.int .u32 0, .int .i64 0, .int .i64 0, .int .i64 0] := ⟨_, rfl⟩
  have hzc : z.cells.size = 4 := by rw [hz]; rfl
  have hzero : ∀ w, (zeroValue 48).run Try.prog w = .ok z w := fun w => by rw [hz]; simp [zeroValue, typeInfo, hi0, hz0]
  have hz1c : ∀ v ∈ (Builtin.zeroCells z.cells (n - (i + (n - j)))).toList, v.oneCell' = true := by
    intro v hv
    rw [Array.mem_toList_iff] at hv
    unfold Builtin.zeroCells at hv
    obtain ⟨q, _, rfl⟩ := Array.mem_map.1 hv
    have : q % z.cells.size < 4 := by rw [hzc]; omega
    generalize q % z.cells.size = r at *
    rw [hz]
    rcases (by omega : r = 0 ∨ r = 1 ∨ r = 2 ∨ r = 3) with rfl | rfl | rfl | rfl <;> rfl
  have hfin : ∀ w1, w1.ownsRow base 48 4 (.slice (some ⟨g, 0, none⟩) (i + (n - j)) cap) (i + (n - j)) (xs.take (i * 4) ++ xs.drop (j * 4)) → w.drew.grownBy w1 (some g) →
      ∃ w2, (∀ ty c, (Builtin.clear_ #[35] ty #[.slice (some ⟨g, (i + (n - j)) * 4, none⟩) (n - (i + (n - j))) c]).run Try.prog w1 = .ok (.tuple #[]) w2) ∧
        w2.ownsRow base 48 4 (.slice (some ⟨g, 0, none⟩) (i + (n - j)) cap) (i + (n - j)) (xs.take (i * 4) ++ xs.drop (j * 4)) ∧ w.grownBy w2 (some g) := by
    intro w1 ho hgr
    obtain ⟨hl, ⟨h', _⟩ | ⟨g', cap', cur1, h', _, hg1, hnc1, _, hcs1, _⟩⟩ := id ho
    · simp at h'
    · simp only [Value.slice.injEq, Option.some.injEq, Addr.mk.injEq, and_true, true_and] at h'
      obtain ⟨rfl, rfl⟩ := h'
      have hb1 : Blk w1 g cur1 48 := hg1
      refine ⟨_, fun ty c => run_clear_rows w1 35 48 ty z Try.underlying35 hzero g ((i + (n - j)) * 4) (n - (i + (n - j))) c hz1c (by omega)
        (fun q hq => by rw [hzc] at hq; rw [hb1.cell, Array.getElem?_eq_getElem (by omega)]; rfl) (fun q _ => hb1.free _), owns_tail ho _ _ (Nat.le_refl _), ?_⟩
      exact World.grownBy.trans (b := w.drew) ⟨rfl, rfl, rfl, Nat.le_refl _, fun _ _ _ => rfl⟩ (World.grownBy.trans hgr (grownBy_setCells g _ _ _))
  have hc63 : cap ≤ 9223372036854775807 := by unfold maxLen at hcm; omega
  have hin : i ≤ n := by omega
  have hij' : i ≤ j := by omega
  have hic : i ≤ cap := by omega
  have HAP := Lib.hid hap
  have HFI := Lib.hid hfin
  clear hap hfin hgb hg hcs hxs hx h1x hown hof hdl hcell hz hzc hzero hz1c hcm
  obtain ⟨q, hq⟩ : ∃ q, q = i + (n - j) := ⟨_, rfl⟩
  rw [← hq] at HAP HFI ⊢
  have hqn : q < n := by omega
  have hqc : ¬ (cap = q) := by omega
  have hqn' : q ≤ n := by omega
  clear hq
  by_cases hcj : cap = j
  · obtain rfl : j = n := by omega
    subst hcj
    obtain ⟨w1, hr, ho, hgr⟩ := HAP.out ⟨g, 0, none⟩ 35 (fun h => by omega)
    obtain ⟨w2, hcl, ho2, hgr2⟩ := HFI.out w1 ho hgr
    have HO := Lib.hid ho2
    have HG := Lib.hid hgr2
    clear ho hgr ho2 hgr2 HFI HAP
    go_enter Try.func52, Try.ntmps52
    go_wp2_with fail
    go_region_law_o (refine step_append_run rfl _ _ 35 35 rfl _ _ (by simp [Act.eval, Act.put]) (by simp [Act.eval, Act.put]) hr ?_)
    go_wp2_with (at_builtin; refine wpList_clear_run _ rfl _ 35 rfl _ rfl (hcl _ _) ?_)
    go_ret
    exact ⟨rfl, HO.out, HG.out⟩
  · obtain ⟨w1, hr, ho, hgr⟩ := HAP.out ⟨g, j * 4, none⟩ 35 (fun h => rfl)
    obtain ⟨w2, hcl, ho2, hgr2⟩ := HFI.out w1 ho hgr
    have HO := Lib.hid ho2
    have HG := Lib.hid hgr2
    clear ho hgr ho2 hgr2 HFI HAP
    go_enter Try.func52, Try.ntmps52
    go_wp2_with fail
    go_region_law_o (refine step_append_run rfl _ _ 35 35 rfl _ _ (by simp [Act.eval, Act.put]) (by simp [Act.eval, Act.put]) hr ?_)
    go_wp2_with (at_builtin; refine wpList_clear_run _ rfl _ 35 rfl _ rfl (hcl _ _) ?_)
    go_ret
    exact ⟨rfl, HO.out, HG.out⟩

/-- slices.Delete: any elements of a row that the caller owns. -/
theorem delICell_any (base : Nat) (v : Value) (n i j : Nat) (xs : List Value) (w : World) (hij : i < j) (hjn : j ≤ n) (hown : w.ownsRow base 48 4 v n xs) (h1x : ∀ u ∈ xs, u.oneCell' = true) :
    Calls Try.prog 52 #[v, .int .i64 i, .int .i64 j] w
      fun e w' => ∃ v', e = .returned v' ∧ w'.ownsRow base 48 4 v' (i + (n - j)) (xs.take (i * 4) ++ xs.drop (j * 4)) ∧ w.grownBy w' v.ownBlock ∧ AtB w v v' := by
  have hx := hown.1
  obtain ⟨g, cap, cur, rfl, hbg, hg, hnc, hcm, hcs, hxs⟩ := owns_parts hown (by omega)
  refine (delICell_some base g n cap i j cur xs w hij hjn hnc hbg hg hcm hcs hxs hx h1x).mono ?_
  rintro e w' ⟨rfl, ho, hgr⟩
  exact ⟨_, rfl, ho, hgr, atB_same _ _ _ _ _ _ _⟩
end Go.Proofs.Ytfobapnncjjeiaa
