/-
  slices.Concat at two rows of keys; rank.Merge, gangerref03.Merge: at any keys.
-/
import Derived.Test.YtpgiladbljnpcaaKeyM
import Derived.Test.YtpgiladbljnpcaaApp
import Derived.Test.YtpgiladbljnpcaaShelf3
import Derived.Shelf.Spec.SlicesGrow
namespace Go.Proofs.Ytpgiladbljnpcaa
open Go.ChangeShapes Go.WideShapes Go.ChangeAt Go.RowKit Go.Lib Go.Sort Go.Maps
set_option linter.unusedVariables false

theorem src_keys {w : World} {v : Value} {xs : List Key} (h : KRow w v xs) : Src w 3 v xs.length (flatL xs) := by
  refine ⟨flatL_len xs, ?_⟩
  rcases h with ⟨rfl, a, c, rfl, _⟩ | ⟨b, off, c, rfl, h0, h1, h2, hc⟩
  · cases a with
    | none => exact .inl ⟨c, rfl, rfl⟩
    | some a => exact .inr ⟨a, c, rfl, fun j u hj => by simp [flatL] at hj⟩
  · exact .inr ⟨_, c, rfl, news_of_row hc⟩
theorem krow_slice {w : World} {v : Value} {xs : List Key} (h : KRow w v xs) : ∃ a c, v = .slice a xs.length c := by
  rcases h with ⟨rfl, a, c, rfl, _⟩ | ⟨b, off, c, rfl, _⟩
  · exact ⟨a, c, rfl⟩
  · exact ⟨_, c, rfl⟩

theorem growKeys (n : Nat) (w : World) (hn : n ≤ 4194304) :
    Calls Try.prog 56 #[.slice none 0 0, .int .i64 n] w fun e w' => ∃ v', e = .returned v' ∧ w'.ownsRow w.heap.size 24 3 v' 0 [] ∧ Below w.heap.size w w' := by
  obtain ⟨i0, hi, hz0, hz1, hz2⟩ := info_parts Try.infoKey
  rcases Nat.eq_zero_or_pos n with h0 | h0
  · subst h0
    have h := Any8.slices_Grow_room Try.growKey none 0 0 0 w (Nat.le_refl _) (by omega) (by omega) (Nat.le_refl _)
    exact Calls.mono (P := Try.prog) h fun e w' ⟨he, hw⟩ => by
      subst hw
      exact ⟨_, he, World.ownsRow_nil _ _ _ _, Below.refl _ _⟩
  · have h := Any8.slices_Grow_grow Try.growKey i0 _ hi hz0 (by omega) none 0 0 n [] w (Nat.le_refl _) (by omega) (by rw [hz2]; omega) (by omega) (by simp) (fun _ => rfl) (fun a ha => nomatch ha)
    exact Calls.mono (P := Try.prog) h fun e w' ⟨he, hw⟩ => by
      subst hw
      have hG : 0 + n ≤ grownCap w (0 + n) 0 24 := grownCap_ge w _ _ _
      have hG2 : grownCap w (0 + n) 0 24 ≤ maxLen := grownCap_le_maxLen w _ _ _ (by unfold maxLen; omega)
      refine ⟨_, he, ?_, ((Below.refl _ w).drew).alloc (by simp) _⟩
      refine World.ownsRow_made (e := 24) (size := 3) (base := w.heap.size) w.drew _ _ (Nat.le_refl _) hG2 ?_
      have hz3 : (Value.agg #[.int .i64 0, .int .i64 0, .int .u32 0]).cells.size = 3 := rfl
      have h25 : Try.growKey_ren.t 25 = 24 := rfl
      rw [h25]
      generalize grownCap w (0 + n) 0 24 = G at *
      simp only [Builtin.zeroCells, hz3, Array.size_append, Array.size_map, Array.size_range, List.size_toArray, List.length_nil]
      omega

set_option maxRecDepth 100000 in
set_option maxHeartbeats 1000000 in
theorem concat_any (B : Nat) (va vb : Value) (xs ys : List Key) (t : TypeId) (w : World) (hn : xs.length ≤ 1048576) (hn' : ys.length ≤ 1048576) (ha : KRow w va xs) (hb : KRow w vb ys) (hB : Blk w B #[va, vb] t) :
    Calls Try.prog 43 #[.slice (some ⟨B, 0, none⟩) 2 2] w
      fun e w' => ∃ v', e = .returned v' ∧ w'.ownsRow w.heap.size 24 3 v' (xs ++ ys).length (flatL (xs ++ ys)) ∧ Below w.heap.size w w' := by
  obtain ⟨i0, hi, hz0, hz1, hz2⟩ := info_parts Try.infoKey
  have SA := Lib.hid (src_keys ha)
  have SB := Lib.hid (src_keys hb)
  have HB := Lib.hid hB
  obtain ⟨a, c, rfl⟩ := krow_slice ha
  obtain ⟨a', c', rfl⟩ := krow_slice hb
  have E := Lib.hid (flatL_append xs ys)
  have EL : Hid ((xs ++ ys).length = xs.length + ys.length) := List.length_append
  have HG : Hid (∀ w1, Calls Try.prog 56 #[.slice none 0 0, .int .i64 ((xs.length : Int) + ys.length)] w1 fun e w' => ∃ v', e = .returned v' ∧ w'.ownsRow w1.heap.size 24 3 v' 0 [] ∧ Below w1.heap.size w1 w') := by
    intro w1
    have := growKeys (xs.length + ys.length) w1 (by omega)
    rw [Int.natCast_add] at this; exact this
  have H1 : Hid (∀ u ∈ flatL xs, u.oneCell' = true) := flatL_one xs
  have H2 : Hid (∀ u ∈ flatL ys, u.oneCell' = true) := flatL_one ys
  have c0 := hB.cell 0; simp at c0
  have c1 := hB.cell 1; simp at c1
  clear ha hb hB
  generalize flatL (xs ++ ys) = fl at *
  generalize (xs ++ ys).length = nl at *
  generalize flatL xs = fx at *
  generalize flatL ys = fy at *
  generalize hx : xs.length = n at *
  generalize hy : ys.length = m at *
  clear hx hy
  go_enter Try.func43, Try.ntmps43
  go_wp2_with fail
  refine wp_loop_rounds 3 ?_
  rw [rounds_succ]
  go_wp2_with fail
  rw [rounds_succ]
  go_wp2_with fail
  rw [rounds_succ]
  go_wp2_with fail
  refine (HG.out _).mono ?_; rintro e w1 ⟨v1, rfl, ho1, b1⟩
  have B1 := Lib.hid b1
  have HB1 := HB.out.kept b1
  have d0 := HB1.cell 0; simp at d0
  have d1 := HB1.cell 1; simp at d1
  clear c0 c1
  go_wp2_with fail
  refine wp_loop_rounds 3 ?_
  rw [rounds_succ]
  go_wp2_with (at_builtin; refine wpList_app rfl _ _ 28 rfl w.heap.size 24 i0 _ 3 24 Try.underlying28 hi hz0 hz1 hz2 rfl (by decide) _ 0 [] rfl ho1 _ n fx rfl (SA.out.kept B1.out) H1.out (by unfold maxLen; omega) (by omega) B1.out.size ?_; intro v2 w2 ho2 hg2 hl2)
  have B2 : Hid (Below w.heap.size w w2) := B1.out.grown hg2 B1.out.size (fun j hj => (ho1.lt j hj).1)
  have HB2 := HB.out.kept B2.out
  have e1 := HB2.cell 1; simp at e1
  clear d0 d1
  rw [rounds_succ]
  go_wp2_with (at_builtin; refine wpList_app rfl _ _ 28 rfl w.heap.size 24 i0 _ 3 24 Try.underlying28 hi hz0 hz1 hz2 rfl (by decide) _ (0 + n) ([] ++ fx) rfl ho2 _ m fy rfl (SB.out.kept B2.out) H2.out (by unfold maxLen; omega) (by omega) B2.out.size ?_; intro v3 w3 ho3 hg3 hl3)
  rw [rounds_succ]
  go_wp2_with fail
  go_ret
  refine ⟨v3, rfl, ?_, B2.out.grown hg3 B2.out.size (fun j hj => (ho2.lt j hj).1)⟩
  rw [Nat.zero_add, List.nil_append] at ho3
  rw [E.out, EL.out]; exact ho3
end Go.Proofs.Ytpgiladbljnpcaa
