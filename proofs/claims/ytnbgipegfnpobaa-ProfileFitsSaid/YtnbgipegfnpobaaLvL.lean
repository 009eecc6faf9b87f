/-
  gangerref05.of: at any ticks, and as many numbers.
-/
import Derived.Test.YtnbgipegfnpobaaLvK
import Derived.Test.YtnbgipegfnpobaaPr8
import Derived.Deep.AppendLies
namespace Go.Proofs.Ytnbgipegfnpobaa
open Go Go.RowKit Go.Lib
set_option linter.unusedVariables false

theorem encV_one (x : Lv) : ∀ u ∈ encV x, u.oneCell' = true := by
  intro u hu
  simp [encV] at hu
  rcases hu with rfl | rfl <;> rfl
set_option maxRecDepth 100000 in
set_option maxHeartbeats 4000000 in
theorem of_any (va vf : Value) (l fr : List Int) (ba bf : Nat) (w : World) (hn : l.length ≤ 4194304) (hl : fr.length = l.length) (h0 : 0 < l.length) (ha : IOwn w ba va l) (hf : IOwn w bf vf fr) :
    Calls Try.prog 38 #[va, vf] w fun e w' => ∃ v', e = .returned v' ∧ LOwn w' w.heap.size v' (cmpct (l.zip fr)) ∧ Below w.heap.size w w' := by
  obtain ⟨i0, hi, hz0, hz1, hz2'⟩ := info_parts Try.infoLv
  obtain ⟨ga, ca, rfl, _, hga, hca, hcam, ha'⟩ := iown_parts ha h0
  obtain ⟨gf, cf, rfl, _, hgf, hcf, hcfm, hf'⟩ := iown_parts hf (by omega)
  have HA := Lib.hid ha'
  have HF := Lib.hid hf'
  have hzl : (l.zip fr).length = l.length := by rw [List.length_zip, hl, Nat.min_self]
  have HALL := Lib.hid (cN_all (l.zip fr))
  have HZ : Hid (∀ i, i < l.length → lv (l.zip fr) i = (l.getD i 0, fr.getD i 0)) := fun i hi => lv_zip hi (by omega)
  obtain ⟨zs, hzs⟩ : ∃ zs, zs = l.zip fr := ⟨_, rfl⟩
  rw [← hzs] at HALL HZ hzl ⊢
  rw [hzl] at HALL
  rw [hl] at HF hcf ⊢
  clear ha hf ha' hf' hzs
  go_enter Try.func38, Try.ntmps38
  go_wp2_with fail
  have HCN : Hid (∀ j, (cN zs j).length ≤ j) := cN_le zs
  go_loopw [5, 6] (fun o i wr => ∃ j : Nat, j ≤ l.length ∧ i = .int .i64 j ∧ Hid (LOwn wr w.heap.size o (cN zs j)) ∧ Hid (j = 0 → o = .slice none 0 0) ∧ Below w.heap.size w wr) (fun _ i _ => l.length - (RowKit.intOf i).toNat)
  case atStart => exact ⟨0, Nat.zero_le _, rfl, LOwn.none _ _, fun _ => rfl, Below.refl _ _⟩
  case round =>
    obtain ⟨j, hj, rfl, hown, hnil, hB⟩ := hrel
    have HB := Lib.hid hB
    have hz : w.heap.size ≤ wr.heap.size := hB.size
    have hcl := HCN.out j
    clear hB
    by_cases hlt : j < l.length
    · have hlti : (j : Int) < l.length := by omega
      have a0 := cell_next HB.out (HA.out j hlt)
      have f0 := cell_next HB.out (HF.out j hlt)
      have hzj := HZ.out j hlt
      obtain ⟨x, hx⟩ : ∃ x, x = l.getD j 0 := ⟨_, rfl⟩
      obtain ⟨y, hy⟩ : ∃ y, y = fr.getD j 0 := ⟨_, rfl⟩
      rw [← hx, ← hy] at hzj
      rw [← hx] at a0
      rw [← hy] at f0
      clear hx hy
      have HSN : Hid (¬ dupAt zs j → ∀ w1 g c, w1.ownsRow w.heap.size 49 2 (.slice (some ⟨g, 0, none⟩) ((cN zs j).length + 1) c) ((cN zs j).length + 1) (flV (cN zs j) ++ encV (x, y)) → LOwn w1 w.heap.size (.slice (some ⟨g, 0, none⟩) ((cN zs j).length + 1) c) (cN zs (j + 1))) := fun hd w1 g c h => by
        unfold LOwn
        rw [cN_succ_new hd, flV_append, List.length_append, hzj, show flV [(x, y)] = encV (x, y) from List.append_nil _]
        exact h
      by_cases hj0 : j = 0
      · have hnd : ¬ dupAt zs j := fun h => by have := h.1; omega
        have hsn := Lib.hid (cN_succ_new hnd)
        have hm : (cN zs j).length = 0 := by omega
        obtain rfl := hnil.out hj0
        · have HO := Lib.hid (show LOwn wr w.heap.size (.slice none 0 0) (cN zs j) from hown.out)
          have ee : ((0 : Int) == 0) = true := rfl
          clear hown hj0 hnil
          go_wp2_with fail
          go_region
          go_wp2_with fail
          have HO2 : LOwn wr.drew.drew w.heap.size (.slice none 0 0) (cN zs j) := HO.out
          go_region_law (refine step_append_lies _ (by rfl) _ _ 22 (by rfl) w.heap.size 49 i0 _ 2 16 Try.underlying22 hi hz0 hz1 hz2' rfl (by decide) _ (cN zs j).length (flV (cN zs j)) (by rfl) (World.ownsRow.alloc HO2 _) ⟨wr.heap.size, 0, none⟩ 1 1 (encV (x, y)) (by rfl) (by rfl) (news_alloc wr.drew.drew (encV (x, y)) _) (encV_one _) (by decide) (by unfold maxLen; omega) (by omega) (by simp; omega) (wr.heap.size + 1) (by simp) ?_; intro g4 cap4 w4 hown4 hgrow4 hat4 _)
          all_goals
            go_wp2_with fail
            have HN := HSN.out hnd _ _ _ hown4
            rw [hm] at HN
            have HB4 : Below w.heap.size w w4 := (HB.out.alloc hz _).drew.drew.grown hgrow4 (by simp; omega) (by simp [Value.ownBlock])
            go_roundw
            case rel => exact ⟨j + 1, hlt, by go_num, HN, (fun h => absurd h (Nat.succ_ne_zero j)), HB4⟩
            case measure => simp [RowKit.intOf]; omega
      · obtain ⟨hm0, hlast⟩ := cN_last (xs := zs) (k := j) (by omega)
        obtain ⟨g, cap, rfl, hgb, hqc, hcm, hch⟩ := chg_of_own hown.out hm0
        obtain ⟨t, ht⟩ : ∃ t, t = (cN zs j).length - 1 := ⟨_, rfl⟩
        rw [← ht] at hlast
        obtain ⟨_, d1⟩ := hch.cells t (by omega)
        have Et : Hid (IntKind.i64.wrap (((cN zs j).length : Int) - 1) = (t : Int)) := by unfold Hid; rw [IntKind.wrap_i64]; omega
        obtain ⟨z, hz1⟩ : ∃ z, z = (lv (cN zs j) t).2 := ⟨_, rfl⟩
        rw [← hz1] at d1 hlast
        have HD : Hid (dupAt zs j ↔ z = y) := by
          unfold Hid dupAt; rw [hlast, hzj]; exact ⟨fun h => h.2, fun h => ⟨by omega, h⟩⟩
        have HO2 : LOwn wr.drew.drew w.heap.size (.slice (some ⟨g, 0, none⟩) (cN zs j).length cap) (cN zs j) := hown.out
        have HO := Lib.hid HO2
        clear HO2 hown hnil hch hz1 hlast hj0
        obtain ⟨m, hm⟩ : ∃ m, m = (cN zs j).length := ⟨_, rfl⟩
        rw [← hm] at HO HSN Et hm0 hcl hqc ht ⊢
        have HM := Lib.hid hm
        clear hm hzj
        have m0 : ((m : Int) == 0) = false := by rw [beq_eq_false_iff_ne]; omega
        have htm : t < m := by omega
        have htm2 : (t : Int) < m := by omega
        by_cases hq : z = y
        · have q1 : (z != y) = false := by rw [hq]; simp
          have hd := Lib.hid (HD.out.2 hq)
          clear HD HSN hq ht
          go_wp2_with fail
          have et := Et.out
          go_region
          clear et
          go_wp2_with fail
          go_roundw
          case rel => exact ⟨j + 1, hlt, by go_num, by rw [cN_succ_dup hd.out]; exact HO.out, (fun h => absurd h (Nat.succ_ne_zero j)), HB.out.drew⟩
          case measure => simp [RowKit.intOf]; omega
        · have q1 : (z != y) = true := bne_iff_ne.2 hq
          have hnd : Hid (¬ dupAt zs j) := fun h => hq (HD.out.1 h)
          clear HD hq ht
          go_wp2_with fail
          have et := Et.out
          go_region
          clear et
          go_wp2_with fail
          go_region_law (refine step_append_lies _ (by rfl) _ _ 22 (by rfl) w.heap.size 49 i0 _ 2 16 Try.underlying22 hi hz0 hz1 hz2' rfl (by decide) _ m (flV (cN zs j)) (by rfl) (World.ownsRow.alloc (by have := HO.out; unfold LOwn at this; rw [← HM.out] at this; exact this) _) ⟨wr.heap.size, 0, none⟩ 1 1 (encV (x, y)) (by rfl) (by rfl) (news_alloc wr.drew.drew (encV (x, y)) _) (encV_one _) (by decide) (by unfold maxLen; omega) (by omega) (by simp; omega) (wr.heap.size + 1) (by simp) ?_; intro g4 cap4 w4 hown4 hgrow4 hat4 _)
          all_goals
            go_wp2_with fail
            have HN := HSN.out hnd.out _ _ _ hown4
            have HB4 : Below w.heap.size w w4 := (HB.out.alloc hz _).drew.drew.grown hgrow4 (by simp; omega) (fun q hq => (HO.out.lt q hq).1)
            go_roundw
            case rel => exact ⟨j + 1, hlt, by go_num, HN, (fun h => absurd h (Nat.succ_ne_zero j)), HB4⟩
            case measure => simp [RowKit.intOf]; omega
    · obtain rfl : j = l.length := by omega
      have hlt' : decide ((l.length : Int) < l.length) = false := decide_eq_false (by omega)
      go_wp2_with fail
      go_ret
      exact ⟨_, rfl, by rw [← HALL.out]; exact hown.out, HB.out⟩
end Go.Proofs.Ytnbgipegfnpobaa
