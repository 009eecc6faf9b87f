/-
  profile.Meet: at any levels.
-/
import Derived.Test.YtnbgipegfnpobaaLvP
namespace Go.Proofs.Ytnbgipegfnpobaa
open Go Go.RowKit Go.Lib
set_option linter.unusedVariables false

theorem LCells.grown {w w' : World} {b off : Nat} {xs : List Lv} {k : Option Nat} (h : LCells w b off xs) (hg : w.grownBy w' k) (hne : some b ≠ k) : LCells w' b off xs :=
  ⟨Nat.lt_of_lt_of_le h.1 hg.size, fun j hj => by
    have h1 := h.2 j hj
    have e : ∀ o, w'.cell? ⟨b, o, none⟩ = w.cell? ⟨b, o, none⟩ := fun o => World.cell?_of_block (hg.block b h.1 hne)
    rw [e, e]; exact h1⟩
theorem LCells.own {w : World} {base : Nat} {v : Value} {xs : List Lv} (h : LOwn w base v xs) (h0 : 0 < xs.length) : ∃ g cap, v = .slice (some ⟨g, 0, none⟩) xs.length cap ∧ base ≤ g ∧ LCells w g 0 xs ∧ v.ownBlock = some g := by
  obtain ⟨g, cap, rfl, hgb, hqc, hcm, hch⟩ := chg_of_own h h0
  have hr := lrow_of_owns h
  rcases hr with ⟨e, _⟩ | ⟨b, off, c, hv, _, _, _, h4⟩
  · rw [e] at h0; simp at h0
  · simp only [Value.slice.injEq, Option.some.injEq, Addr.mk.injEq, and_true, true_and] at hv
    obtain ⟨⟨rfl, rfl⟩, rfl⟩ := hv
    exact ⟨g, cap, rfl, hgb, h4, rfl⟩
theorem metL_len (a b : List Lv) : (metL a b).length = a.length + b.length := by unfold metL; rw [List.length_map, List.length_append]
theorem metL_get {a b : List Lv} {j : Nat} (h : j < (a ++ b).length) : lv (metL a b) j = (max (lv (a ++ b) j).1 (meetF a b), meetG a b (max (lv (a ++ b) j).1 (meetF a b))) := by
  have h' : j < (metL a b).length := by rw [metL_len, ← List.length_append]; exact h
  have e : (metL a b)[j]? = some (lv (metL a b) j) := lv_get h'
  unfold metL at e
  rw [List.getElem?_map, lv_get h] at e
  exact (Option.some.inj e).symm

set_option maxRecDepth 100000 in
set_option maxHeartbeats 4000000 in
theorem meet_main (va vb : Value) (xs ys : List Lv) (w : World) (hn : xs.length + ys.length ≤ 1048576) (hr : LRow w va xs) (hr2 : LRow w vb ys) (hp : okP xs) (hp2 : okP ys) :
    Calls Try.prog 30 #[va, vb] w
      fun e w' => ∃ v', e = .returned (.tuple #[v', .int .i64 0]) ∧ LOwn w' w.heap.size v' (meetV xs ys).1 ∧ Below w.heap.size w w' := by
  obtain ⟨i0, hi, hz0, hz1, hz2'⟩ := info_parts Try.infoLv
  have hlen : 0 < xs.length := List.length_pos_iff.2 hp.1
  have hleni : (0 : Int) < xs.length := by omega
  have hlen2 : 0 < ys.length := List.length_pos_iff.2 hp2.1
  have hleni2 : (0 : Int) < ys.length := by omega
  have C := Lib.hid (check_any va xs w (by omega) hr)
  rw [checkV_ok hp] at C
  have D : Hid (∀ w1, Below w.heap.size w w1 → Calls Try.prog 14 #[vb] w1 fun e w' => e = .returned (.int .i64 0) ∧ Below w1.heap.size w1 w') := fun w1 hB => by
    have := check_any vb ys w1 (by omega) (hr2.kept hB)
    rwa [checkV_ok hp2] at this
  have CT : Hid (∀ B t w1, Below w.heap.size w w1 → Blk w1 B #[va, vb] t → Calls Try.prog 40 #[.slice (some ⟨B, 0, none⟩) 2 2] w1 fun e w' => ∃ v', e = .returned v' ∧ LOwn w' w1.heap.size v' (xs ++ ys) ∧ Below w1.heap.size w1 w') := fun B t w1 hB hK =>
    concatV_any B va vb xs ys t w1 (by omega) (by omega) (hr.kept hB) (hr2.kept hB) hK
  have AT : Hid (∀ s w1, Below w.heap.size w w1 → Calls Try.prog 33 #[va, .int .i64 s] w1 fun e w' => e = .returned (.int .i64 (vA xs s)) ∧ Below w1.heap.size w1 w') := fun s w1 hB => freeAt_any va xs s w1 (by omega) hp.1 (hr.kept hB) hp.inc
  have BT : Hid (∀ s w1, Below w.heap.size w w1 → Calls Try.prog 33 #[vb, .int .i64 s] w1 fun e w' => e = .returned (.int .i64 (vA ys s)) ∧ Below w1.heap.size w1 w') := fun s w1 hB => freeAt_any vb ys s w1 (by omega) hp2.1 (hr2.kept hB) hp2.inc
  have SRT : Hid (∀ base v w1, LOwn w1 base v (metL xs ys) → Calls Try.prog 41 #[v, .func (.func 42) #[] #[]] w1
      fun e w' => e = .returned (.tuple #[]) ∧ ∃ S, S.Perm (metL xs ys) ∧ Weak S ∧ LOwn w' base v S ∧ w1.grownBy w' v.ownBlock) := fun base v w1 h => sortV_own base v _ w1 (by rw [metL_len]; omega) h
  have SM : Hid (∀ S, S.Perm (metL xs ys) → Weak S → cmpct S = (meetV xs ys).1) := fun S h1 h2 => met_same hp hp2 h2 h1
  generalize (meetV xs ys).1 = R at *
  have MG : Hid (∀ j, j < (xs ++ ys).length → lv (metL xs ys) j = (max (lv (xs ++ ys) j).1 (max (lv xs 0).1 (lv ys 0).1), min (vA xs (max (lv (xs ++ ys) j).1 (max (lv xs 0).1 (lv ys 0).1))) (vA ys (max (lv (xs ++ ys) j).1 (max (lv xs 0).1 (lv ys 0).1))))) := fun j hj => metL_get hj
  have hML : (metL xs ys).length = (xs ++ ys).length := by rw [metL_len, List.length_append]
  have hZL : (xs ++ ys).length = xs.length + ys.length := List.length_append
  obtain ⟨M, hM⟩ : ∃ M, M = metL xs ys := ⟨_, rfl⟩
  obtain ⟨Z, hZ⟩ : ∃ Z, Z = xs ++ ys := ⟨_, rfl⟩
  rw [← hM] at SRT SM MG hML
  rw [← hZ] at CT MG hML hZL
  obtain ⟨nz, hnz⟩ : ∃ nz, nz = Z.length := ⟨_, rfl⟩
  rw [← hnz] at hML hZL MG
  rcases hr with ⟨rfl, _⟩ | ⟨b, off, c, rfl, _, r1, r2, hc⟩
  · exact absurd rfl hp.1
  rcases hr2 with ⟨rfl, _⟩ | ⟨b', off', c', rfl, _, r1', r2', hc'⟩
  · exact absurd rfl hp2.1
  generalize vA xs = V at *
  generalize vA ys = U at *
  clear hM hZ
  have HC := Lib.hid hc
  have HC' := Lib.hid hc'
  clear hc hc' hp hp2
  go_enter Try.func30, Try.ntmps30
  go_wp2_with fail
  refine C.out.mono ?_; rintro e w0 ⟨rfl, b0⟩
  go_wp2_with fail
  refine (D.out _ b0).mono ?_; rintro e w1 ⟨rfl, b1⟩
  have B1 := Lib.hid (below_next b1 b0); clear b1 b0 C D
  obtain ⟨c0, c1⟩ := HC.out.at B1.out hlen
  obtain ⟨d0, d1⟩ := HC'.out.at B1.out hlen2
  simp only [Nat.zero_mul, Nat.add_zero] at c0 c1 d0 d1
  go_wp2_with fail
  go_region
  clear c0 c1 d0 d1
  obtain ⟨F, hF⟩ : ∃ F, F = max (lv xs 0).1 (lv ys 0).1 := ⟨_, rfl⟩
  rw [← hF] at MG ⊢
  clear hF
  have hz1' : w.heap.size ≤ w1.heap.size := B1.out.size
  go_wp2_with fail
  have K : Hid (Blk ((w1.alloc (.cells #[] 49)).alloc (.cells #[.slice (some ⟨b, off, none⟩) xs.length c, .slice (some ⟨b', off', none⟩) ys.length c'] 22)).drew (w1.heap.size + 1) #[.slice (some ⟨b, off, none⟩) xs.length c, .slice (some ⟨b', off', none⟩) ys.length c'] 22) := Blk.drew (Blk.fresh _ _ _ _ (by simp))
  have hBB := ((B1.out.alloc hz1' (.cells #[] 49)).alloc (by simp; omega) (.cells #[.slice (some ⟨b, off, none⟩) xs.length c, .slice (some ⟨b', off', none⟩) ys.length c'] 22)).drew
  have hO1 : ((w1.alloc (.cells #[] 49)).alloc (.cells #[.slice (some ⟨b, off, none⟩) xs.length c, .slice (some ⟨b', off', none⟩) ys.length c'] 22)).drew.ownsRow w1.heap.size 49 2 (.slice (some ⟨w1.heap.size, 0, none⟩) 0 0) 0 [] :=
    World.ownsRow.alloc (World.ownsRow_made (e := 49) (size := 2) (base := w1.heap.size) w1 #[] 0 (Nat.le_refl _) (Nat.zero_le _) (by simp)) _
  have hWs : ((w1.alloc (.cells #[] 49)).alloc (.cells #[.slice (some ⟨b, off, none⟩) xs.length c, .slice (some ⟨b', off', none⟩) ys.length c'] 22)).drew.heap.size = w1.heap.size + 1 + 1 := by simp
  have BB := Lib.hid hBB
  have O1 := Lib.hid hO1
  have HWs := Lib.hid hWs
  clear hBB hO1 hWs
  generalize ((w1.alloc (.cells #[] 49)).alloc (.cells #[.slice (some ⟨b, off, none⟩) xs.length c, .slice (some ⟨b', off', none⟩) ys.length c'] 22)).drew = W at *
  refine (CT.out _ _ _ BB.out K.out).mono ?_; rintro e w2 ⟨v2, rfl, o2, b2⟩
  have B2 := Lib.hid (below_next b2 BB.out)
  have O2 := Lib.hid (owns_older O1.out b2)
  obtain ⟨g, cap, rfl, hgb, hLZ, _⟩ := LCells.own o2 (by omega)
  have HZ := Lib.hid hLZ
  have hgw : w1.heap.size < g := by have := HWs.out; omega
  have hcap : Z.length ≤ cap := by
    obtain ⟨_, ⟨e, _⟩ | ⟨_, _, _, e, _, _, h, _⟩⟩ := o2
    · cases e
    · simp only [Value.slice.injEq] at e; omega
  rw [← hnz] at hcap ⊢
  have HNZ := Lib.hid hnz
  clear o2 b2 hLZ CT K BB O1 HWs hgb hnz
  go_wp2_with fail
  go_loopw [7, 34] (fun o i wr => ∃ j : Nat, j ≤ nz ∧ i = .int .i64 j ∧ Hid (wr.ownsRow w1.heap.size 49 2 o j (flV (M.take j))) ∧ Hid (LCells wr g 0 Z) ∧ Hid (some g ≠ o.ownBlock) ∧ Below w.heap.size w wr) (fun _ i _ => nz - (RowKit.intOf i).toNat)
  case atStart => exact ⟨0, Nat.zero_le _, rfl, O2.out, HZ.out, (by intro h; simp [Value.ownBlock] at h; omega), B2.out⟩
  case round =>
    obtain ⟨j, hj, rfl, hown, hlz, hne, hB⟩ := hrel
    have HB := Lib.hid hB
    have hz : w.heap.size ≤ wr.heap.size := hB.size
    clear hB
    by_cases hlt : j < nz
    · have hlti : (j : Int) < nz := by omega
      have hgl : g < wr.heap.size := hlz.out.1
      obtain ⟨z0, z1⟩ := hlz.out.2 j (by rw [← HNZ.out]; exact hlt)
      have hm := MG.out j hlt
      obtain ⟨y, hy⟩ : ∃ y, y = lv Z j := ⟨_, rfl⟩
      rw [← hy] at z0 z1 hm
      obtain ⟨y1, y2⟩ := y
      dsimp only at z0 z1 hm
      have hs : Hid (flV (M.take (j + 1)) = flV (M.take j) ++ encV (max y1 F, min (V (max y1 F)) (U (max y1 F)))) := by
        unfold Hid
        rw [take_lv (by omega), flV_append, hm]; exact congrArg _ (List.append_nil _)
      rw [Nat.zero_add] at z0 z1
      clear hy hm
      go_wp2_with fail
      have hzA : w.heap.size ≤ wr.heap.size + 1 := by omega
      have HA : Hid (Below w.heap.size w (wr.alloc (.cells #[.int .i64 y1, .int .i64 y2] 49))) := HB.out.alloc hz _
      have HOA : Hid ((wr.alloc (.cells #[.int .i64 y1, .int .i64 y2] 49)).ownsRow w1.heap.size 49 2 _ j (flV (M.take j))) := World.ownsRow.alloc hown.out _
      have HLA : Hid (LCells (wr.alloc (.cells #[.int .i64 y1, .int .i64 y2] 49)) g 0 Z) := hlz.out.kept ((Below.refl _ _).alloc (Nat.le_refl _) _)
      have hsz1 : w1.heap.size ≤ (wr.alloc (.cells #[.int .i64 y1, .int .i64 y2] 49)).heap.size := by simp; omega
      clear hown hlz z0 z1
      generalize (wr.alloc (.cells #[.int .i64 y1, .int .i64 y2] 49)) = X at *
      refine (AT.out _ _ HA.out).mono ?_; rintro e w4 ⟨rfl, b4⟩
      have HB4 := Lib.hid (below_next b4 HA.out)
      have HO4 := Lib.hid (owns_older HOA.out b4)
      have HL4 := Lib.hid (HLA.out.kept b4)
      have hs4 : w1.heap.size ≤ w4.heap.size := Nat.le_trans hsz1 b4.size
      clear b4 HA HOA HLA hsz1
      go_wp2_with fail
      refine (BT.out _ _ HB4.out).mono ?_; rintro e w5 ⟨rfl, b5⟩
      have HB5 := Lib.hid (below_next b5 HB4.out)
      have HO5 := Lib.hid (owns_older HO4.out b5)
      have HL5 := Lib.hid (HL4.out.kept b5)
      have hs5 : w1.heap.size ≤ w5.heap.size := Nat.le_trans hs4 b5.size
      clear b5 HB4 HO4 HL4 hs4
      have hz5 : w.heap.size ≤ w5.heap.size := HB5.out.size
      have hg5 : g < w5.heap.size := HL5.out.1
      have hnb : Hid (∀ q, Value.ownBlock _ = some q → w1.heap.size ≤ q ∧ q < w5.heap.size) := fun q hq => HO5.out.lt q hq
      go_wp2_with (at_builtin; refine wpList_append_own_at _ rfl _ _ 22 rfl w1.heap.size 49 i0 _ 2 16 Try.underlying22 hi hz0 hz1 hz2' rfl (by decide) _ j _ rfl (World.ownsRow.alloc HO5.out _) ⟨w5.heap.size, 0, none⟩ 1 1 (encV (max y1 F, min (V (max y1 F)) (U (max y1 F)))) rfl rfl (news_alloc _ (encV (max y1 F, min (V (max y1 F)) (U (max y1 F)))) _) (encV_one _) (by unfold maxLen; omega) (by omega) (by simp; omega) ?_; intro v6 w6 hown6 hgrow6 _ hat6)
      go_roundw
      case rel =>
        refine ⟨j + 1, hlt, by go_num, ?_, ?_, ?_, (HB5.out.alloc hz5 _).grown hgrow6 (by simp; omega) (fun q hq => Nat.le_trans hz1' (hnb.out q hq).1)⟩
        · rw [hs.out]; exact hown6
        · exact LCells.grown (HL5.out.kept ((Below.refl _ _).alloc (Nat.le_refl _) _)) hgrow6 hne.out
        · rcases hat6 with h | h
          · rw [h]; exact hne.out
          · rw [h]; intro h'; simp at h'; omega
      case measure => simp [RowKit.intOf]; omega
    · obtain rfl : j = nz := by omega
      have hlt' : decide ((j : Int) < j) = false := decide_eq_false (by omega)
      have ho := hown.out
      rw [List.take_of_length_le (by omega)] at ho
      rw [show j = M.length from hML.symm] at ho
      have hs1 : w1.heap.size ≤ wr.heap.size := by have := hlz.out.1; omega
      have ST := Lib.hid (SRT.out _ _ wr ho)
      have hlto := ho.lt
      clear hown hlz ho SRT
      go_wp2_with fail
      refine ST.out.mono ?_; rintro e w4 ⟨rfl, S, hS1, hS2, ho4, hg4⟩
      have B4 := Lib.hid (HB.out.grown hg4 hz fun q hq => Nat.le_trans hz1' (hlto q hq).1)
      have hcs := compact_any _ w1.heap.size S w4 (by rw [hS1.length_eq]; omega) (Nat.le_trans hs1 hg4.size) ho4
      rw [SM.out S hS1 hS2] at hcs
      have CS := Lib.hid hcs
      clear hcs ho4 hg4 hS1 hS2
      go_wp2_with fail
      refine CS.out.mono ?_; rintro e w5 ⟨v5, rfl, o5, b5⟩
      have O5 := Lib.hid (o5.mono hz1')
      have B5 := Lib.hid (B4.out.trans (b5.mono hz1'))
      clear o5 b5
      go_wp2_with fail
      go_ret2
      exact ⟨_, rfl, O5.out, B5.out⟩

set_option maxRecDepth 100000 in
theorem meet_none (va vb : Value) (xs ys : List Lv) (w : World) (hn : xs.length + ys.length ≤ 1048576) (hr : LRow w va xs) (hr2 : LRow w vb ys) (hp : ¬ (okP xs ∧ okP ys)) :
    Calls Try.prog 30 #[va, vb] w fun e w' => e = .returned (.tuple #[.slice none 0 0, .int .i64 50]) ∧ Below w.heap.size w w' := by
  have C := Lib.hid (check_any va xs w (by omega) hr)
  have D : Hid (∀ w1, Below w.heap.size w w1 → Calls Try.prog 14 #[vb] w1 fun e w' => e = .returned (.int .i64 (checkV ys)) ∧ Below w1.heap.size w1 w') := fun w1 hB =>
    check_any vb ys w1 (by omega) (hr2.kept hB)
  by_cases h1 : okP xs
  · rw [checkV_ok h1] at C
    rw [checkV_no fun h2 => hp ⟨h1, h2⟩] at D
    clear hr hr2 hp h1
    go_enter Try.func30, Try.ntmps30
    go_wp2_with fail
    refine C.out.mono ?_; rintro e w1 ⟨rfl, b1⟩
    go_wp2_with fail
    refine (D.out _ b1).mono ?_; rintro e w2 ⟨rfl, b2⟩
    have B2 := Lib.hid (below_next b2 b1)
    clear b1 b2
    go_wp2_with fail
    go_ret2
    exact ⟨rfl, B2.out⟩
  · rw [checkV_no h1] at C
    clear hr hr2 hp h1 D
    go_enter Try.func30, Try.ntmps30
    go_wp2_with fail
    refine C.out.mono ?_; rintro e w1 ⟨rfl, b1⟩
    have B1 := Lib.hid b1
    clear b1
    go_wp2_with fail
    go_ret2
    exact ⟨rfl, B1.out⟩
/-- profile.Meet: at any levels. -/
theorem meet_any (va vb : Value) (xs ys : List Lv) (w : World) (hn : xs.length + ys.length ≤ 1048576) (hr : LRow w va xs) (hr2 : LRow w vb ys) :
    Calls Try.prog 30 #[va, vb] w
      fun e w' => ∃ v', e = .returned (.tuple #[v', .int .i64 (meetV xs ys).2]) ∧ LOwn w' w.heap.size v' (meetV xs ys).1 ∧ Below w.heap.size w w' := by
  by_cases hp : okP xs ∧ okP ys
  · rw [show (meetV xs ys).2 = 0 by rw [meet_ok hp.1 hp.2]]
    exact meet_main va vb xs ys w hn hr hr2 hp.1 hp.2
  · rw [meet_no hp]
    refine (meet_none va vb xs ys w hn hr hr2 hp).mono ?_; rintro e w' ⟨rfl, b⟩
    exact ⟨_, rfl, LOwn.none _ _, b⟩
end Go.Proofs.Ytnbgipegfnpobaa
