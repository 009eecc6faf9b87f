/-
  gangerref05.Meet: at any levels.
-/
import Derived.Test.YtnbgipegfnpobaaLvN
import Derived.Test.YtnbgipegfnpobaaPr9
import Derived.StillTailTactics
namespace Go.Proofs.Ytnbgipegfnpobaa
open Go Go.RowKit Go.Lib
set_option linter.unusedVariables false

set_option maxRecDepth 100000 in
set_option maxHeartbeats 4000000 in
theorem refMeet_main (va vb : Value) (xs ys : List Lv) (w : World) (hn : xs.length ≤ 1048576) (hn2 : ys.length ≤ 1048576) (hr : LRow w va xs) (hr2 : LRow w vb ys) (hp : okP xs) (hp2 : okP ys) :
    Calls Try.prog 31 #[va, vb] w
      fun e w' => ∃ v', e = .returned (.tuple #[v', .int .i64 0]) ∧ LOwn w' w.heap.size v' (cmpct ((endsM xs ys).map fun t => (t, meetG xs ys t))) ∧ Below w.heap.size w w' := by
  obtain ⟨i0, hi, hz0, hz1, hz2⟩ := info_parts Try.infoInt5
  have hlen : 0 < xs.length := List.length_pos_iff.2 hp.1
  have hleni : (0 : Int) < xs.length := by omega
  have hlen2 : 0 < ys.length := List.length_pos_iff.2 hp2.1
  have hleni2 : (0 : Int) < ys.length := by omega
  have C := Lib.hid (refCheck_any va xs w hn hr)
  rw [checkV_ok hp] at C
  have D : Hid (∀ w1, Below w.heap.size w w1 → Calls Try.prog 19 #[vb] w1 fun e w' => e = .returned (.int .i64 0) ∧ Below w1.heap.size w1 w') := fun w1 hB => by
    have := refCheck_any vb ys w1 hn2 (hr2.kept hB)
    rwa [checkV_ok hp2] at this
  have EN : Hid (∀ w1, Below w.heap.size w w1 → Calls Try.prog 35 #[va, vb, .int .i64 (max (lv xs 0).1 (lv ys 0).1)] w1 fun e w' => ∃ v', e = .returned v' ∧ IOwn w' w1.heap.size v' (endsM xs ys) ∧ Below w1.heap.size w1 w') := fun w1 hB =>
    ends_any va vb xs ys (meetF xs ys) w1 hn hn2 (hr.kept hB) (hr2.kept hB)
  have AT : Hid (∀ s w1, Below w.heap.size w w1 → Calls Try.prog 20 #[va, .int .i64 s] w1 fun e w' => e = .returned (.int .i64 (vA xs s)) ∧ Below w1.heap.size w1 w') := fun s w1 hB => by
    rw [← atV_ok hp s]; exact refAt_any va xs s w1 hn (hr.kept hB)
  have BT : Hid (∀ s w1, Below w.heap.size w w1 → Calls Try.prog 20 #[vb, .int .i64 s] w1 fun e w' => e = .returned (.int .i64 (vA ys s)) ∧ Below w1.heap.size w1 w') := fun s w1 hB => by
    rw [← atV_ok hp2 s]; exact refAt_any vb ys s w1 hn2 (hr2.kept hB)
  have hLL := endsT_len (meetF xs ys) (ats xs ++ ats ys) (ats xs ++ ats ys).length
  rw [endsT_all, show endsV (meetF xs ys) (ats xs ++ ats ys) = endsM xs ys from rfl, List.length_append, ats_len, ats_len] at hLL
  obtain ⟨hL1, hL0⟩ := hLL
  obtain ⟨L, hL⟩ : ∃ L, L = endsM xs ys := ⟨_, rfl⟩
  rw [← hL] at EN hL0 hL1 ⊢
  have HGG : Hid (∀ t, meetG xs ys t = min (vA xs t) (vA ys t)) := fun _ => rfl
  generalize meetG xs ys = G at *
  rcases hr with ⟨rfl, _⟩ | ⟨b, off, c, rfl, _, r1, r2, hc⟩
  · exact absurd rfl hp.1
  rcases hr2 with ⟨rfl, _⟩ | ⟨b', off', c', rfl, _, r1', r2', hc'⟩
  · exact absurd rfl hp2.1
  generalize vA xs = V at *
  generalize vA ys = U at *
  clear hL
  have HC := Lib.hid hc
  have HC' := Lib.hid hc'
  clear hc hc' hp hp2
  go_enter Try.func31, Try.ntmps31
  go_wp2_with fail
  refine C.out.mono ?_; rintro e w0 ⟨rfl, b0⟩
  go_wp2_with fail
  refine (D.out _ b0).mono ?_; rintro e w1 ⟨rfl, b1⟩
  have B1 := Lib.hid (below_next b1 b0); clear b1 b0
  obtain ⟨c0, c1⟩ := HC.out.at B1.out hlen
  obtain ⟨d0, d1⟩ := HC'.out.at B1.out hlen2
  simp only [Nat.zero_mul, Nat.add_zero] at c0 c1 d0 d1
  go_wp2_with fail
  have B1' : Hid (Below w.heap.size w w1.drew) := B1.out.drew
  go_still_tail 11, (by kernel_rfl)
  change wpList _ _ _ _ _ w1.drew
  generalize w1.drew = W at *
  go_wp2_with fail
  refine (EN.out _ B1'.out).mono ?_; rintro e w2 ⟨v2, rfl, o2, b2⟩
  have B2 : Hid (Below w.heap.size w w2) := Lib.hid (below_next b2 B1'.out); clear c0 c1 d0 d1 EN C D
  have O2 := Lib.hid (o2.mono B1'.out.size)
  obtain ⟨g, cap, rfl, hgb, hgs, hgc, hgm, hcells⟩ := iown_parts o2 hL0
  have HG := Lib.hid hcells
  have HAt := Lib.hid o2
  clear o2 hcells b2
  go_wp2_with fail
  go_loopw [9, 10] (fun o i wr => ∃ j : Nat, j ≤ L.length ∧ i = .int .i64 j ∧ Hid (IOwn wr w2.heap.size o ((L.take j).map G)) ∧ Below w.heap.size w wr ∧ Below w2.heap.size w2 wr) (fun _ i _ => L.length - (RowKit.intOf i).toNat)
  case atStart => exact ⟨0, Nat.zero_le _, rfl, ⟨rfl, .inl ⟨rfl, rfl⟩⟩, B2.out, Below.refl _ _⟩
  case round =>
    obtain ⟨j, hj, rfl, hown, hB, hB2⟩ := hrel
    have HB := Lib.hid hB
    have HB2 := Lib.hid hB2
    have hz : w.heap.size ≤ wr.heap.size := hB.size
    have hjl : ((L.take j).map G).length = j := by rw [List.length_map, List.length_take]; omega
    clear hB hB2
    by_cases hlt : j < L.length
    · have hlti : (j : Int) < L.length := by omega
      have a0 := cell_next HB2.out (HG.out j hlt)
      obtain ⟨x, hx⟩ : ∃ x, x = L.getD j 0 := ⟨_, rfl⟩
      rw [← hx] at a0
      have hs : Hid ((L.take (j + 1)).map G = (L.take j).map G ++ [G x]) := by
        unfold Hid
        rw [List.take_add_one, List.map_append, hx, List.getD_eq_getElem?_getD, List.getElem?_eq_getElem hlt]; rfl
      have HO := Lib.hid hown.out
      unfold IOwn at HO
      rw [hjl] at HO
      rw [HGG.out] at hs
      have AT' : Hid (∀ w1, Below w.heap.size w w1 → Calls Try.prog 20 #[.slice (some ⟨b, off, none⟩) xs.length c, .int .i64 x] w1 fun e w' => e = .returned (.int .i64 (V x)) ∧ Below w1.heap.size w1 w') := fun w1 h => AT.out x w1 h
      have BT' : Hid (∀ w1, Below w.heap.size w w1 → Calls Try.prog 20 #[.slice (some ⟨b', off', none⟩) ys.length c', .int .i64 x] w1 fun e w' => e = .returned (.int .i64 (U x)) ∧ Below w1.heap.size w1 w') := fun w1 h => BT.out x w1 h
      generalize V x = vx at *
      generalize U x = ux at *
      clear hx hown
      have hzw : w.heap.size ≤ w2.heap.size := B2.out.size
      have HBd : Below w.heap.size w wr.drew := HB.out.drew
      have HB2d : Below w2.heap.size w2 wr.drew := HB2.out.drew
      have HOd : wr.drew.ownsRow w2.heap.size 3 1 _ j (intsL ((L.take j).map G)) := HO.out
      have a0d : wr.drew.cell? ⟨g, j, none⟩ = some (.int .i64 x) := a0
      go_wp2_with fail
      go_region_law
        (first
          | (go_simp; go_at_call 20; ((first
              | with_reducible refine (AT'.out _ HBd).mono ?_
              | with_reducible refine (BT'.out _ HBd).mono ?_); rintro e w4 ⟨rfl, b4⟩; have HBd := below_next b4 HBd; have HB2d := below_next b4 HB2d; have HOd := owns_older HOd b4; have a0d := cell_next b4 a0d; clear b4; try dsimp only))
          | (refine step_append_lies _ (by rfl) _ _ 54 (by rfl) w2.heap.size 3 i0 _ 1 8 Try.underlying54 hi hz0 hz1 hz2 rfl (by decide) _ j _ (by rfl) (World.ownsRow.alloc HOd _) ⟨w4.heap.size, 0, none⟩ 1 1 [.int .i64 (min vx ux)] (by rfl) (by rfl) (news_alloc w4 [.int .i64 (min vx ux)] _) (by simp [Value.oneCell']) (by decide) (by unfold maxLen; omega) (by omega) (by have := HB2d.size; simp; omega) (w4.heap.size + 1) (by simp) ?_; intro g4 cap4 w5 hown4 hgrow4 hat4 _))
      all_goals
        go_wp2_with fail
        go_roundw
        case rel =>
          refine ⟨j + 1, hlt, by go_num, ?_, (HBd.alloc HBd.size _).grown hgrow4 (by have := HBd.size; simp; omega) (fun q hq => Nat.le_trans hzw (HOd.lt q hq).1), (HB2d.alloc HB2d.size _).grown hgrow4 (by have := HB2d.size; simp; omega) (fun q hq => (HOd.lt q hq).1)⟩
          rw [hs.out]
          unfold IOwn
          rw [intsL_app, List.length_append, hjl]
          exact hown4
        case measure => simp [RowKit.intOf]; omega
    · obtain rfl : j = L.length := by omega
      have hlt' : decide ((L.length : Int) < L.length) = false := decide_eq_false (by omega)
      have hown' := hown.out
      rw [List.take_length] at hown'
      have hat := owns_older (HAt.out) HB2.out
      have OF := Lib.hid (of_any _ _ L (L.map G) _ _ wr (by omega) (by rw [List.length_map]) hL0 hat hown')
      rw [zip_fn] at OF
      clear hown hown' hat
      go_wp2_with fail
      refine OF.out.mono ?_; rintro e w5 ⟨v5, rfl, o5, b5⟩
      have O5 := Lib.hid (o5.mono hz)
      have B5 := Lib.hid (below_next b5 HB.out)
      clear o5 b5
      go_wp2_with fail
      go_ret2
      exact ⟨_, rfl, O5.out, B5.out⟩

set_option maxRecDepth 100000 in
theorem refMeet_no (va vb : Value) (xs ys : List Lv) (w : World) (hn : xs.length ≤ 1048576) (hn2 : ys.length ≤ 1048576) (hr : LRow w va xs) (hr2 : LRow w vb ys) (hp : ¬ (okP xs ∧ okP ys)) :
    Calls Try.prog 31 #[va, vb] w fun e w' => e = .returned (.tuple #[.slice none 0 0, .int .i64 50]) ∧ Below w.heap.size w w' := by
  have C := Lib.hid (refCheck_any va xs w hn hr)
  have D : Hid (∀ w1, Below w.heap.size w w1 → Calls Try.prog 19 #[vb] w1 fun e w' => e = .returned (.int .i64 (checkV ys)) ∧ Below w1.heap.size w1 w') := fun w1 hB =>
    refCheck_any vb ys w1 hn2 (hr2.kept hB)
  by_cases h1 : okP xs
  · rw [checkV_ok h1] at C
    rw [checkV_no fun h2 => hp ⟨h1, h2⟩] at D
    clear hr hr2 hp h1
    go_enter Try.func31, Try.ntmps31
    go_wp2_with fail
    refine C.out.mono ?_; rintro e w1 ⟨rfl, b1⟩
    go_wp2_with fail
    refine (D.out _ b1).mono ?_; rintro e w2 ⟨rfl, b2⟩
    have B2 := Lib.hid (below_next b2 b1)
    clear b1 b2
    go_wp2_with fail
    go_ret2
    exact ⟨rfl, B2.out⟩
  · rw [checkV_no h1] at C
    generalize checkV ys = cy at *
    clear hr hr2 hp h1
    go_enter Try.func31, Try.ntmps31
    go_wp2_with fail
    refine C.out.mono ?_; rintro e w1 ⟨rfl, b1⟩
    go_wp2_with fail
    refine (D.out _ b1).mono ?_; rintro e w2 ⟨rfl, b2⟩
    have B2 := Lib.hid (below_next b2 b1)
    clear b1 b2
    go_wp2_with fail
    go_ret2
    exact ⟨rfl, B2.out⟩
/-- gangerref05.Meet: at any levels. -/
theorem refMeet_any (va vb : Value) (xs ys : List Lv) (w : World) (hn : xs.length ≤ 1048576) (hn2 : ys.length ≤ 1048576) (hr : LRow w va xs) (hr2 : LRow w vb ys) :
    Calls Try.prog 31 #[va, vb] w
      fun e w' => ∃ v', e = .returned (.tuple #[v', .int .i64 (meetV xs ys).2]) ∧ LOwn w' w.heap.size v' (meetV xs ys).1 ∧ Below w.heap.size w w' := by
  by_cases hp : okP xs ∧ okP ys
  · rw [meet_ok hp.1 hp.2]
    exact refMeet_main va vb xs ys w hn hn2 hr hr2 hp.1 hp.2
  · rw [meet_no hp]
    refine (refMeet_no va vb xs ys w hn hn2 hr hr2 hp).mono ?_; rintro e w' ⟨rfl, b⟩
    exact ⟨_, rfl, LOwn.none _ _, b⟩
end Go.Proofs.Ytnbgipegfnpobaa
