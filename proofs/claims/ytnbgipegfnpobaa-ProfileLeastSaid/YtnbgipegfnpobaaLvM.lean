/-
  gangerref05.Trim: at any levels.
-/
import Derived.Test.YtnbgipegfnpobaaLvL
namespace Go.Proofs.Ytnbgipegfnpobaa
open Go Go.RowKit Go.Lib
set_option linter.unusedVariables false

theorem lrow_nil (w : World) : LRow w (.slice none 0 0) [] := .inl ⟨rfl, none, 0, rfl, Nat.zero_le _⟩
set_option maxRecDepth 100000 in
set_option maxHeartbeats 4000000 in
theorem refTrim_main (v : Value) (xs : List Lv) (t : Int) (w : World) (hn : xs.length ≤ 1048576) (hr : LRow w v xs) (hp : okP xs) (hb : ¬ badTr xs t) :
    Calls Try.prog 29 #[v, .int .i64 t] w
      fun e w' => ∃ v', e = .returned (.tuple #[v', .int .i64 0]) ∧ LOwn w' w.heap.size v' (cmpct ((endsV t (ats xs)).map fun s => (s, vA xs s))) ∧ Below w.heap.size w w' := by
  obtain ⟨i0, hi, hz0, hz1, hz2⟩ := info_parts Try.infoInt5
  have hlen : 0 < xs.length := List.length_pos_iff.2 hp.1
  have hleni : (0 : Int) < xs.length := by omega
  have C := Lib.hid (refCheck_any v xs w hn hr)
  rw [checkV_ok hp] at C
  have hb' : ¬ (t < (lv xs 0).1 ∨ MaxT < t) := hb
  unfold MaxT at hb'
  have t1 : decide (t < (lv xs 0).1) = false := decide_eq_false (by omega)
  have t2 : decide (t > 1099511627776) = false := decide_eq_false (by omega)
  have t3 : decide (1099511627776 < t) = false := decide_eq_false (by omega)
  have EN : Hid (∀ w1, Below w.heap.size w w1 → Calls Try.prog 35 #[v, .slice none 0 0, .int .i64 t] w1 fun e w' => ∃ v', e = .returned v' ∧ IOwn w' w1.heap.size v' (endsV t (ats xs)) ∧ Below w1.heap.size w1 w') := fun w1 hB => by
    have := ends_any v (.slice none 0 0) xs [] t w1 hn (by simp) (hr.kept hB) (lrow_nil w1)
    rw [tsOf_nil] at this
    exact this
  have AT : Hid (∀ s w1, Below w.heap.size w w1 → Calls Try.prog 20 #[v, .int .i64 s] w1 fun e w' => e = .returned (.int .i64 (atV xs s)) ∧ Below w1.heap.size w1 w') := fun s w1 hB => refAt_any v xs s w1 hn (hr.kept hB)
  have hL0 : 0 < (endsV t (ats xs)).length := by have := (endsT_len t (ats xs) (ats xs).length).2; rwa [endsT_all] at this
  have hL1 : (endsV t (ats xs)).length ≤ xs.length + 1 := by have := (endsT_len t (ats xs) (ats xs).length).1; rwa [endsT_all, ats_len] at this
  obtain ⟨L, hL⟩ : ∃ L, L = endsV t (ats xs) := ⟨_, rfl⟩
  rw [← hL] at EN hL0 hL1 ⊢
  have hat : ∀ s, atV xs s = vA xs s := atV_ok hp
  have AT : Hid (∀ s w1, Below w.heap.size w w1 → Calls Try.prog 20 #[v, .int .i64 s] w1 fun e w' => e = .returned (.int .i64 (vA xs s)) ∧ Below w1.heap.size w1 w') := fun s w1 hB => by rw [← hat]; exact AT.out s w1 hB
  rcases hr with ⟨rfl, _⟩ | ⟨b, off, c, rfl, _, r1, r2, hc⟩
  · exact absurd rfl hp.1
  generalize vA xs = G at *
  clear hL hat
  have HC := Lib.hid hc
  clear hc hb
  go_enter Try.func29, Try.ntmps29
  go_wp2_with fail
  refine C.out.mono ?_; rintro e w1 ⟨rfl, b1⟩
  have B1 := Lib.hid b1; clear b1
  obtain ⟨c0, c1⟩ := HC.out.at B1.out hlen
  simp only [Nat.zero_mul, Nat.add_zero] at c0 c1
  go_wp2_with fail
  refine (EN.out _ B1.out).mono ?_; rintro e w2 ⟨v2, rfl, o2, b2⟩
  have B2 := Lib.hid (below_next b2 B1.out); clear b2 c0 c1 EN C
  have O2 := Lib.hid (o2.mono B1.out.size)
  obtain ⟨g, cap, rfl, hgb, hgs, hgc, hgm, hcells⟩ := iown_parts o2 hL0
  have HG := Lib.hid hcells
  have HAt := Lib.hid o2
  clear o2 hcells
  go_wp2_with fail
  go_loopw [8, 9] (fun o i wr => ∃ j : Nat, j ≤ L.length ∧ i = .int .i64 j ∧ Hid (IOwn wr w2.heap.size o ((L.take j).map G)) ∧ Below w.heap.size w wr ∧ Below w2.heap.size w2 wr) (fun _ i _ => L.length - (RowKit.intOf i).toNat)
  case atStart => exact ⟨0, Nat.zero_le _, rfl, ⟨rfl, .inl ⟨rfl, rfl⟩⟩, B2.out, Below.refl _ _⟩
  case round =>
    obtain ⟨j, hj, rfl, hown, hB, hB2⟩ := hrel
    have HB := Lib.hid hB
    have HB2 := Lib.hid hB2
    have hz : w.heap.size ≤ wr.heap.size := hB.size
    have hjl : ((L.take j).map G).length = j := by rw [List.length_map, List.length_take]; omega
    clear hB hB2
    by_cases hlt : j < L.length
    · have hlti : (j : Int) < L.length := by omega
      have a0 := cell_next HB2.out (HG.out j hlt)
      obtain ⟨x, hx⟩ : ∃ x, x = L.getD j 0 := ⟨_, rfl⟩
      rw [← hx] at a0
      have hs : Hid ((L.take (j + 1)).map G = (L.take j).map G ++ [G x]) := by
        unfold Hid
        rw [List.take_add_one, List.map_append, hx, List.getD_eq_getElem?_getD, List.getElem?_eq_getElem hlt]; rfl
      have HO := Lib.hid hown.out
      clear hx hown
      go_wp2_with fail
      refine (AT.out _ _ HB.out).mono ?_; rintro e w4 ⟨rfl, b4⟩
      have B4 := Lib.hid (below_next b4 HB.out)
      have B42 := Lib.hid (below_next b4 HB2.out)
      have O4 := Lib.hid (owns_older HO.out b4)
      have hz4 : w.heap.size ≤ w4.heap.size := B4.out.size
      have hz42 : w2.heap.size ≤ w4.heap.size := B42.out.size
      have hzw : w.heap.size ≤ w2.heap.size := B2.out.size
      rw [hjl] at O4
      clear b4 a0
      go_wp2_with (at_builtin; refine wpList_append_own _ rfl _ _ 54 rfl w2.heap.size 3 i0 _ 1 8 Try.underlying54 hi hz0 hz1 hz2 rfl (by decide) _ j _ rfl (World.ownsRow.alloc O4.out _) ⟨w4.heap.size, 0, none⟩ 1 1 [.int .i64 (G x)] rfl rfl (news_alloc _ [.int .i64 (G x)] _) (by simp [Value.oneCell']) (by unfold maxLen; omega) (by omega) (by simp; omega) ?_; intro v4 w5 hown4 hgrow4 _)
      go_roundw
      case rel =>
        refine ⟨j + 1, hlt, by go_num, ?_, (B4.out.alloc hz4 _).grown hgrow4 (by simp; omega) (fun q hq => Nat.le_trans hzw (O4.out.lt q hq).1), (B42.out.alloc hz42 _).grown hgrow4 (by simp; omega) (fun q hq => (O4.out.lt q hq).1)⟩
        rw [hs.out]
        unfold IOwn
        rw [intsL_app, List.length_append, hjl]
        exact hown4
      case measure => simp [RowKit.intOf]; omega
    · obtain rfl : j = L.length := by omega
      have hlt' : decide ((L.length : Int) < L.length) = false := decide_eq_false (by omega)
      have hown' := hown.out
      rw [List.take_length] at hown'
      have hat := owns_older (HAt.out) HB2.out
      have OF := Lib.hid (of_any _ _ L (L.map G) _ _ wr (by omega) (by rw [List.length_map]) hL0 hat hown')
      rw [zip_fn] at OF
      clear hown hown' hat
      go_wp2_with fail
      refine OF.out.mono ?_; rintro e w5 ⟨v5, rfl, o5, b5⟩
      have O5 := Lib.hid (o5.mono hz)
      have B5 := Lib.hid (below_next b5 HB.out)
      clear o5 b5
      go_wp2_with fail
      go_ret2
      exact ⟨_, rfl, O5.out, B5.out⟩

set_option maxRecDepth 100000 in
theorem refTrim_bad (v : Value) (xs : List Lv) (t : Int) (w : World) (hn : xs.length ≤ 1048576) (h : LRow w v xs) (hp : okP xs) (hb : badTr xs t) :
    Calls Try.prog 29 #[v, .int .i64 t] w fun e w' => e = .returned (.tuple #[.slice none 0 0, .int .i64 2]) ∧ Below w.heap.size w w' := by
  have hlen : 0 < xs.length := List.length_pos_iff.2 hp.1
  have hleni : (0 : Int) < xs.length := by omega
  have C := Lib.hid (refCheck_any v xs w hn h)
  rw [checkV_ok hp] at C
  unfold badTr MaxT at hb
  rcases h with ⟨rfl, _⟩ | ⟨b, off, c, rfl, _, r1, r2, hc⟩
  · exact absurd rfl hp.1
  have HC := Lib.hid hc
  clear hc hp
  by_cases h1 : t < (lv xs 0).1
  · have t1 : decide (t < (lv xs 0).1) = true := decide_eq_true h1
    clear hb h1
    go_enter Try.func29, Try.ntmps29
    go_wp2_with fail
    refine C.out.mono ?_; rintro e w1 ⟨rfl, b1⟩
    obtain ⟨c0, c1⟩ := HC.out.at b1 hlen
    simp only [Nat.zero_mul, Nat.add_zero] at c0 c1
    go_wp2_with fail
    go_ret2
    exact ⟨rfl, b1⟩
  · have t1 : decide (t < (lv xs 0).1) = false := decide_eq_false h1
    have t2 : decide (t > 1099511627776) = true := decide_eq_true (by omega)
    have t3 : decide (1099511627776 < t) = true := decide_eq_true (by omega)
    clear hb h1
    go_enter Try.func29, Try.ntmps29
    go_wp2_with fail
    refine C.out.mono ?_; rintro e w1 ⟨rfl, b1⟩
    obtain ⟨c0, c1⟩ := HC.out.at b1 hlen
    simp only [Nat.zero_mul, Nat.add_zero] at c0 c1
    go_wp2_with fail
    go_ret2
    exact ⟨rfl, b1⟩
set_option maxRecDepth 100000 in
theorem refTrim_no (v : Value) (xs : List Lv) (t : Int) (w : World) (hn : xs.length ≤ 1048576) (h : LRow w v xs) (hp : ¬ okP xs) :
    Calls Try.prog 29 #[v, .int .i64 t] w fun e w' => e = .returned (.tuple #[.slice none 0 0, .int .i64 50]) ∧ Below w.heap.size w w' := by
  have C := Lib.hid (refCheck_any v xs w hn h)
  rw [checkV_no hp] at C
  clear h hp
  go_enter Try.func29, Try.ntmps29
  go_wp2_with fail
  refine C.out.mono ?_; rintro e w1 ⟨rfl, b1⟩
  go_wp2_with fail
  go_ret2
  exact ⟨rfl, b1⟩
/-- gangerref05.Trim: at any levels. -/
theorem refTrim_any (v : Value) (xs : List Lv) (t : Int) (w : World) (hn : xs.length ≤ 1048576) (h : LRow w v xs) :
    Calls Try.prog 29 #[v, .int .i64 t] w
      fun e w' => ∃ v', e = .returned (.tuple #[v', .int .i64 (trimV xs t).2]) ∧ LOwn w' w.heap.size v' (trimV xs t).1 ∧ Below w.heap.size w w' := by
  by_cases hp : okP xs
  · by_cases hb : badTr xs t
    · rw [trim_bad hp hb]
      refine (refTrim_bad v xs t w hn h hp hb).mono ?_; rintro e w' ⟨rfl, b⟩
      exact ⟨_, rfl, LOwn.none _ _, b⟩
    · have e : trimV xs t = (cmpct ((endsV t (ats xs)).map fun s => (s, vA xs s)), 0) := by unfold trimV; rw [if_neg (by simpa using hp), if_neg hb]
      rw [e]
      exact refTrim_main v xs t w hn h hp hb
  · rw [trim_no hp]
    refine (refTrim_no v xs t w hn h hp).mono ?_; rintro e w' ⟨rfl, b⟩
    exact ⟨_, rfl, LOwn.none _ _, b⟩
end Go.Proofs.Ytnbgipegfnpobaa
