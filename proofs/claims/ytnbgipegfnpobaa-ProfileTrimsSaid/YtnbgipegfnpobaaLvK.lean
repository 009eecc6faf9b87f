/-
  profile.Trim: at any levels.
-/
import Derived.Test.YtnbgipegfnpobaaLvJ
namespace Go.Proofs.Ytnbgipegfnpobaa
open Go Go.RowKit Go.Lib
set_option linter.unusedVariables false

theorem Chg.setAt {w : World} {g : Nat} {ys zs : List Lv} {cap : Nat} {x : Int} (h : Chg w g ys cap) (hl : zs.length = ys.length) (hc : ys.length ≤ cap) (h0 : 0 < ys.length)
    (hz : ∀ i, i < ys.length → lv zs i = if i = 0 then (x, (lv ys 0).2) else lv ys i) : Chg (w.setCell ⟨g, 0, none⟩ (.int .i64 x)) g zs cap := by
  obtain ⟨cur, h1, h2⟩ := h.blk
  have k1 := h1.set 0 (.int .i64 x)
  refine ⟨⟨_, k1, by simp [h2]⟩, fun i hi => ?_⟩
  rw [hl] at hi
  rw [hz i hi, k1.cell, k1.cell, Array.getElem?_setIfInBounds, Array.getElem?_setIfInBounds]
  obtain ⟨c0, c1⟩ := h.cells i hi
  rw [h1.cell] at c0 c1
  by_cases e : i = 0
  · subst e
    have hs : 0 < cur.size := by omega
    simpa [hs] using c1
  · rw [if_neg e, if_neg (by omega), if_neg (by omega)]
    exact ⟨c0, c1⟩
theorem lv_drop {p : List Lv} (a i : Nat) : lv (p.drop a) i = lv p (a + i) := by
  unfold lv; rw [List.getD_eq_getElem?_getD, List.getD_eq_getElem?_getD, List.getElem?_drop]
theorem trimL_is {p : List Lv} (hp : okP p) {t : Int} (h : (lv p 0).1 ≤ t) : ∃ a, num p t = a + 1 ∧ a < p.length ∧ (trimL p t).length = (p.drop a).length ∧
    ∀ i, i < (p.drop a).length → lv (trimL p t) i = if i = 0 then (t, (lv (p.drop a) 0).2) else lv (p.drop a) i := by
  have hn0 : num p t ≠ 0 := fun e => by have := (num_pos hp.inc hp.1 (t := t)).1 e; omega
  have hl := num_le p t
  obtain ⟨a, ha⟩ : ∃ a, num p t = a + 1 := ⟨num p t - 1, by omega⟩
  have hv : vA p t = (lv p a).2 := by rw [vA_num hp.inc, if_neg hn0, ha, Nat.add_sub_cancel]
  refine ⟨a, ha, by omega, ?_, fun i hi => ?_⟩
  · unfold trimL; rw [List.length_cons, List.length_drop, List.length_drop]; omega
  · unfold trimL
    cases i with
    | zero => rw [if_pos rfl, lv_zero, hv, lv_drop, Nat.add_zero]
    | succ i => rw [if_neg (by omega), lv_cons_succ, lv_drop, lv_drop, ha, show a + 1 + i = a + (i + 1) by omega]

set_option maxRecDepth 100000 in
set_option maxHeartbeats 4000000 in
theorem trim_main (v : Value) (xs : List Lv) (t : Int) (w : World) (hn : xs.length ≤ 1048576) (hr : LRow w v xs) (hp : okP xs) (hb : ¬ badTr xs t) :
    Calls Try.prog 28 #[v, .int .i64 t] w
      fun e w' => ∃ v', e = .returned (.tuple #[v', .int .i64 0]) ∧ LOwn w' w.heap.size v' (trimL xs t) ∧ Below w.heap.size w w' := by
  have hlen : 0 < xs.length := List.length_pos_iff.2 hp.1
  have hleni : (0 : Int) < xs.length := by omega
  have C := Lib.hid (check_any v xs w hn hr)
  rw [checkV_ok hp] at C
  have hb' : ¬ (t < (lv xs 0).1 ∨ MaxT < t) := hb
  unfold MaxT at hb'
  have W1 : Hid (∀ w, Calls Try.prog 32 #[.int .i64 t, .int .i64 (lv xs 0).1, .int .i64 1099511627776] w fun e w' => e = .returned (.bool true) ∧ w' = w) := fun w => within_eq _ _ _ _ (decide_eq_true (by omega)) w
  obtain ⟨a, hna, ha, htl, htv⟩ := trimL_is hp (t := t) (by omega)
  have FD : Hid (∀ w1, Below w.heap.size w w1 → Calls Try.prog 34 #[v, .int .i64 t] w1 fun e w' => e = .returned (.int .i64 (a : Nat)) ∧ Below w1.heap.size w1 w') := fun w1 hB => by
    have := find_any v xs t w1 hn hp.1 (hr.kept hB) hp.inc
    rw [hna, show (((a + 1 : Nat) : Int) - 1) = (a : Nat) by omega] at this
    exact this
  rcases hr with ⟨rfl, _⟩ | ⟨b, off, c, rfl, _, r1, r2, hc⟩
  · exact absurd rfl hp.1
  have hdl : (xs.drop a).length = xs.length - a := List.length_drop
  have CL : Hid (∀ w1, Below w.heap.size w w1 → Calls Try.prog 39 #[.slice (some ⟨b, off + a * 2, none⟩) (xs.length - a) (c - a)] w1 fun e w' => ∃ v', e = .returned v' ∧ LOwn w' w1.heap.size v' (xs.drop a) ∧ Below w1.heap.size w1 w') := fun w1 hB => by
    have hk := hc.kept hB
    rw [← hdl]
    refine cloneV_any _ (xs.drop a) w1 (by omega) (List.length_pos_iff.1 (by omega)) (.inr ⟨b, off + a * 2, c - a, rfl, by omega, by omega, by omega, hk.1, fun i hi => ?_⟩)
    rw [lv_drop]
    have := hk.2 (a + i) (by omega)
    rw [show off + a * 2 + i * 2 = off + (a + i) * 2 by omega]
    exact this
  have HTV := Lib.hid htv
  have HC := Lib.hid hc
  have hd0 : 0 < xs.length - a := by omega
  have hai : (a : Int) ≤ xs.length := by omega
  have hac : ¬ c = a := by omega
  clear hc hp htv hb
  go_enter Try.func28, Try.ntmps28
  go_wp2_with fail
  refine C.out.mono ?_; rintro e w1 ⟨rfl, b1⟩
  have B1 := Lib.hid b1; clear b1
  obtain ⟨c0, c1⟩ := HC.out.at B1.out hlen
  simp only [Nat.zero_mul, Nat.add_zero] at c0 c1
  go_wp2_with fail
  refine (W1.out _).mono ?_; rintro e w9 ⟨rfl, hw⟩; subst hw
  go_wp2_with fail
  refine (FD.out _ B1.out).mono ?_; rintro e w2 ⟨rfl, b2⟩
  have B2 := Lib.hid (below_next b2 B1.out); clear b2 c0 c1
  go_wp2_with fail
  refine (CL.out _ B2.out).mono ?_; rintro e w3 ⟨v3, rfl, o3, b3⟩
  have B3 := Lib.hid (below_next b3 B2.out); clear b3
  have o3 := o3.mono B2.out.size
  obtain ⟨g, cap, rfl, hgb, hqc, hcm, hch⟩ := chg_of_own o3 (by omega)
  obtain ⟨d0, d1⟩ := hch.cells 0 (by omega)
  simp only [Nat.zero_mul, Nat.zero_add] at d0 d1
  have f1 : w3.frozen? ⟨g, 0, none⟩ = false := by
    obtain ⟨cur, k1, k2⟩ := hch.blk
    exact k1.free _
  have hset := hch.setAt (zs := trimL xs t) (x := t) htl hqc (by omega) HTV.out
  have hO := hset.own (base := w.heap.size) hgb (by omega) hcm
  rw [htl, hdl] at hO
  have HO := Lib.hid hO
  have HB5 := Lib.hid (B3.out.setCell hgb (p := ⟨g, 0, none⟩) (.int .i64 t))
  rw [hdl]
  clear hch hset hO o3 HTV htl
  go_wp2_with fail
  go_ret2
  exact ⟨_, rfl, HO.out, HB5.out⟩
set_option maxRecDepth 100000 in
theorem trim_bad_any (v : Value) (xs : List Lv) (t : Int) (w : World) (hn : xs.length ≤ 1048576) (h : LRow w v xs) (hp : okP xs) (hb : badTr xs t) :
    Calls Try.prog 28 #[v, .int .i64 t] w fun e w' => e = .returned (.tuple #[.slice none 0 0, .int .i64 2]) ∧ Below w.heap.size w w' := by
  have hlen : 0 < xs.length := List.length_pos_iff.2 hp.1
  have hleni : (0 : Int) < xs.length := by omega
  have C := Lib.hid (check_any v xs w hn h)
  rw [checkV_ok hp] at C
  unfold badTr MaxT at hb
  have W1 : Hid (∀ w, Calls Try.prog 32 #[.int .i64 t, .int .i64 (lv xs 0).1, .int .i64 1099511627776] w fun e w' => e = .returned (.bool false) ∧ w' = w) := fun w => within_eq _ _ _ _ (decide_eq_false (by omega)) w
  rcases h with ⟨rfl, _⟩ | ⟨b, off, c, rfl, _, r1, r2, hc⟩
  · exact absurd rfl hp.1
  have HC := Lib.hid hc
  clear hc hp hb
  go_enter Try.func28, Try.ntmps28
  go_wp2_with fail
  refine C.out.mono ?_; rintro e w1 ⟨rfl, b1⟩
  obtain ⟨c0, c1⟩ := HC.out.at b1 hlen
  simp only [Nat.zero_mul, Nat.add_zero] at c0 c1
  go_wp2_with fail
  refine (W1.out _).mono ?_; rintro e w9 ⟨rfl, hw⟩; subst hw
  go_wp2_with fail
  go_ret2
  exact ⟨rfl, b1⟩
set_option maxRecDepth 100000 in
theorem trim_no_any (v : Value) (xs : List Lv) (t : Int) (w : World) (hn : xs.length ≤ 1048576) (h : LRow w v xs) (hp : ¬ okP xs) :
    Calls Try.prog 28 #[v, .int .i64 t] w fun e w' => e = .returned (.tuple #[.slice none 0 0, .int .i64 50]) ∧ Below w.heap.size w w' := by
  have C := Lib.hid (check_any v xs w hn h)
  rw [checkV_no hp] at C
  clear h hp
  go_enter Try.func28, Try.ntmps28
  go_wp2_with fail
  refine C.out.mono ?_; rintro e w1 ⟨rfl, b1⟩
  go_wp2_with fail
  go_ret2
  exact ⟨rfl, b1⟩
/-- profile.Trim: at any levels. -/
theorem trim_any (v : Value) (xs : List Lv) (t : Int) (w : World) (hn : xs.length ≤ 1048576) (h : LRow w v xs) :
    Calls Try.prog 28 #[v, .int .i64 t] w
      fun e w' => ∃ v', e = .returned (.tuple #[v', .int .i64 (trimV xs t).2]) ∧ LOwn w' w.heap.size v' (trimV xs t).1 ∧ Below w.heap.size w w' := by
  by_cases hp : okP xs
  · by_cases hb : badTr xs t
    · rw [trim_bad hp hb]
      refine (trim_bad_any v xs t w hn h hp hb).mono ?_; rintro e w' ⟨rfl, b⟩
      exact ⟨_, rfl, LOwn.none _ _, b⟩
    · rw [trim_is hp hb]
      exact trim_main v xs t w hn h hp hb
  · rw [trim_no hp]
    refine (trim_no_any v xs t w hn h hp).mono ?_; rintro e w' ⟨rfl, b⟩
    exact ⟨_, rfl, LOwn.none _ _, b⟩
end Go.Proofs.Ytnbgipegfnpobaa
