/-
  gangerref05.Change: at any levels.
-/
import Derived.Test.YtnbgipegfnpobaaLvM
namespace Go.Proofs.Ytnbgipegfnpobaa
open Go Go.RowKit Go.Lib
set_option linter.unusedVariables false

theorem two_row {w : World} {b : Nat} {t f t' f' : Int} {ty : TypeId} (h : Blk w b #[.int .i64 t, .int .i64 f, .int .i64 t', .int .i64 f'] ty) : LRow w (.slice (some ⟨b, 0, none⟩) 2 2) [(t, f), (t', f')] :=
  .inr ⟨b, 0, 2, rfl, Nat.zero_lt_succ 1, Nat.le_refl _, by unfold maxLen; omega, h.lt, fun j hj => by
    have hj' : j < 2 := by simpa using hj
    rcases (by omega : j = 0 ∨ j = 1) with rfl | rfl
    · exact ⟨by simpa [lv] using h.cell 0, by simpa [lv] using h.cell 1⟩
    · exact ⟨by simpa [lv] using h.cell 2, by simpa [lv] using h.cell 3⟩⟩
theorem tsOf_two (a : List Lv) (t t' : Int) : tsOf a [(t, 0), (t', 0)] = ats a ++ [t, t'] := rfl
theorem newG_in {p : List Lv} {f n k t : Int} (h : inW f n t) : newG p f n k t = vA p t + k := by unfold newG; rw [if_pos h]
theorem newG_out {p : List Lv} {f n k t : Int} (h : ¬ inW f n t) : newG p f n k t = vA p t := by unfold newG; rw [if_neg h, Int.add_zero]
set_option maxRecDepth 100000 in
set_option maxHeartbeats 4000000 in
theorem refChange_main (v : Value) (xs : List Lv) (f n k : Int) (w : World) (hn : xs.length + 2 ≤ 1048576) (hr : LRow w v xs) (hp : okP xs) (hb : ¬ badCh xs f n k) :
    Calls Try.prog 26 #[v, .int .i64 f, .int .i64 n, .int .i64 k] w
      fun e w' => ∃ v', e = .returned (.tuple #[v', .int .i64 (changeV xs f n k).2]) ∧ LOwn w' w.heap.size v' (changeV xs f n k).1 ∧ Below w.heap.size w w' := by
  obtain ⟨i0, hi, hz0, hz1, hz2⟩ := info_parts Try.infoInt5
  have hlen : 0 < xs.length := List.length_pos_iff.2 hp.1
  have hleni : (0 : Int) < xs.length := by omega
  have C := Lib.hid (refCheck_any v xs w (by omega) hr)
  rw [checkV_ok hp] at C
  have hb' : ¬ (f < (lv xs 0).1 ∨ MaxT < f ∨ n < 1 ∨ MaxT - f < n ∨ k < -MaxT ∨ MaxT < k) := hb
  have h00 := (hp.2 0 hlen).1.1
  unfold MaxT at hb' h00
  have t1 : decide (f < (lv xs 0).1) = false := decide_eq_false (by omega)
  have t2 : decide (f > 1099511627776) = false := decide_eq_false (by omega)
  have t2' : decide (1099511627776 < f) = false := decide_eq_false (by omega)
  have t3 : decide (n < 1) = false := decide_eq_false (by omega)
  have t4 : decide (n > 1099511627776 - f) = false := decide_eq_false (by omega)
  have t4' : decide (1099511627776 - f < n) = false := decide_eq_false (by omega)
  have t5 : decide (k < -1099511627776) = false := decide_eq_false (by omega)
  have t6 : decide (k > 1099511627776) = false := decide_eq_false (by omega)
  have t6' : decide (1099511627776 < k) = false := decide_eq_false (by omega)
  have f0 : 0 ≤ f := by omega
  have f1 : f ≤ 1099511627776 := by omega
  have n0 : 1 ≤ n := by omega
  have n1 : f + n ≤ 1099511627776 := by omega
  have k0 : -1099511627776 ≤ k := by omega
  have k1 : k ≤ 1099511627776 := by omega
  have EN : Hid (∀ b w1, Below w.heap.size w w1 → Blk w1 b #[.int .i64 f, .int .i64 0, .int .i64 (f + n), .int .i64 0] 49 → Calls Try.prog 35 #[v, .slice (some ⟨b, 0, none⟩) 2 2, .int .i64 (lv xs 0).1] w1 fun e w' => ∃ v', e = .returned v' ∧ IOwn w' w1.heap.size v' (endsC xs f n) ∧ Below w1.heap.size w1 w') := fun b w1 hB hK => by
    have := ends_any v (.slice (some ⟨b, 0, none⟩) 2 2) xs [(f, 0), (f + n, 0)] (lv xs 0).1 w1 (by omega) (by simp) (hr.kept hB) (two_row hK)
    rw [tsOf_two] at this
    exact this
  have AT : Hid (∀ s w1, Below w.heap.size w w1 → Calls Try.prog 20 #[v, .int .i64 s] w1 fun e w' => e = .returned (.int .i64 (vA xs s)) ∧ Below w1.heap.size w1 w') := fun s w1 hB => by
    rw [← atV_ok hp s]; exact refAt_any v xs s w1 (by omega) (hr.kept hB)
  have hL0 : 0 < (endsC xs f n).length := by have := (endsT_len (lv xs 0).1 (ats xs ++ [f, f + n]) (ats xs ++ [f, f + n]).length).2; rwa [endsT_all] at this
  have hL1 : (endsC xs f n).length ≤ xs.length + 3 := by have := (endsT_len (lv xs 0).1 (ats xs ++ [f, f + n]) (ats xs ++ [f, f + n]).length).1; rw [endsT_all] at this; simp [ats_len] at this; exact this
  have HR1 : Hid ((∃ t ∈ endsC xs f n, overT (newG xs f n k t)) → changeV xs f n k = ([], 5)) := change_full hp hb
  have HR2 : Hid ((¬ ∃ t ∈ endsC xs f n, overT (newG xs f n k t)) → changeV xs f n k = (cmpct ((endsC xs f n).map fun t => (t, newG xs f n k t)), 0)) := change_ok hp hb
  generalize changeV xs f n k = R at *
  obtain ⟨L, hL⟩ : ∃ L, L = endsC xs f n := ⟨_, rfl⟩
  rw [← hL] at EN hL0 hL1 HR1 HR2
  have HV : Hid (∀ t, 0 ≤ vA xs t ∧ vA xs t ≤ 1099511627776) := fun t => by
    have := val_ok hp t; unfold overT MaxT at this; omega
  have HGI : Hid (∀ t, inW f n t → newG xs f n k t = vA xs t + k) := fun t h => newG_in h
  have HGO : Hid (∀ t, ¬ inW f n t → newG xs f n k t = vA xs t) := fun t h => newG_out h
  rcases hr with ⟨rfl, _⟩ | ⟨b, off, c, rfl, _, r1, r2, hc⟩
  · exact absurd rfl hp.1
  generalize newG xs f n k = G at *
  generalize vA xs = V at *
  clear hL hb hb'
  have HC := Lib.hid hc
  clear hc hp
  go_enter Try.func26, Try.ntmps26
  go_wp2_with fail
  refine C.out.mono ?_; rintro e w1 ⟨rfl, b1⟩
  have B1 := Lib.hid b1
  have hz1' : w.heap.size ≤ w1.heap.size := b1.size
  clear b1
  obtain ⟨c0, c1⟩ := HC.out.at B1.out hlen
  simp only [Nat.zero_mul, Nat.add_zero] at c0 c1
  have hbl : b < w1.heap.size := Nat.lt_of_lt_of_le HC.out.1 hz1'
  go_wp2_with fail
  refine (EN.out _ _ (B1.out.alloc hz1' _) (Blk.new _ _ _)).mono ?_; rintro e w2 ⟨v2, rfl, o2, b2⟩
  have B2 := Lib.hid (below_next b2 (B1.out.alloc hz1' _)); clear b2 c0 c1 EN C hbl
  have O2 := Lib.hid (o2.mono (Nat.le_trans hz1' (Nat.le_of_lt (by simp))))
  obtain ⟨g, cap, rfl, hgb, hgs, hgc, hgm, hcells⟩ := iown_parts o2 hL0
  have HG := Lib.hid hcells
  have HAt := Lib.hid o2
  clear o2 hcells
  go_wp2_with fail
  go_loopw [12, 13] (fun o i wr => ∃ j : Nat, j ≤ L.length ∧ i = .int .i64 j ∧ Hid (IOwn wr w2.heap.size o ((L.take j).map G)) ∧ Hid (∀ q, q < j → ¬ overT (G (L.getD q 0))) ∧ Below w.heap.size w wr ∧ Below w2.heap.size w2 wr) (fun _ i _ => L.length - (RowKit.intOf i).toNat)
  case atStart => exact ⟨0, Nat.zero_le _, rfl, ⟨rfl, .inl ⟨rfl, rfl⟩⟩, (fun q hq => absurd hq (Nat.not_lt_zero _)), B2.out, Below.refl _ _⟩
  case round =>
    obtain ⟨j, hj, rfl, hown, hfine, hB, hB2⟩ := hrel
    have HB := Lib.hid hB
    have HB2 := Lib.hid hB2
    have hz : w.heap.size ≤ wr.heap.size := hB.size
    have hjl : ((L.take j).map G).length = j := by rw [List.length_map, List.length_take]; omega
    clear hB hB2
    by_cases hlt : j < L.length
    · have hlti : (j : Int) < L.length := by omega
      have a0 := cell_next HB2.out (HG.out j hlt)
      obtain ⟨x, hx⟩ : ∃ x, x = L.getD j 0 := ⟨_, rfl⟩
      rw [← hx] at a0
      have hs : Hid ((L.take (j + 1)).map G = (L.take j).map G ++ [G x]) := by
        unfold Hid
        rw [List.take_add_one, List.map_append, hx, List.getD_eq_getElem?_getD, List.getElem?_eq_getElem hlt]; rfl
      have HO := Lib.hid hown.out
      have hmem : Hid (x ∈ L) := by
        unfold Hid; rw [hx, List.getD_eq_getElem?_getD, List.getElem?_eq_getElem hlt]; exact List.getElem_mem hlt
      have hfn : Hid (¬ overT (G x) → ∀ q, q < j + 1 → ¬ overT (G (L.getD q 0))) := fun h q hq => by
        rcases Nat.lt_or_ge q j with h1 | h1
        · exact hfine.out q h1
        · obtain rfl : q = j := by omega
          rw [← hx]; exact h
      clear hx hown hfine
      obtain ⟨V0, V1⟩ := HV.out x
      have G1 := HGI.out x
      have G2 := HGO.out x
      have AT' : Hid (∀ w1, Below w.heap.size w w1 → Calls Try.prog 20 #[.slice (some ⟨b, off, none⟩) xs.length c, .int .i64 x] w1 fun e w' => e = .returned (.int .i64 (V x)) ∧ Below w1.heap.size w1 w') := fun w1 h => AT.out x w1 h
      generalize V x = vx at *
      obtain ⟨y, hy⟩ : ∃ y, y = G x := ⟨_, rfl⟩
      rw [← hy] at G1 G2 hs hfn
      have HY := Lib.hid hy
      clear hy
      have OV : overT y ↔ (y < 0 ∨ 1099511627776 < y) := Iff.rfl
      have step : ∀ (w4 : World), Below wr.heap.size wr w4 → ¬ overT y → True := fun _ _ _ => trivial
      clear step
      by_cases hin : inW f n x
      · have hyv := G1 hin
        have s1 : decide (x ≥ f) = true := decide_eq_true hin.1
        have s1' : decide (f ≤ x) = true := decide_eq_true hin.1
        have s2 : decide (x < f + n) = true := decide_eq_true hin.2
        clear G1 G2 hin
        by_cases ho : overT y
        · have hro := OV.1 ho
          have hR := HR1.out ⟨x, hmem.out, by rw [← HY.out]; exact ho⟩
          clear ho OV hfn hs HO
          subst hyv
          go_wp2_with fail
          refine (AT'.out _ HB.out).mono ?_; rintro e w4 ⟨rfl, b4⟩
          have B4 := Lib.hid (below_next b4 HB.out)
          have a4 := cell_next b4 a0
          clear b4 a0
          by_cases hneg : vx + k < 0
          · have q1 : decide (vx + k < 0) = true := decide_eq_true hneg
            go_wp2_with fail
            go_ret2
            exact ⟨_, by rw [hR]; rfl, by rw [hR]; exact LOwn.none _ _, B4.out⟩
          · have q1 : decide (vx + k < 0) = false := decide_eq_false hneg
            have q2 : decide (vx + k > 1099511627776) = true := decide_eq_true (by omega)
            have q2' : decide (1099511627776 < vx + k) = true := decide_eq_true (by omega)
            go_wp2_with fail
            go_ret2
            exact ⟨_, by rw [hR]; rfl, by rw [hR]; exact LOwn.none _ _, B4.out⟩
        · have hfn' := Lib.hid (hfn.out ho)
          have hro : ¬ (y < 0 ∨ 1099511627776 < y) := ho
          have q1 : decide (y < 0) = false := decide_eq_false (by omega)
          have q2 : decide (y > 1099511627776) = false := decide_eq_false (by omega)
          have q2' : decide (1099511627776 < y) = false := decide_eq_false (by omega)
          clear ho OV hfn hro
          subst hyv
          go_wp2_with fail
          refine (AT'.out _ HB.out).mono ?_; rintro e w4 ⟨rfl, b4⟩
          have B4 := Lib.hid (below_next b4 HB.out)
          have B42 := Lib.hid (below_next b4 HB2.out)
          have O4 := Lib.hid (owns_older HO.out b4)
          have hz4 : w.heap.size ≤ w4.heap.size := B4.out.size
          have hz42 : w2.heap.size ≤ w4.heap.size := B42.out.size
          have hzw : w.heap.size ≤ w2.heap.size := B2.out.size
          rw [hjl] at O4
          have a4 := cell_next b4 a0
          clear b4 a0
          go_wp2_with (at_builtin; refine wpList_append_own _ rfl _ _ 54 rfl w2.heap.size 3 i0 _ 1 8 Try.underlying54 hi hz0 hz1 hz2 rfl (by decide) _ j _ rfl (World.ownsRow.alloc O4.out _) ⟨w4.heap.size, 0, none⟩ 1 1 [.int .i64 (vx + k)] rfl rfl (news_alloc _ [.int .i64 (vx + k)] _) (by simp [Value.oneCell']) (by unfold maxLen; omega) (by omega) (by simp; omega) ?_; intro v4 w5 hown4 hgrow4 _)
          go_roundw
          case rel =>
            refine ⟨j + 1, hlt, by go_num, ?_, hfn'.out, (B4.out.alloc hz4 _).grown hgrow4 (by simp; omega) (fun q hq => Nat.le_trans hzw (O4.out.lt q hq).1), (B42.out.alloc hz42 _).grown hgrow4 (by simp; omega) (fun q hq => (O4.out.lt q hq).1)⟩
            rw [hs.out]
            unfold IOwn
            rw [intsL_app, List.length_append, hjl]
            exact hown4
          case measure => simp [RowKit.intOf]; omega
      · have hyv := G2 hin
        have hout : ¬ (f ≤ x ∧ x < f + n) := hin
        have hov : ¬ overT y := fun h => by have := OV.1 h; omega
        have hfn' := Lib.hid (hfn.out hov)
        have q1 : decide (y < 0) = false := decide_eq_false (by omega)
        have q2 : decide (y > 1099511627776) = false := decide_eq_false (by omega)
        have q2' : decide (1099511627776 < y) = false := decide_eq_false (by omega)
        clear hov OV hfn G1 G2 hin
        subst hyv
        obtain ⟨s, hs1, hs2⟩ : ∃ s : Bool, decide (x ≥ f) = s ∧ (s = true → decide (x < f + n) = false) := ⟨_, rfl, fun h => decide_eq_false fun h2 => hout ⟨of_decide_eq_true h, h2⟩⟩
        have hs1' : decide (f ≤ x) = s := hs1
        clear hout
        cases s with
        | true =>
          have s2 := hs2 rfl
          clear hs2
          go_wp2_with fail
          refine (AT'.out _ HB.out).mono ?_; rintro e w4 ⟨rfl, b4⟩
          have B4 := Lib.hid (below_next b4 HB.out)
          have B42 := Lib.hid (below_next b4 HB2.out)
          have O4 := Lib.hid (owns_older HO.out b4)
          have hz4 : w.heap.size ≤ w4.heap.size := B4.out.size
          have hz42 : w2.heap.size ≤ w4.heap.size := B42.out.size
          have hzw : w.heap.size ≤ w2.heap.size := B2.out.size
          rw [hjl] at O4
          have a4 := cell_next b4 a0
          clear b4 a0
          go_wp2_with (at_builtin; refine wpList_append_own _ rfl _ _ 54 rfl w2.heap.size 3 i0 _ 1 8 Try.underlying54 hi hz0 hz1 hz2 rfl (by decide) _ j _ rfl (World.ownsRow.alloc O4.out _) ⟨w4.heap.size, 0, none⟩ 1 1 [.int .i64 y] rfl rfl (news_alloc _ [.int .i64 y] _) (by simp [Value.oneCell']) (by unfold maxLen; omega) (by omega) (by simp; omega) ?_; intro v4 w5 hown4 hgrow4 _)
          go_roundw
          case rel =>
            refine ⟨j + 1, hlt, by go_num, ?_, hfn'.out, (B4.out.alloc hz4 _).grown hgrow4 (by simp; omega) (fun q hq => Nat.le_trans hzw (O4.out.lt q hq).1), (B42.out.alloc hz42 _).grown hgrow4 (by simp; omega) (fun q hq => (O4.out.lt q hq).1)⟩
            rw [hs.out]
            unfold IOwn
            rw [intsL_app, List.length_append, hjl]
            exact hown4
          case measure => simp [RowKit.intOf]; omega
        | false =>
          clear hs2
          go_wp2_with fail
          refine (AT'.out _ HB.out).mono ?_; rintro e w4 ⟨rfl, b4⟩
          have B4 := Lib.hid (below_next b4 HB.out)
          have B42 := Lib.hid (below_next b4 HB2.out)
          have O4 := Lib.hid (owns_older HO.out b4)
          have hz4 : w.heap.size ≤ w4.heap.size := B4.out.size
          have hz42 : w2.heap.size ≤ w4.heap.size := B42.out.size
          have hzw : w.heap.size ≤ w2.heap.size := B2.out.size
          rw [hjl] at O4
          have a4 := cell_next b4 a0
          clear b4 a0
          go_wp2_with (at_builtin; refine wpList_append_own _ rfl _ _ 54 rfl w2.heap.size 3 i0 _ 1 8 Try.underlying54 hi hz0 hz1 hz2 rfl (by decide) _ j _ rfl (World.ownsRow.alloc O4.out _) ⟨w4.heap.size, 0, none⟩ 1 1 [.int .i64 y] rfl rfl (news_alloc _ [.int .i64 y] _) (by simp [Value.oneCell']) (by unfold maxLen; omega) (by omega) (by simp; omega) ?_; intro v4 w5 hown4 hgrow4 _)
          go_roundw
          case rel =>
            refine ⟨j + 1, hlt, by go_num, ?_, hfn'.out, (B4.out.alloc hz4 _).grown hgrow4 (by simp; omega) (fun q hq => Nat.le_trans hzw (O4.out.lt q hq).1), (B42.out.alloc hz42 _).grown hgrow4 (by simp; omega) (fun q hq => (O4.out.lt q hq).1)⟩
            rw [hs.out]
            unfold IOwn
            rw [intsL_app, List.length_append, hjl]
            exact hown4
          case measure => simp [RowKit.intOf]; omega
    · obtain rfl : j = L.length := by omega
      have hlt' : decide ((L.length : Int) < L.length) = false := decide_eq_false (by omega)
      have hown' := hown.out
      rw [List.take_length] at hown'
      have hR := HR2.out fun ⟨t, ht, ho⟩ => by
        obtain ⟨q, hq, e⟩ := List.mem_iff_getElem.1 ht
        refine hfine.out q hq ?_
        rw [List.getD_eq_getElem?_getD, List.getElem?_eq_getElem hq, e]; exact ho
      have hat := owns_older (HAt.out) HB2.out
      have OF := Lib.hid (of_any _ _ L (L.map G) _ _ wr (by omega) (by rw [List.length_map]) hL0 hat hown')
      rw [zip_fn] at OF
      clear hown hown' hat hfine
      go_wp2_with fail
      refine OF.out.mono ?_; rintro e w5 ⟨v5, rfl, o5, b5⟩
      have O5 := Lib.hid (o5.mono hz)
      have B5 := Lib.hid (below_next b5 HB.out)
      clear o5 b5
      go_wp2_with fail
      go_ret2
      exact ⟨_, by rw [hR]; rfl, by rw [hR]; exact O5.out, B5.out⟩

set_option maxRecDepth 100000 in
set_option maxHeartbeats 4000000 in
theorem refChange_bad (v : Value) (xs : List Lv) (f n k : Int) (w : World) (hn : xs.length + 2 ≤ 1048576) (h : LRow w v xs) (hp : okP xs) (hb : badCh xs f n k) :
    Calls Try.prog 26 #[v, .int .i64 f, .int .i64 n, .int .i64 k] w fun e w' => e = .returned (.tuple #[.slice none 0 0, .int .i64 2]) ∧ Below w.heap.size w w' := by
  have hlen : 0 < xs.length := List.length_pos_iff.2 hp.1
  have hleni : (0 : Int) < xs.length := by omega
  have C := Lib.hid (refCheck_any v xs w (by omega) h)
  rw [checkV_ok hp] at C
  have h00 := (hp.2 0 hlen).1.1
  unfold badCh MaxT at hb
  unfold MaxT at h00
  rcases h with ⟨rfl, _⟩ | ⟨b, off, c, rfl, _, r1, r2, hc⟩
  · exact absurd rfl hp.1
  have HC := Lib.hid hc
  clear hc hp
  obtain ⟨h, hh⟩ : ∃ h, h = (lv xs 0).1 := ⟨_, rfl⟩
  rw [← hh] at hb h00
  have HH := Lib.hid hh
  clear hh
  have key : ∀ (s1 s2 s3 s4 s5 s6 : Bool), decide (f < h) = s1 → decide (1099511627776 < f) = s2 → decide (n < 1) = s3 → decide (1099511627776 - f < n) = s4 → decide (k < -1099511627776) = s5 → decide (1099511627776 < k) = s6 →
      (s1 || s2 || s3 || s4 || s5 || s6) = true → (s1 = false → s2 = false → 0 ≤ f ∧ f ≤ 1099511627776) →
      Calls Try.prog 26 #[.slice (some ⟨b, off, none⟩) xs.length c, .int .i64 f, .int .i64 n, .int .i64 k] w fun e w' => e = .returned (.tuple #[.slice none 0 0, .int .i64 2]) ∧ Below w.heap.size w w' := by
    intro s1 s2 s3 s4 s5 s6 t1 t2 t3 t4 t5 t6 hor hfb
    have t2' : decide (f > 1099511627776) = s2 := t2
    have t4' : decide (n > 1099511627776 - f) = s4 := t4
    have t6' : decide (k > 1099511627776) = s6 := t6
    clear hb h00
    cases s1 <;> cases s2 <;> (first | (have hfb' := hfb rfl rfl) | skip) <;> clear hfb <;> cases s3 <;> cases s4 <;> cases s5 <;> cases s6 <;> simp at hor
    all_goals
      go_enter Try.func26, Try.ntmps26
      go_wp2_with fail
      refine C.out.mono ?_; rintro e w1 ⟨rfl, b1⟩
      obtain ⟨c0, c1⟩ := HC.out.at b1 hlen
      simp only [Nat.zero_mul, Nat.add_zero] at c0 c1
      rw [← HH.out] at c0
      go_wp2_with fail
      go_ret2
      exact ⟨rfl, b1⟩
  refine key _ _ _ _ _ _ rfl rfl rfl rfl rfl rfl ?_ ?_
  · simp only [Bool.or_eq_true, decide_eq_true_eq]; omega
  · simp only [decide_eq_false_iff_not]; omega
set_option maxRecDepth 100000 in
theorem refChange_no (v : Value) (xs : List Lv) (f n k : Int) (w : World) (hn : xs.length + 2 ≤ 1048576) (h : LRow w v xs) (hp : ¬ okP xs) :
    Calls Try.prog 26 #[v, .int .i64 f, .int .i64 n, .int .i64 k] w fun e w' => e = .returned (.tuple #[.slice none 0 0, .int .i64 50]) ∧ Below w.heap.size w w' := by
  have C := Lib.hid (refCheck_any v xs w (by omega) h)
  rw [checkV_no hp] at C
  clear h hp
  go_enter Try.func26, Try.ntmps26
  go_wp2_with fail
  refine C.out.mono ?_; rintro e w1 ⟨rfl, b1⟩
  go_wp2_with fail
  go_ret2
  exact ⟨rfl, b1⟩
/-- gangerref05.Change: at any levels. -/
theorem refChange_any (v : Value) (xs : List Lv) (f n k : Int) (w : World) (hn : xs.length + 2 ≤ 1048576) (h : LRow w v xs) :
    Calls Try.prog 26 #[v, .int .i64 f, .int .i64 n, .int .i64 k] w
      fun e w' => ∃ v', e = .returned (.tuple #[v', .int .i64 (changeV xs f n k).2]) ∧ LOwn w' w.heap.size v' (changeV xs f n k).1 ∧ Below w.heap.size w w' := by
  by_cases hp : okP xs
  · by_cases hb : badCh xs f n k
    · rw [change_bad hp hb]
      refine (refChange_bad v xs f n k w hn h hp hb).mono ?_; rintro e w' ⟨rfl, b⟩
      exact ⟨_, rfl, LOwn.none _ _, b⟩
    · exact refChange_main v xs f n k w hn h hp hb
  · rw [change_no hp]
    refine (refChange_no v xs f n k w hn h hp).mono ?_; rintro e w' ⟨rfl, b⟩
    exact ⟨_, rfl, LOwn.none _ _, b⟩
end Go.Proofs.Ytnbgipegfnpobaa
