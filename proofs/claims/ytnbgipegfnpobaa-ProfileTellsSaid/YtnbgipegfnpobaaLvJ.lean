/-
  profile.Change: at any levels.
-/
import Derived.Test.YtnbgipegfnpobaaLvI
import Derived.Test.YtnbgipegfnpobaaPr7
namespace Go.Proofs.Ytnbgipegfnpobaa
open Go Go.RowKit Go.Lib
set_option linter.unusedVariables false

/-- A row of one's own, place by place. -/
structure Chg (w : World) (g : Nat) (ys : List Lv) (cap : Nat) : Prop where
  blk : ∃ cur, Blk w g cur 49 ∧ cur.size = cap * 2
  cells : ∀ i, i < ys.length → w.cell? ⟨g, i * 2, none⟩ = some (.int .i64 (lv ys i).1) ∧ w.cell? ⟨g, i * 2 + 1, none⟩ = some (.int .i64 (lv ys i).2)
theorem Chg.kept {w w' : World} {g : Nat} {ys : List Lv} {cap : Nat} (h : Chg w g ys cap) (hb : Below w.heap.size w w') : Chg w' g ys cap := by
  obtain ⟨cur, h1, h2⟩ := h.blk
  exact ⟨⟨cur, h1.kept hb, h2⟩, fun i hi => ⟨cell_next hb (h.cells i hi).1, cell_next hb (h.cells i hi).2⟩⟩
theorem Chg.set {w : World} {g : Nat} {ys zs : List Lv} {cap a : Nat} {x : Int} (h : Chg w g ys cap) (hl : zs.length = ys.length) (hc : ys.length ≤ cap) (ha : a < ys.length)
    (hz : ∀ i, i < ys.length → lv zs i = if i = a then ((lv ys a).1, x) else lv ys i) : Chg (w.setCell ⟨g, a * 2 + 1, none⟩ (.int .i64 x)) g zs cap := by
  obtain ⟨cur, h1, h2⟩ := h.blk
  have k1 := h1.set (a * 2 + 1) (.int .i64 x)
  refine ⟨⟨_, k1, by simp [h2]⟩, fun i hi => ?_⟩
  rw [hl] at hi
  rw [hz i hi, k1.cell, k1.cell, Array.getElem?_setIfInBounds, Array.getElem?_setIfInBounds, if_neg (by omega)]
  obtain ⟨c0, c1⟩ := h.cells i hi
  rw [h1.cell] at c0 c1
  by_cases e : i = a
  · subst e
    rw [if_pos rfl, if_pos rfl, if_pos (by omega)]
    exact ⟨c0, rfl⟩
  · rw [if_neg e, if_neg (by omega)]
    exact ⟨c0, c1⟩
theorem Chg.own {w : World} {base g cap : Nat} {ys : List Lv} (h : Chg w g ys cap) (hbg : base ≤ g) (hl : ys.length ≤ cap) (hcm : cap ≤ maxLen) : LOwn w base (.slice (some ⟨g, 0, none⟩) ys.length cap) ys := by
  obtain ⟨cur, h1, h2⟩ := h.blk
  exact lown_of_cells hbg h1 h2 hl hcm h.cells
theorem chg_of_own {w : World} {base : Nat} {v : Value} {ys : List Lv} (h : LOwn w base v ys) (h0 : 0 < ys.length) :
    ∃ g cap, v = .slice (some ⟨g, 0, none⟩) ys.length cap ∧ base ≤ g ∧ ys.length ≤ cap ∧ cap ≤ maxLen ∧ Chg w g ys cap := by
  have hr := lrow_of_owns h
  obtain ⟨hl, ⟨hv, hq⟩ | ⟨g, cap, cur, rfl, hg, hcur, hcap, hmax, hsz, htk⟩⟩ := h
  · omega
  · rcases hr with ⟨e, _⟩ | ⟨b, off, c, hv, _, h1, h3, h4⟩
    · rw [e] at h0; simp at h0
    · simp only [Value.slice.injEq, Option.some.injEq, Addr.mk.injEq, and_true, true_and] at hv
      obtain ⟨⟨rfl, rfl⟩, rfl⟩ := hv
      refine ⟨_, _, rfl, hg, hcap, hmax, ⟨cur, hcur, hsz⟩, fun i hi => ?_⟩
      have := h4.2 i hi
      simpa using this
theorem splitV_len (p : List Lv) (t : Int) : (splitV p t).length ≤ p.length + 1 := by
  unfold splitV; split
  · omega
  · have := num_le p t
    rw [List.length_append, List.length_take, List.length_cons, List.length_drop]; omega

set_option maxRecDepth 100000 in
set_option maxHeartbeats 4000000 in
theorem change_main (v : Value) (xs : List Lv) (f n k : Int) (w : World) (hn : xs.length + 2 ≤ 1048576) (hr : LRow w v xs) (hp : okP xs) (hb : ¬ badCh xs f n k) :
    Calls Try.prog 25 #[v, .int .i64 f, .int .i64 n, .int .i64 k] w
      fun e w' => ∃ v', e = .returned (.tuple #[v', .int .i64 (changeV xs f n k).2]) ∧ LOwn w' w.heap.size v' (changeV xs f n k).1 ∧ Below w.heap.size w w' := by
  have hlen : 0 < xs.length := List.length_pos_iff.2 hp.1
  have hleni : (0 : Int) < xs.length := by omega
  have C := Lib.hid (check_any v xs w (by omega) hr)
  rw [checkV_ok hp] at C
  have hb' : ¬ (f < (lv xs 0).1 ∨ MaxT < f ∨ n < 1 ∨ MaxT - f < n ∨ k < -MaxT ∨ MaxT < k) := hb
  have h00 := (hp.2 0 hlen).1.1
  unfold MaxT at hb' h00
  have W1 : Hid (∀ w, Calls Try.prog 32 #[.int .i64 f, .int .i64 (lv xs 0).1, .int .i64 1099511627776] w fun e w' => e = .returned (.bool true) ∧ w' = w) := fun w => within_eq _ _ _ _ (decide_eq_true (by omega)) w
  have W2 : Hid (∀ w, Calls Try.prog 32 #[.int .i64 n, .int .i64 1, .int .i64 (1099511627776 - f)] w fun e w' => e = .returned (.bool true) ∧ w' = w) := fun w => within_eq _ _ _ _ (decide_eq_true (by omega)) w
  have W3 : Hid (∀ w, Calls Try.prog 32 #[.int .i64 k, .int .i64 (-1099511627776), .int .i64 1099511627776] w fun e w' => e = .returned (.bool true) ∧ w' = w) := fun w => within_eq _ _ _ _ (decide_eq_true (by omega)) w
  have h1 : (lv xs 0).1 ≤ f := by omega
  have h2 : 1 ≤ n := by omega
  have s1 := split_is hp.inc hp.1 h1
  have S := splits_is hp h1 h2
  have l1 := splitV_len xs f
  have SP1 : Hid (∀ w1, Below w.heap.size w w1 → Calls Try.prog 36 #[v, .int .i64 f] w1 fun e w' => ∃ v', e = .returned v' ∧ LOwn w' w1.heap.size v' (splitV xs f) ∧ Below w1.heap.size w1 w') := fun w1 hB => split_any v xs f w1 (by omega) hp.1 (hr.kept hB) hp.inc h1
  have SP2 : Hid (∀ v1 base w1, LOwn w1 base v1 (splitV xs f) → Calls Try.prog 36 #[v1, .int .i64 (f + n)] w1 fun e w' => ∃ v', e = .returned v' ∧ LOwn w' w1.heap.size v' (splits xs f n) ∧ Below w1.heap.size w1 w') := fun v1 base w1 hl => split_any v1 (splitV xs f) (f + n) w1 (by omega) s1.ne (lrow_of_owns hl) s1.inc (by rw [s1.head]; omega)
  obtain ⟨q, hq⟩ : ∃ q, q = splits xs f n := ⟨_, rfl⟩
  rw [← hq] at SP2
  have hql : q.length ≤ xs.length + 2 := by
    rw [hq]; have := splitV_len (splitV xs f) (f + n); unfold splits; omega
  have hfq : f ∈ ats q := by
    rw [hq, S.ends, endsC, mem_ends]
    by_cases e : f = (lv xs 0).1
    · exact .inl e
    · exact .inr ⟨by simp, by omega⟩
  have heq : f + n ∈ ats q := by
    rw [hq, S.ends, endsC, mem_ends]
    exact .inr ⟨by simp, by omega⟩
  have hqi : Inc q := by rw [hq]; exact S.inc
  have hqb : Hid (∀ i, i < q.length → 0 ≤ (lv q i).2 ∧ (lv q i).2 ≤ 1099511627776) := fun i hi => by
    have := S.crs (lv q i) (by rw [← hq]; exact lv_mem hi)
    have h := val_ok hp (lv q i).1
    rw [this]; unfold overT MaxT at h; omega
  obtain ⟨st0, sa0, sn0⟩ := ChSt.start (n := n) (k := k) hqi hfq
  have hq0 : 0 < q.length := Nat.lt_of_le_of_lt (Nat.zero_le _) st0.lt
  have FD : Hid (∀ v1 w1, LRow w1 v1 q → Calls Try.prog 34 #[v1, .int .i64 f] w1 fun e w' => e = .returned (.int .i64 ((num q f - 1 : Nat) : Int)) ∧ Below w1.heap.size w1 w') := fun v1 w1 hl => by
    have := find_any v1 q f w1 (by omega) (List.length_pos_iff.1 hq0) hl hqi
    rw [show ((num q f : Int) - 1) = ((num q f - 1 : Nat) : Int) by omega] at this
    exact this
  have HOV : Hid ((∃ x ∈ q, inW f n x.1 ∧ overT (x.2 + k)) → changeV xs f n k = ([], 5)) := fun h => change_full hp hb ((over_iff hp h1 h2).2 (by rw [← hq]; exact h))
  have HOK : Hid ((¬ ∃ x ∈ q, inW f n x.1 ∧ overT (x.2 + k)) → changeV xs f n k = (cmpct (addV q f n k), 0)) := fun h => by
    rw [change_ok hp hb fun h3 => h (by have := (over_iff hp h1 h2).1 h3; rwa [← hq] at this), ← add_is hp h1 h2, hq]
  have CMP : Hid (∀ v1 w1, w.heap.size ≤ w1.heap.size → LOwn w1 w.heap.size v1 (addV q f n k) → Calls Try.prog 37 #[v1] w1 fun e w' => ∃ v', e = .returned v' ∧ LOwn w' w.heap.size v' (cmpct (addV q f n k)) ∧ Below w.heap.size w1 w') := fun v1 w1 h3 h4 => compact_any v1 _ _ w1 (by unfold addV; rw [List.length_map]; omega) h3 h4
  generalize num q f - 1 = a0 at *
  have ST0 := Lib.hid st0
  have SA0 := Lib.hid sa0
  have HQI := Lib.hid hqi
  have HEQ := Lib.hid heq
  generalize changeV xs f n k = res at *
  rcases hr with ⟨rfl, _⟩ | ⟨b, off, c, rfl, _, r1, r2, hc⟩
  · exact absurd rfl hp.1
  have HC := Lib.hid hc
  clear hc S s1 hq hb hp st0 sa0 sn0 hqi heq hfq l1
  go_enter Try.func25, Try.ntmps25
  go_wp2_with fail
  refine C.out.mono ?_; rintro e w1 ⟨rfl, b1⟩
  have B1 := Lib.hid b1; clear b1
  obtain ⟨c0, c1⟩ := HC.out.at B1.out hlen
  simp only [Nat.zero_mul, Nat.add_zero] at c0 c1
  go_wp2_with fail
  refine (W1.out _).mono ?_; rintro e w9 ⟨rfl, hw⟩; subst hw
  go_wp2_with fail
  refine (W2.out _).mono ?_; rintro e w9 ⟨rfl, hw⟩; subst hw
  go_wp2_with fail
  refine (W3.out _).mono ?_; rintro e w9 ⟨rfl, hw⟩; subst hw
  clear c0 c1
  go_wp2_with fail
  refine (SP1.out _ B1.out).mono ?_; rintro e w2 ⟨v2, rfl, o2, b2⟩
  have B2 := Lib.hid (below_next b2 B1.out); clear b2
  have O2 := Lib.hid o2; clear o2
  go_wp2_with fail
  refine (SP2.out _ _ _ O2.out).mono ?_; rintro e w3 ⟨v3, rfl, o3, b3⟩
  have B3 := Lib.hid (below_next b3 B2.out); clear b3
  have hz3 : w.heap.size ≤ w2.heap.size := B2.out.size
  have o3 := o3.mono hz3
  have F3 := Lib.hid (FD.out v3 w3 (lrow_of_owns o3))
  obtain ⟨g, cap, rfl, hgb, hqc, hcm, hch⟩ := chg_of_own o3 hq0
  rw [← SA0.out] at hch
  have CH := Lib.hid hch
  clear hch o3 SP1 SP2 FD SA0 O2 W1 W2 W3 C
  go_wp2_with fail
  refine F3.out.mono ?_; rintro e w4 ⟨rfl, b4⟩
  have B4 := Lib.hid (below_next b4 B3.out)
  have C4 := Lib.hid (CH.out.kept b4)
  clear b4 CH F3
  have LQ : Hid (∀ a, a < q.length → lv (addTo q f n k a) a = lv q a) := fun a ha => by rw [lv_addTo ha, if_neg (Nat.lt_irrefl a)]
  have AL : Hid (∀ a, (addTo q f n k a).length = q.length) := addTo_len q f n k
  go_wp2_with fail
  go_loopw [12] (fun i wr => ∃ a : Nat, i = .int .i64 a ∧ Hid (ChSt q f n k a) ∧ Hid (Chg wr g (addTo q f n k a) cap) ∧ Below w.heap.size w wr) (fun i _ => q.length - (RowKit.intOf i).toNat)
  case atStart => exact ⟨a0, rfl, ST0, C4, B4.out⟩
  case round =>
    obtain ⟨a, rfl, hst, hch, hB⟩ := hrel
    clear C4 B4 ST0
    have haq := hst.out.lt
    have haqi : (a : Int) < q.length := by omega
    have hac : a < cap := by omega
    obtain ⟨d0, d1⟩ := hch.out.cells a (by rw [AL.out]; exact haq)
    rw [LQ.out a haq] at d0 d1
    have hb := hqb.out a haq
    have HB := Lib.hid hB
    have hzb : w.heap.size ≤ wr.heap.size := hB.size
    clear hB
    by_cases hlt : (lv q a).1 < f + n
    · have t1 : decide ((lv q a).1 < f + n) = true := decide_eq_true hlt
      have hlen2 := AL.out a
      have hset := hch.out.set (zs := addTo q f n k (a + 1)) (a := a) (x := (lv q a).2 + k) (by rw [AL.out, AL.out]) (by omega) (by omega) (fun i hi => by
        rw [addTo_next hst.out hlt (by omega)]
        by_cases e : i = a
        · subst e; rw [if_pos rfl, if_pos rfl, LQ.out _ haq]
        · rw [if_neg e, if_neg e])
      have HSET := Lib.hid hset
      have f1 : wr.frozen? ⟨g, a * 2 + 1, none⟩ = false := by
        obtain ⟨cur, k1, k2⟩ := hch.out.blk
        exact k1.free _
      have hB5 := Lib.hid (HB.out.setCell hgb (p := ⟨g, a * 2 + 1, none⟩) (.int .i64 ((lv q a).2 + k)))
      have HO := Lib.hid (fun h => HOV.out (hst.out.over hlt h))
      have HN := Lib.hid (fun h => hst.out.next HQI.out HEQ.out hlt h)
      clear hset hlen2 CMP HOK hlt
      generalize lv q a = x at *
      obtain ⟨x1, x2⟩ := x
      dsimp only at *
      by_cases ho : overT (x2 + k)
      · have W0 : Hid (∀ w, Calls Try.prog 32 #[.int .i64 (x2 + k), .int .i64 0, .int .i64 1099511627776] w fun e w' => e = .returned (.bool false) ∧ w' = w) := fun w => within_eq _ _ _ _ (decide_eq_false (by unfold overT MaxT at ho; omega)) w
        have HR := Lib.hid (HO.out ho)
        clear HO HN ho HOV
        go_wp2_with fail
        refine (W0.out _).mono ?_; rintro e w9 ⟨rfl, hw⟩; subst hw
        go_wp2_with fail
        go_ret2
        exact ⟨_, by rw [HR.out]; rfl, by rw [HR.out]; exact ⟨rfl, .inl ⟨rfl, rfl⟩⟩, hB5.out⟩
      · have W0 : Hid (∀ w, Calls Try.prog 32 #[.int .i64 (x2 + k), .int .i64 0, .int .i64 1099511627776] w fun e w' => e = .returned (.bool true) ∧ w' = w) := fun w => within_eq _ _ _ _ (decide_eq_true (by unfold overT MaxT at ho; omega)) w
        have HR := Lib.hid (HN.out ho)
        clear HO HN ho HOV
        go_wp2_with fail
        refine (W0.out _).mono ?_; rintro e w9 ⟨rfl, hw⟩; subst hw
        go_wp2_with fail
        go_roundw
        case rel => exact ⟨a + 1, by first | rfl | go_num, HR, HSET, hB5.out⟩
        case measure => simp [RowKit.intOf]; omega
    · have hd := ChSt.done HQI.out hst.out (by omega)
      have t1 : decide ((lv q a).1 < f + n) = false := decide_eq_false hlt
      have hown := hch.out.own (base := w.heap.size) hgb (by rw [AL.out]; exact hqc) hcm
      rw [hd.1, ← hd.1, AL.out, hd.1] at hown
      have HO := Lib.hid hown
      have HR := Lib.hid (HOK.out hd.2)
      have CM := Lib.hid (CMP.out _ _ hzb hown)
      clear hown hd HOK HOV CMP
      go_wp2_with fail
      refine CM.out.mono ?_; rintro e w5 ⟨v5, rfl, o5, b5⟩
      have O5 := Lib.hid o5
      have B5 := Lib.hid (HB.out.trans b5)
      clear o5 b5
      go_wp2_with fail
      go_ret2
      exact ⟨_, by rw [HR.out]; rfl, by rw [HR.out]; exact O5.out, B5.out⟩

theorem LOwn.none (w : World) (base : Nat) : LOwn w base (.slice Option.none 0 0) [] := ⟨rfl, .inl ⟨rfl, rfl⟩⟩
set_option maxRecDepth 100000 in
set_option maxHeartbeats 4000000 in
theorem change_bad_any (v : Value) (xs : List Lv) (f n k : Int) (w : World) (hn : xs.length + 2 ≤ 1048576) (h : LRow w v xs) (hp : okP xs) (hb : badCh xs f n k) :
    Calls Try.prog 25 #[v, .int .i64 f, .int .i64 n, .int .i64 k] w
      fun e w' => e = .returned (.tuple #[.slice none 0 0, .int .i64 2]) ∧ Below w.heap.size w w' := by
  have hlen : 0 < xs.length := List.length_pos_iff.2 hp.1
  have hleni : (0 : Int) < xs.length := by omega
  have C := Lib.hid (check_any v xs w (by omega) h)
  rw [checkV_ok hp] at C
  have h00 := (hp.2 0 hlen).1.1
  unfold badCh MaxT at hb
  unfold MaxT at h00
  rcases h with ⟨rfl, _⟩ | ⟨b, off, c, rfl, _, r1, r2, hc⟩
  · exact absurd rfl hp.1
  have HC := Lib.hid hc
  clear hc hp
  by_cases h1 : (lv xs 0).1 ≤ f ∧ f ≤ 1099511627776
  · have W1 : Hid (∀ w, Calls Try.prog 32 #[.int .i64 f, .int .i64 (lv xs 0).1, .int .i64 1099511627776] w fun e w' => e = .returned (.bool true) ∧ w' = w) := fun w => within_eq _ _ _ _ (decide_eq_true h1) w
    by_cases h2 : 1 ≤ n ∧ n ≤ 1099511627776 - f
    · have W2 : Hid (∀ w, Calls Try.prog 32 #[.int .i64 n, .int .i64 1, .int .i64 (1099511627776 - f)] w fun e w' => e = .returned (.bool true) ∧ w' = w) := fun w => within_eq _ _ _ _ (decide_eq_true h2) w
      have W3 : Hid (∀ w, Calls Try.prog 32 #[.int .i64 k, .int .i64 (-1099511627776), .int .i64 1099511627776] w fun e w' => e = .returned (.bool false) ∧ w' = w) := fun w => within_eq _ _ _ _ (decide_eq_false (by omega)) w
      clear hb
      go_enter Try.func25, Try.ntmps25
      go_wp2_with fail
      refine C.out.mono ?_; rintro e w1 ⟨rfl, b1⟩
      obtain ⟨c0, c1⟩ := HC.out.at b1 hlen
      simp only [Nat.zero_mul, Nat.add_zero] at c0 c1
      go_wp2_with fail
      refine (W1.out _).mono ?_; rintro e w9 ⟨rfl, hw⟩; subst hw
      go_wp2_with fail
      refine (W2.out _).mono ?_; rintro e w9 ⟨rfl, hw⟩; subst hw
      go_wp2_with fail
      refine (W3.out _).mono ?_; rintro e w9 ⟨rfl, hw⟩; subst hw
      go_wp2_with fail
      go_ret2
      exact ⟨rfl, b1⟩
    · have W2 : Hid (∀ w, Calls Try.prog 32 #[.int .i64 n, .int .i64 1, .int .i64 (1099511627776 - f)] w fun e w' => e = .returned (.bool false) ∧ w' = w) := fun w => within_eq _ _ _ _ (decide_eq_false h2) w
      clear hb
      go_enter Try.func25, Try.ntmps25
      go_wp2_with fail
      refine C.out.mono ?_; rintro e w1 ⟨rfl, b1⟩
      obtain ⟨c0, c1⟩ := HC.out.at b1 hlen
      simp only [Nat.zero_mul, Nat.add_zero] at c0 c1
      go_wp2_with fail
      refine (W1.out _).mono ?_; rintro e w9 ⟨rfl, hw⟩; subst hw
      go_wp2_with fail
      refine (W2.out _).mono ?_; rintro e w9 ⟨rfl, hw⟩; subst hw
      go_wp2_with fail
      go_ret2
      exact ⟨rfl, b1⟩
  · have W1 : Hid (∀ w, Calls Try.prog 32 #[.int .i64 f, .int .i64 (lv xs 0).1, .int .i64 1099511627776] w fun e w' => e = .returned (.bool false) ∧ w' = w) := fun w => within_eq _ _ _ _ (decide_eq_false h1) w
    clear hb
    go_enter Try.func25, Try.ntmps25
    go_wp2_with fail
    refine C.out.mono ?_; rintro e w1 ⟨rfl, b1⟩
    obtain ⟨c0, c1⟩ := HC.out.at b1 hlen
    simp only [Nat.zero_mul, Nat.add_zero] at c0 c1
    go_wp2_with fail
    refine (W1.out _).mono ?_; rintro e w9 ⟨rfl, hw⟩; subst hw
    go_wp2_with fail
    go_ret2
    exact ⟨rfl, b1⟩
set_option maxRecDepth 100000 in
theorem change_no_any (v : Value) (xs : List Lv) (f n k : Int) (w : World) (hn : xs.length + 2 ≤ 1048576) (h : LRow w v xs) (hp : ¬ okP xs) :
    Calls Try.prog 25 #[v, .int .i64 f, .int .i64 n, .int .i64 k] w
      fun e w' => e = .returned (.tuple #[.slice none 0 0, .int .i64 50]) ∧ Below w.heap.size w w' := by
  have C := Lib.hid (check_any v xs w (by omega) h)
  rw [checkV_no hp] at C
  clear h hp
  go_enter Try.func25, Try.ntmps25
  go_wp2_with fail
  refine C.out.mono ?_; rintro e w1 ⟨rfl, b1⟩
  go_wp2_with fail
  go_ret2
  exact ⟨rfl, b1⟩
/-- profile.Change: at any levels. -/
theorem change_any (v : Value) (xs : List Lv) (f n k : Int) (w : World) (hn : xs.length + 2 ≤ 1048576) (h : LRow w v xs) :
    Calls Try.prog 25 #[v, .int .i64 f, .int .i64 n, .int .i64 k] w
      fun e w' => ∃ v', e = .returned (.tuple #[v', .int .i64 (changeV xs f n k).2]) ∧ LOwn w' w.heap.size v' (changeV xs f n k).1 ∧ Below w.heap.size w w' := by
  by_cases hp : okP xs
  · by_cases hb : badCh xs f n k
    · rw [change_bad hp hb]
      refine (change_bad_any v xs f n k w hn h hp hb).mono ?_; rintro e w' ⟨rfl, b⟩
      exact ⟨_, rfl, LOwn.none _ _, b⟩
    · exact change_main v xs f n k w hn h hp hb
  · rw [change_no hp]
    refine (change_no_any v xs f n k w hn h hp).mono ?_; rintro e w' ⟨rfl, b⟩
    exact ⟨_, rfl, LOwn.none _ _, b⟩
end Go.Proofs.Ytnbgipegfnpobaa
