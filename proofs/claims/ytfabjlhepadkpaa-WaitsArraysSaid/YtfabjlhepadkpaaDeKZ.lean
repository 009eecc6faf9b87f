/-
  slices.Clone at api.Where, and the row sorted: what is known.
  depend.Say.
-/
import Derived.Test.YtfabjlhepadkpaaStF
import Derived.Test.YtfabjlhepadkpaaDeHXY
import Derived.Test.YtfabjlhepadkpaaRwS
import Derived.Test.YtfabjlhepadkpaaApp
import Derived.Test.YtfabjlhepadkpaaNums
import Derived.Lib.SliceRun
import Derived.Test.YtfabjlhepadkpaaDeMC
namespace Go.Proofs.Ytfabjlhepadkpaa
set_option linter.unusedVariables false

section
open Go Go.RowKit Go.Lib
def whV (p : Wh) : List Value := [.int .u32 (p.1 : Nat), .int .i64 p.2]
theorem whV_len (p : Wh) : (whV p).length = 2 := rfl
theorem whV_one (l : List Wh) : ∀ u ∈ l.flatMap whV, u.oneCell' = true := fun u hu => by
  obtain ⟨x, _, h⟩ := List.mem_flatMap.1 hu
  simp [whV] at h; rcases h with rfl | rfl <;> rfl
abbrev WOwn (w : World) (base : Nat) (v : Value) (l : List Wh) : Prop := w.ownsRow base 68 2 v l.length (l.flatMap whV)
theorem ws_of_own {w : World} {base g n cap : Nat} {l : List Wh} (h : w.ownsRow base 68 2 (.slice (some ⟨g, 0, none⟩) n cap) l.length (l.flatMap whV)) : WS w g l.length (jfL l) (hfL l) (fun k => k) w := by
  have hr : RowG 2 whV w (.slice (some ⟨g, 0, none⟩) n cap) l := rowG_of_own whV_len h
  obtain ⟨_, ⟨e, _⟩ | ⟨g', cap', cur, e, hb, hg, h1, h2, h3, h4⟩⟩ := h
  · cases e
  · injection e with e1 e2 e3
    injection e1 with e1
    injection e1 with e1
    subst e1
    have hB : Blk w g cur 68 := hg
    refine ⟨⟨cur, _, hB, fun k hk => ?_⟩, Chg.refl _ _⟩
    obtain ⟨b, off, e, hc⟩ := RowG.at hr hk
    injection e with e; injection e with e4 e5; subst e4; subst e5
    have c0 := hc w (Below.refl _ _) 0 _ rfl
    have c1 := hc w (Below.refl _ _) 1 _ rfl
    rw [Nat.zero_add, Nat.add_zero] at c0
    rw [Nat.zero_add] at c1
    rw [hB.cell] at c0 c1
    rw [jfL_at hk, hfL_at hk]
    exact ⟨c0, c1⟩
theorem insW_nil (a : Option Addr) (c : Nat) (w : World) :
    Calls Try.prog 65 #[.slice a 0 c, .int .i64 0, .int .i64 0, .func (.func 48) #[] #[]] w fun e w' => e = .returned (.tuple #[]) ∧ w' = w := by
  go_enter Try.func65, Try.ntmps65
  go_wp2_with fail
  refine wp_loop_rounds 1 ?_; rw [rounds_succ]
  go_wp2_with fail
  go_returns
  exact ⟨rfl, rfl⟩
theorem stable_nil (a : Option Addr) (c : Nat) (w : World) :
    Calls Try.prog 56 #[.slice a 0 c, .int .i64 0, .func (.func 48) #[] #[]] w fun e w' => e = .returned (.tuple #[]) ∧ w' = w := by
  have C := Lib.hid (insW_nil a c w)
  go_enter Try.func56, Try.ntmps56
  go_wp2_with fail
  refine wp_loop_rounds 1 ?_; rw [rounds_succ]
  go_wp2_with fail
  refine C.out.mono ?_; rintro e w1 ⟨rfl, hw⟩
  replace hw := hw.symm; subst hw
  go_wp2_with fail
  refine wp_loop_rounds 1 ?_; rw [rounds_succ]
  go_wp2_with fail
  go_returns
  exact ⟨rfl, rfl⟩
theorem stableFunc_nil (a : Option Addr) (c : Nat) (w : World) :
    Calls Try.prog 47 #[.slice a 0 c, .func (.func 48) #[] #[]] w fun e w' => e = .returned (.tuple #[]) ∧ w' = w := by
  have C := Lib.hid (stable_nil a c w)
  go_enter Try.func47, Try.ntmps47
  go_wp2_with fail
  refine C.out.mono ?_; rintro e w1 ⟨rfl, hw⟩
  replace hw := hw.symm; subst hw
  go_wp2_with fail
  go_returns
  exact ⟨rfl, rfl⟩
theorem sortK_any (base : Nat) (v : Value) (l : List Wh) (w : World) (h : WOwn w base v l) (hb : base ≤ w.heap.size) (hn : l.length ≤ 4194304) :
    Calls Try.prog 47 #[v, .func (.func 48) #[] #[]] w fun e w' => e = .returned (.tuple #[]) ∧ Known w' v l ∧ Below base w w' := by
  rcases Nat.eq_zero_or_pos l.length with h0 | h0
  · obtain ⟨a, c, rfl⟩ := own_slice h
    have hl : l = [] := List.eq_nil_of_length_eq_zero h0
    rw [h0]
    refine (stableFunc_nil a c w).mono ?_
    rintro e w' ⟨rfl, rfl⟩
    exact ⟨rfl, ⟨.inl ⟨hl, a, c, rfl⟩, hn⟩, Below.refl _ _⟩
  · have h' := h
    obtain ⟨_, ⟨e, h2⟩ | ⟨g, cap, cur, rfl, hbg, hg, _⟩⟩ := h'
    · omega
    · refine (stableFunc_any w g l.length cap (jfL l) (hfL l) w (ws_of_own h) hn).mono ?_
      rintro e w' ⟨rfl, D, hw, hg2⟩
      exact ⟨rfl, ⟨.inr ⟨g, cap, D, w, rfl, h0, hw, hg2⟩, hn⟩, hw.chg.to_below hb (fun k hk e => by have : k = g := e; omega)⟩
theorem Try.infoWh : (Try.prog.info? 68).map (fun i => (i.zero, i.size, i.bytes)) = some (some (.agg #[.int .u32 0, .int .i64 0]), 2, 16) := by kernel_rfl
set_option maxRecDepth 100000 in
theorem cloneW_any (v : Value) (l : List Wh) (w : World) (hn : l.length ≤ 1048576) (h : RowG 2 whV w v l) :
    Calls Try.prog 46 #[v] w fun e w' => (∃ v', e = .returned v' ∧ WOwn w' w.heap.size v' l) ∧ Below w.heap.size w w' := by
  obtain ⟨i0, hi, hz0, hz1, hz2⟩ := info_parts Try.infoWh
  have SRC := Lib.hid (src_of_rowG whV_len (by decide) h)
  obtain ⟨a, c, rfl⟩ := RowG.slice h
  cases a with
  | none =>
    have hl : l = [] := by
      rcases h with ⟨rfl, _⟩ | ⟨b, off, c', h1, _⟩
      · rfl
      · cases h1
    subst hl
    have q : ∀ (w : World) (n c n' c' : Nat), (binOp .eql 66 (.slice none n c) (.slice none n' c')).run Try.prog w = .ok (.bool true) w := fun w n c n' c' => Lib.run_eql_slice_nil w _ _ none n c n' c' Try.underlying66
    clear SRC h
    go_enter Try.func46, Try.ntmps46
    go_wp2_with fail
    go_ret
    exact ⟨⟨_, rfl, ⟨rfl, .inl ⟨rfl, rfl⟩⟩⟩, Below.refl _ _⟩
  | some a =>
    have q : ∀ (w : World) (a : Addr) (n c n' c' : Nat), (binOp .eql 66 (.slice (some a) n c) (.slice none n' c')).run Try.prog w = .ok (.bool false) w := fun w a n c n' c' => Lib.run_eql_slice_nil w _ _ (some a) n c n' c' Try.underlying66
    obtain ⟨N, hN⟩ : ∃ N, N = l.length := ⟨_, rfl⟩
    rw [← hN] at SRC hn ⊢
    have HN := Lib.hid hN
    clear h hN
    go_enter Try.func46, Try.ntmps46
    go_wp2_with (at_builtin; refine wpList_app rfl _ _ 66 rfl w.heap.size 68 i0 _ 2 16 Try.underlying66 hi hz0 hz1 hz2 rfl (by decide) _ 0 [] rfl (World.ownsRow_made w #[] 0 (Nat.le_refl _) (Nat.zero_le _) (by simp)) _ N (l.flatMap whV) rfl (SRC.out.kept ((Below.refl _ _).alloc (Nat.le_refl _) _)) (whV_one l) (by unfold maxLen; omega) (by omega) (by simp) ?_; intro v5 w5 hown5 hgrow5 _)
    go_wp2_with fail
    go_ret
    rw [Nat.zero_add, List.nil_append, HN.out] at hown5
    exact ⟨⟨v5, rfl, hown5⟩, ((Below.refl _ w).alloc (Nat.le_refl _) _).grown hgrow5 (by simp) (fun k hk => by
      have e : some w.heap.size = some k := hk
      injection e with e
      omega)⟩
end

section
open Go Go.RowKit Go.Lib
theorem sayNs_take (alone : Bool) (wl : List Wh) (l : List NdM) {i : Nat} (h : i < l.length) : (ndsOf (l.take (i + 1))).map (sayN alone wl) = (ndsOf (l.take i)).map (sayN alone wl) ++ [sayN alone wl (toNd l[i])] := by
  unfold ndsOf; rw [List.map_map, List.map_map, List.take_add_one, List.getElem?_eq_getElem h, List.map_append]; rfl
set_option maxRecDepth 100000 in
set_option maxHeartbeats 8000000 in
theorem say_any (any : Bool) (v : Value) (l : List NdM) (lv : Value) (wl : List Wh) (alone : Bool) (w : World) (h : NRw w v l) (hw : RowG 2 whV w lv wl) (hwn : wl.length ≤ 1048576) :
    Calls Try.prog 39 #[.agg #[.bool any, v], lv, .bool alone] w fun e w' => e = .returned (.int .i64 (sayB any alone wl (ndsOf l))) ∧ Below w.heap.size w w' := by
  obtain ⟨a, c, rfl⟩ := h.row.slice
  obtain ⟨la, lc, rfl⟩ := hw.slice
  obtain ⟨r, hr⟩ : ∃ r, r = sayB any alone wl (ndsOf l) := ⟨_, rfl⟩
  have HR := Lib.hid hr
  rw [← hr]
  obtain ⟨gx, hgx⟩ : ∃ g, g = w.heap.size := ⟨_, rfl⟩
  obtain ⟨X, hX⟩ : ∃ X, X = w.alloc (.cells #[.bool any, .slice a l.length c] 35) := ⟨_, rfl⟩
  have hbX : Below w.heap.size w X := by rw [hX]; exact (Below.refl _ _).alloc (Nat.le_refl _) _
  have hbk : Blk X gx #[.bool any, .slice a l.length c] 35 := by rw [hX, hgx]; exact Blk.new w _ _
  have CK := Lib.hid (check_any any (.slice a l.length c) l X (h.kept hbX))
  obtain ⟨N, hN⟩ : ∃ N, N = l.length := ⟨_, rfl⟩
  have HN := Lib.hid hN
  have HL := Lib.hid (h.kept hbX)
  obtain ⟨LW, hLW⟩ : ∃ N, N = wl.length := ⟨_, rfl⟩
  have HLW := Lib.hid hLW
  have HWL := Lib.hid (hw.kept hbX)
  rw [← hN] at CK hX hbk ⊢
  rw [← hLW] at hwn ⊢
  have HBX := Lib.hid hbX
  have HBK := Lib.hid hbk
  have y0 := hbk.cell 0
  have y1 := hbk.cell 1
  simp at y0 y1
  have HXX := Lib.hid hX
  have HGX := Lib.hid hgx
  have hln := h.len
  rw [← hN] at hln
  clear h hw hr hN hLW hbX hbk hX hgx
  by_cases hok : okD any (ndsOf l)
  · have hck : chkD any (ndsOf l) = 0 := by unfold chkD; rw [if_pos hok]
    rw [hck] at CK
    have HOK := Lib.hid hok
    have HRD : Hid (r = sayD any alone wl (ndsOf l)) := by unfold Hid; rw [HR.out]; unfold sayB; rw [if_pos hok]
    have hN20 : N ≤ 20 := by have := hok.1; rw [ndsOf_len, ← HN.out] at this; exact this
    obtain ⟨i0, hi, hz0, hz1, hz2⟩ := info_parts Try.infoNum
    have HI := Lib.hid (And.intro hi (And.intro hz0 (And.intro hz1 hz2)))
    clear hck hok HR hi hz0 hz1 hz2
    go_enter Try.func39, Try.ntmps39
    go_upto_region 1 with fail
    rw [← HGX.out, ← HXX.out]
    go_wp2_with fail
    refine CK.out.mono ?_; rintro e w1 ⟨rfl, b1⟩
    have HB1 := Lib.hid b1
    have CL := Lib.hid (cloneW_any (.slice la wl.length lc) wl w1 (by rw [← HLW.out]; exact hwn) (HWL.out.kept b1))
    rw [← HLW.out] at CL
    clear b1 CK
    go_wp2_with fail
    refine CL.out.mono ?_; rintro e w2 ⟨⟨kv, rfl, ok⟩, b2⟩
    have SO := Lib.hid (sortK_any w1.heap.size kv wl w2 ok b2.size (by rw [← HLW.out]; omega))
    obtain ⟨ka, kc, rfl⟩ := own_slice ok
    have HB2 := Lib.hid b2
    rw [← HLW.out] at SO ⊢
    clear ok b2 CL
    go_wp2_with fail
    refine SO.out.mono ?_; rintro e w3 ⟨rfl, hkn, b3⟩
    have HKN := Lib.hid hkn
    have HB3 : Hid (Below X.heap.size X w3) := below_next (HB2.out.trans b3) HB1.out
    clear hkn b3 SO HB2 HB1
    obtain ⟨B0, hB0⟩ : ∃ b, b = w3.heap.size := ⟨_, rfl⟩
    obtain ⟨Y, hY⟩ : ∃ Y, Y = w3.alloc (.cells #[] 3) := ⟨_, rfl⟩
    have HBY : Hid (Below w3.heap.size w3 Y) := by unfold Hid; rw [hY]; exact (Below.refl _ _).alloc (Nat.le_refl _) _
    have HMY : Hid (Y.ownsRow B0 3 1 (.slice (some ⟨w3.heap.size, 0, none⟩) 0 0) 0 []) := by unfold Hid; rw [hY, hB0]; exact World.ownsRow_made w3 #[] 0 (Nat.le_refl _) (Nat.zero_le _) (by simp)
    have HXY := Lib.hid (below_next HBY.out HB3.out)
    have yy1 := cell_next HXY.out y1
    go_upto_region 6 with fail
    rw [← hY]
    clear hY
    go_wp2_with fail
    go_loopw [8, 22] (fun sv iv wr => ∃ i : Nat, i ≤ N ∧ iv = .int .i64 (i : Nat) ∧ Hid (wr.ownsRow B0 3 1 sv i (numsL ((ndsOf (l.take i)).map (sayN alone wl)))) ∧ Hid (Below w3.heap.size w3 wr)) (fun _ iv _ => N - (RowKit.intOf iv).toNat)
    case atStart => exact ⟨0, Nat.zero_le _, rfl, HMY.out, HBY.out⟩
    case round =>
      obtain ⟨i, hi, rfl, HO, HB⟩ := hrel
      by_cases hlt : i < N
      · have d1 : decide ((i : Int) < (N : Int)) = true := decide_eq_true (by omega)
        have d1' : decide (i < N) = true := decide_eq_true hlt
        have hii : (i : Int) < (N : Int) := by omega
        have hik : i < l.length := by rw [← HN.out]; exact hlt
        have HXr := Lib.hid (below_next HB.out HB3.out)
        obtain ⟨bb, off, e, x0, x1, hu, hul⟩ := NRw.at HL.out HXr.out hik
        subst e
        have hokn := okD_mem HOK.out (List.getElem_mem hik)
        have HT : Hid ((ndsOf (l.take (i + 1))).map (sayN alone wl) = (ndsOf (l.take i)).map (sayN alone wl) ++ [sayN alone wl (toNd l[i])]) := sayNs_take alone wl l hik
        obtain ⟨p, hp⟩ : ∃ p, p = l[i] := ⟨_, rfl⟩
        rw [← hp] at x0 x1 hu hul HT hokn
        obtain ⟨k, pv, js⟩ := p
        unfold toNd at HT hokn
        dsimp only at x0 x1 hu hul HT hokn
        obtain ⟨W, hW⟩ : ∃ W, W = wr.alloc (.cells #[.int .i64 k, pv] 58) := ⟨_, rfl⟩
        have hbW : Below wr.heap.size wr W := by rw [hW]; exact (Below.refl _ _).alloc (Nat.le_refl _) _
        have hbn : Blk W wr.heap.size #[.int .i64 k, pv] 58 := by rw [hW]; exact Blk.new _ _ _
        have C := Lib.hid (sayNeed_any k pv js (.slice ka LW kc) wl alone W (hu.kept hbW) hul hokn (HKN.out.kept (below_next hbW HB.out)))
        have z0 := hbn.cell 0
        have z1 := hbn.cell 1
        simp at z0 z1
        have HBW := Lib.hid (below_next hbW HB.out)
        have HOW := Lib.hid (own_older HO.out hbW)
        obtain ⟨pa, pc, rfl⟩ := hu.slice
        obtain ⟨M, hM⟩ : ∃ M, M = js.length := ⟨_, rfl⟩
        obtain ⟨os, hos⟩ : ∃ o, o = sayN alone wl (k, js) := ⟨_, rfl⟩
        rw [← hos] at C HT
        rw [← hM] at x1 C z1 hW
        clear hu hul hp hbW hbn hM HO hokn hos
        go_upto_region 9 with fail
        rw [← hW]
        clear hW x0 x1
        go_wp2_with fail
        refine C.out.mono ?_; rintro e w5 ⟨rfl, b5⟩
        have HO5 := Lib.hid (own_older HOW.out b5)
        have HB5 := Lib.hid (below_next b5 HBW.out)
        obtain ⟨hi0, hz0, hz1, hz2⟩ := HI.out
        have hB5s := HB5.out.size
        clear b5 C z0 z1 HOW HBW
        go_wp2_with (first | (at_builtin; refine wpList_app rfl _ _ 30 rfl B0 3 i0 _ 1 8 Try.underlying30 hi0 hz0 hz1 hz2 rfl (by decide) _ i (numsL ((ndsOf (l.take i)).map (sayN alone wl))) rfl (HO5.out.alloc _) _ 1 [.int .i64 os] rfl ⟨rfl, .inr ⟨_, _, rfl, news_alloc w5 [.int .i64 os] _⟩⟩ (by simp [Value.oneCell']) (by unfold maxLen; omega) (by omega) (by rw [hB0]; simp; omega) ?_; intro v8 w8 hown8 hgrow8 hat8))
        go_wp2_with fail
        go_roundw
        case rel =>
          refine ⟨i + 1, hlt, by go_num, ?_, (HB5.out.alloc HB5.out.size _).grown hgrow8 (by have := HB5.out.size; simp; omega) (fun q hq => by have := (HO5.out.lt q hq).1; omega)⟩
          unfold Hid
          rw [HT.out, numsL_app]
          exact hown8
        case measure => simp [RowKit.intOf]; omega
      · have d1 : decide ((i : Int) < (N : Int)) = false := decide_eq_false (by omega)
        have d1' : decide (i < N) = false := decide_eq_false hlt
        obtain rfl : i = N := by omega
        have hjt : l.take i = l := by rw [HN.out]; exact List.take_length
        obtain ⟨S, hS⟩ : ∃ S, S = (ndsOf l).map (sayN alone wl) := ⟨_, rfl⟩
        have hsl : S.length = i := by rw [hS, List.length_map, ndsOf_len, HN.out]
        have HO2 : Hid (NOwn wr B0 u8 S) := by
          have h := HO.out
          rw [hjt, ← hS] at h
          unfold Hid NOwn
          rw [hsl]
          exact h
        have HSD : Hid (r = if any = true then best3 S else worst S) := by unfold Hid; rw [HRD.out, hS]; rfl
        have HRW := Lib.hid (nrow_of_own HO2.out)
        obtain ⟨sa, sc, rfl⟩ := own_slice HO2.out
        rw [hsl] at HRW ⊢
        have HXr := Lib.hid (below_next HB.out HB3.out)
        have ww0 := cell_next HXr.out y0
        have FO : Hid (∀ x y z W, Below wr.heap.size wr W → Blk W wr.heap.size #[.int .i64 x, .int .i64 y, .int .i64 z] 3 → Calls Try.prog 51 #[.slice sa i sc, .slice (some ⟨wr.heap.size, 0, none⟩) 3 3] W fun e w' => e = .returned (.int .i64 (pick3 S x y z)) ∧ Below W.heap.size W w') := fun x y z W hb hB => firstOf_any _ S wr.heap.size x y z W (HRW.out.kept hb) (by rw [hsl]; omega) hB
        clear HO HO2 HRW hjt hS hsl HRD
        cases any with
        | true =>
          obtain ⟨Z, hZ⟩ : ∃ Z, Z = wr.alloc (.cells #[.int .i64 2, .int .i64 1, .int .i64 3] 3) := ⟨_, rfl⟩
          have hbz : Below wr.heap.size wr Z := by rw [hZ]; exact (Below.refl _ _).alloc (Nat.le_refl _) _
          have C := Lib.hid (FO.out 2 1 3 Z hbz (by rw [hZ]; exact Blk.new _ _ _))
          have HE : Hid (r = pick3 S 2 1 3) := by unfold Hid; rw [HSD.out]; rfl
          have HBZ := Lib.hid (below_next (below_next hbz HXr.out) HBX.out)
          clear hbz FO HSD
          go_wp2_with fail
          rw [← hZ]
          refine C.out.mono ?_; rintro e w5 ⟨rfl, b5⟩
          have HB5 := Lib.hid (below_next b5 HBZ.out)
          clear b5 C hZ
          go_wp2_with fail
          go_ret
          exact ⟨by rw [HE.out]; rfl, HB5.out⟩
        | false =>
          obtain ⟨Z, hZ⟩ : ∃ Z, Z = wr.alloc (.cells #[.int .i64 3, .int .i64 1, .int .i64 2] 3) := ⟨_, rfl⟩
          have hbz : Below wr.heap.size wr Z := by rw [hZ]; exact (Below.refl _ _).alloc (Nat.le_refl _) _
          have C := Lib.hid (FO.out 3 1 2 Z hbz (by rw [hZ]; exact Blk.new _ _ _))
          have HE : Hid (r = pick3 S 3 1 2) := by unfold Hid; rw [HSD.out]; rfl
          have HBZ := Lib.hid (below_next (below_next hbz HXr.out) HBX.out)
          clear hbz FO HSD
          go_wp2_with fail
          rw [← hZ]
          refine C.out.mono ?_; rintro e w5 ⟨rfl, b5⟩
          have HB5 := Lib.hid (below_next b5 HBZ.out)
          clear b5 C hZ
          go_wp2_with fail
          go_ret
          exact ⟨by rw [HE.out]; rfl, HB5.out⟩
  · have hck : chkD any (ndsOf l) = 2 := by unfold chkD; rw [if_neg hok]
    rw [hck] at CK
    have HE : Hid (r = 0) := by unfold Hid; rw [HR.out]; unfold sayB; rw [if_neg hok]
    clear hck hok HR
    go_enter Try.func39, Try.ntmps39
    go_upto_region 1 with fail
    rw [← HGX.out, ← HXX.out]
    go_wp2_with fail
    refine CK.out.mono ?_; rintro e w1 ⟨rfl, b1⟩
    have HB5 := Lib.hid (below_next b1 HBX.out)
    clear b1 CK
    go_wp2_with fail
    go_ret
    exact ⟨by rw [HE.out]; rfl, HB5.out⟩
end

end Go.Proofs.Ytfabjlhepadkpaa
