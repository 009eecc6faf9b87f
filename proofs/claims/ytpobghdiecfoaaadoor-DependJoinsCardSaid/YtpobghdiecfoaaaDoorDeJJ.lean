/-
  depend.Jobs.
  gangerref08.Jobs.
-/
import Derived.Test.YtpobghdiecfoaaaDoorDeMC
import Derived.Test.YtpobghdiecfoaaaDoorDeCp
import Derived.Test.YtpobghdiecfoaaaDoorRwS
import Derived.Test.YtpobghdiecfoaaaDoorApp
import Derived.Test.YtpobghdiecfoaaaDoorDeD
import Derived.Test.YtpobghdiecfoaaaDoorSmJ
namespace Go.Proofs.YtpobghdiecfoaaaDoor
set_option linter.unusedVariables false

section
open Go Go.RowKit Go.Lib
theorem UOwn.lower {w : World} {b b' : Nat} {v : Value} {l : List Nat} (h : UOwn w b v l) (hb : b' ≤ b) : UOwn w b' v l := h.mono hb
def jobsAll (l : List NdM) : List Nat := l.flatMap fun p => p.2.2
theorem jobsAll_take (l : List NdM) {i : Nat} (h : i < l.length) : jobsAll (l.take (i + 1)) = jobsAll (l.take i) ++ l[i].2.2 := by
  unfold jobsAll; rw [List.take_add_one, List.getElem?_eq_getElem h, List.flatMap_append]
  simp only [Option.toList, List.flatMap_cons, List.flatMap_nil, List.append_nil]
/-- The jobs' row: strictly rising, those of a dependency. -/
def JobsTo (any : Bool) (l : List NdM) (os : List Nat) : Prop := os.Pairwise (· < ·) ∧ ∀ x, x ∈ os ↔ okD any (ndsOf l) ∧ x ∈ jobsAll l
theorem strict_eq : ∀ {xs ys : List Nat}, xs.Pairwise (· < ·) → ys.Pairwise (· < ·) → (∀ x, x ∈ xs ↔ x ∈ ys) → xs = ys
  | [], [], _, _, _ => rfl
  | [], y :: ys, _, _, h => by have := (h y).2 (List.mem_cons_self); cases this
  | x :: xs, [], _, _, h => by have := (h x).1 (List.mem_cons_self); cases this
  | x :: xs, y :: ys, hx, hy, h => by
    obtain ⟨hx1, hx2⟩ := List.pairwise_cons.1 hx
    obtain ⟨hy1, hy2⟩ := List.pairwise_cons.1 hy
    have e : x = y := by
      rcases List.mem_cons.1 ((h x).1 (List.mem_cons_self)) with e | e
      · exact e
      · rcases List.mem_cons.1 ((h y).2 (List.mem_cons_self)) with e2 | e2
        · exact e2.symm
        · have := hy1 x e; have := hx1 y e2; omega
    subst e
    rw [strict_eq hx2 hy2 (fun z => ?_)]
    constructor
    · intro hz
      rcases List.mem_cons.1 ((h z).1 (List.mem_cons_of_mem _ hz)) with e | e
      · subst e; have := hx1 z hz; omega
      · exact e
    · intro hz
      rcases List.mem_cons.1 ((h z).2 (List.mem_cons_of_mem _ hz)) with e | e
      · subst e; have := hy1 z hz; omega
      · exact e
theorem JobsTo.one {any : Bool} {l m : List NdM} {a b : List Nat} (h : JobsTo any l a) (k : JobsTo any m b) (e : ndsOf l = ndsOf m) : a = b := by
  refine strict_eq h.1 k.1 fun x => ?_
  rw [h.2, k.2, e]
  have hj : jobsAll l = jobsAll m := by
    have h1 : ∀ l : List NdM, jobsAll l = (ndsOf l).flatMap Prod.snd := fun l => by unfold jobsAll ndsOf toNd; rw [List.flatMap_map]
    rw [h1, h1, e]
  rw [hj]
set_option maxRecDepth 100000 in
set_option maxHeartbeats 8000000 in
theorem jobs_any (hS : SortU 1048576) (any : Bool) (v : Value) (l : List NdM) (w : World) (h : NRw w v l) :
    Calls Tryd.prog 16 #[.agg #[.bool any, v]] w fun e w' => (∃ v' os, e = .returned v' ∧ UOwn w' w.heap.size v' os ∧ JobsTo any l os) ∧ Below w.heap.size w w' := by
  obtain ⟨a, c, rfl⟩ := h.row.slice
  obtain ⟨gx, hgx⟩ : ∃ g, g = w.heap.size := ⟨_, rfl⟩
  obtain ⟨X, hX⟩ : ∃ X, X = w.alloc (.cells #[.bool any, .slice a l.length c] 24) := ⟨_, rfl⟩
  have hbX : Below w.heap.size w X := by rw [hX]; exact (Below.refl _ _).alloc (Nat.le_refl _) _
  have hbk : Blk X gx #[.bool any, .slice a l.length c] 24 := by rw [hX, hgx]; exact Blk.new w _ _
  have CK := Lib.hid (check_any any (.slice a l.length c) l X (h.kept hbX))
  obtain ⟨N, hN⟩ : ∃ N, N = l.length := ⟨_, rfl⟩
  have HN := Lib.hid hN
  have HL := Lib.hid (h.kept hbX)
  rw [← hN] at CK hX hbk ⊢
  have HBX := Lib.hid hbX
  have y0 := hbk.cell 0
  have y1 := hbk.cell 1
  simp at y0 y1
  have HXX := Lib.hid hX
  have HGX := Lib.hid hgx
  have HSU := Lib.hid hS
  clear h hN hbX hbk hX hgx hS
  by_cases hok : okD any (ndsOf l)
  · have hck : chkD any (ndsOf l) = 0 := by unfold chkD; rw [if_pos hok]
    rw [hck] at CK
    have HOK := Lib.hid hok
    have hN20 : N ≤ 20 := by have := hok.1; rw [ndsOf_len, ← HN.out] at this; exact this
    obtain ⟨i0, hi, hz0, hz1, hz2⟩ := info_parts Tryd.infoJob
    have HI := Lib.hid (And.intro hi (And.intro hz0 (And.intro hz1 hz2)))
    clear hck hok hi hz0 hz1 hz2
    go_enter Tryd.func16, Tryd.ntmps16
    go_upto_region 1 with fail
    rw [← HGX.out, ← HXX.out]
    go_wp2_with fail
    refine CK.out.mono ?_; rintro e w3 ⟨rfl, b1⟩
    have HB3 := Lib.hid b1
    clear b1 CK
    obtain ⟨B0, hB0⟩ : ∃ b, b = w3.heap.size := ⟨_, rfl⟩
    obtain ⟨Y, hY⟩ : ∃ Y, Y = w3.alloc (.cells #[] 38) := ⟨_, rfl⟩
    have HBY : Hid (Below w3.heap.size w3 Y) := by unfold Hid; rw [hY]; exact (Below.refl _ _).alloc (Nat.le_refl _) _
    have HMY : Hid (Y.ownsRow B0 38 1 (.slice (some ⟨w3.heap.size, 0, none⟩) 0 0) 0 []) := by unfold Hid; rw [hY, hB0]; exact World.ownsRow_made w3 #[] 0 (Nat.le_refl _) (Nat.zero_le _) (by simp)
    have HXY := Lib.hid (below_next HBY.out HB3.out)
    have yy1 := cell_next HXY.out y1
    go_upto_region 4 with fail
    rw [← hY]
    clear hY
    go_wp2_with fail
    go_loopw [3, 13] (fun sv iv wr => ∃ i : Nat, i ≤ N ∧ iv = .int .i64 (i : Nat) ∧ Hid ((jobsAll (l.take i)).length ≤ i * 20) ∧ Hid (wr.ownsRow B0 38 1 sv (jobsAll (l.take i)).length (uL (jobsAll (l.take i)))) ∧ Hid (Below w3.heap.size w3 wr)) (fun _ iv _ => N - (RowKit.intOf iv).toNat)
    case atStart => exact ⟨0, Nat.zero_le _, rfl, Nat.le_refl _, HMY.out, HBY.out⟩
    case round =>
      obtain ⟨i, hi, rfl, HLN, HO, HB⟩ := hrel
      by_cases hlt : i < N
      · have d1 : decide ((i : Int) < (N : Int)) = true := decide_eq_true (by omega)
        have d1' : decide (i < N) = true := decide_eq_true hlt
        have hii : (i : Int) < (N : Int) := by omega
        have hik : i < l.length := by rw [← HN.out]; exact hlt
        have HXr := Lib.hid (below_next HB.out HB3.out)
        obtain ⟨bb, off, e, x0, x1, hu, hul⟩ := NRw.at HL.out HXr.out hik
        subst e
        have hokn := okD_mem HOK.out (List.getElem_mem hik)
        have HT : Hid (jobsAll (l.take (i + 1)) = jobsAll (l.take i) ++ l[i].2.2) := jobsAll_take l hik
        obtain ⟨p, hp⟩ : ∃ p, p = l[i] := ⟨_, rfl⟩
        rw [← hp] at x0 x1 hu hul HT hokn
        obtain ⟨k, pv, js⟩ := p
        unfold toNd at hokn
        dsimp only at x0 x1 hu hul HT hokn
        have hj20 : js.length ≤ 20 := by
          rcases hokn with ⟨_, _, _, h4, _⟩ | ⟨_, h4⟩
          · exact h4
          · dsimp only at h4; omega
        obtain ⟨W, hW⟩ : ∃ W, W = wr.alloc (.cells #[.int .i64 k, pv] 46) := ⟨_, rfl⟩
        have hbW : Below wr.heap.size wr W := by rw [hW]; exact (Below.refl _ _).alloc (Nat.le_refl _) _
        have hbn : Blk W wr.heap.size #[.int .i64 k, pv] 46 := by rw [hW]; exact Blk.new _ _ _
        have SRC := Lib.hid (src_of_rowG uV_len (by decide) (hu.kept hbW))
        have z0 := hbn.cell 0
        have z1 := hbn.cell 1
        simp at z0 z1
        have HBW := Lib.hid (below_next hbW HB.out)
        have HOW := Lib.hid (own_older HO.out hbW)
        obtain ⟨pa, pc, rfl⟩ := hu.slice
        obtain ⟨M, hM⟩ : ∃ M, M = js.length := ⟨_, rfl⟩
        have HM := Lib.hid hM
        have hM20 : M ≤ 20 := by omega
        rw [← hM] at x1 z1 hW SRC
        obtain ⟨L, hL⟩ : ∃ L, L = (jobsAll (l.take i)).length := ⟨_, rfl⟩
        have HLL := Lib.hid hL
        have hL4 : L ≤ i * 20 := by rw [hL]; exact HLN.out
        rw [← hL] at HOW
        obtain ⟨hi0, hz0, hz1, hz2⟩ := HI.out
        have hBWs := HBW.out.size
        clear hu hul hp hbW hbn hM HO hokn hj20 hL HLN
        go_upto_region 7 with fail
        rw [← hW]
        clear hW x0 x1
        go_wp2_with (first | (at_builtin; refine wpList_app rfl _ _ 34 rfl B0 38 i0 _ 1 4 Tryd.underlying34 hi0 hz0 hz1 hz2 rfl (by decide) _ L (uL (jobsAll (l.take i))) rfl HOW.out _ M (js.flatMap uV) rfl SRC.out (uL_one js) (by unfold maxLen; omega) (by omega) (by rw [hB0]; omega) ?_; intro v8 w8 hown8 hgrow8 hat8))
        go_wp2_with fail
        go_roundw
        case rel =>
          refine ⟨i + 1, hlt, by go_num, ?_, ?_, HBW.out.grown hgrow8 HBW.out.size (fun q hq => by have := (HOW.out.lt q hq).1; omega)⟩
          · unfold Hid
            rw [HT.out, List.length_append, ← HLL.out, ← HM.out]; omega
          · unfold Hid
            have e : uL (jobsAll (l.take i) ++ js) = uL (jobsAll (l.take i)) ++ js.flatMap uV := by unfold uL; rw [List.flatMap_append]
            rw [HT.out, List.length_append, ← HLL.out, ← HM.out, e]
            exact hown8
        case measure => simp [RowKit.intOf]; omega
      · have d1 : decide ((i : Int) < (N : Int)) = false := decide_eq_false (by omega)
        have d1' : decide (i < N) = false := decide_eq_false hlt
        obtain rfl : i = N := by omega
        have hjt : l.take i = l := by rw [HN.out]; exact List.take_length
        have HO2 : Hid (UOwn wr B0 u3 (jobsAll l)) := by have h := HO.out; rw [hjt] at h; exact h
        have HL2 : Hid ((jobsAll l).length ≤ 400) := by have h := HLN.out; rw [hjt] at h; unfold Hid; omega
        have C := Lib.hid (HSU.out B0 u3 (jobsAll l) wr (by have := HL2.out; omega) HO2.out)
        have HFIN : Hid (∀ w5 (ys : List Nat), wr.grownBy w5 u3.ownBlock → ys.Perm (jobsAll l) → ∀ w6, Chg (fun q => u3.ownBlock = some q) w5 w6 → Below w.heap.size w w6) := fun w5 ys hg _ w6 hc => by
          have hb5 : Below w3.heap.size w3 w5 := HB.out.grown hg HB.out.size (fun q hq => by have := (HO2.out.lt q hq).1; omega)
          have hb6 : Below w3.heap.size w3 w6 := hb5.trans (hc.to_below hb5.size (fun q hq e => by have := (HO2.out.lt q e).1; omega))
          exact below_next (below_next hb6 HB3.out) HBX.out
        have hB0w : w.heap.size ≤ B0 := by rw [hB0]; exact Nat.le_trans HBX.out.size HB3.out.size
        have HB0W := Lib.hid hB0w
        obtain ⟨sa, sc, rfl⟩ := own_slice HO2.out
        clear HO HLN hjt HB hB0w
        go_wp2_with fail
        refine C.out.mono ?_; rintro e w5 ⟨rfl, ⟨ys, hp, hs, hoy⟩, hg5⟩
        have hyl : ys.length = (jobsAll l).length := hp.length_eq
        have CP := Lib.hid (compactU_any B0 _ ys w5 hoy hs (by have := HL2.out; omega))
        have HP := Lib.hid hp
        have HF2 := Lib.hid (HFIN.out w5 ys hg5 hp)
        clear hp hs hoy hg5 C HFIN hyl
        go_wp2_with fail
        refine CP.out.mono ?_; rintro e w6 ⟨v', os, rfl, ho6, hs6, hm6, hc6⟩
        have HB6 := Lib.hid (HF2.out w6 hc6)
        have HO6 := Lib.hid (UOwn.lower ho6 HB0W.out)
        have HJ6 : Hid (JobsTo any l os) := ⟨hs6, fun x => by rw [hm6, HP.out.mem_iff]; exact ⟨fun h => ⟨HOK.out, h⟩, fun h => h.2⟩⟩
        clear ho6 hs6 hm6 hc6 CP
        go_wp2_with fail
        go_ret
        exact ⟨⟨_, os, rfl, HO6.out, HJ6.out⟩, HB6.out⟩
  · have hck : chkD any (ndsOf l) = 2 := by unfold chkD; rw [if_neg hok]
    rw [hck] at CK
    have HJ : Hid (JobsTo any l []) := ⟨List.Pairwise.nil, fun x => by simp [hok]⟩
    clear hck hok
    go_enter Tryd.func16, Tryd.ntmps16
    go_upto_region 1 with fail
    rw [← HGX.out, ← HXX.out]
    go_wp2_with fail
    refine CK.out.mono ?_; rintro e w1 ⟨rfl, b1⟩
    have HB5 := Lib.hid (below_next b1 HBX.out)
    clear b1 CK
    go_wp2_with fail
    go_ret
    exact ⟨⟨_, [], rfl, ⟨rfl, .inl ⟨rfl, rfl⟩⟩, HJ.out⟩, HB5.out⟩
end

section
open Go Go.RowKit Go.Lib
theorem ins_one {os : List Nat} (hs : os.Pairwise (· < ·)) {m m' j : Nat} (h1 : m ≤ m') (h2 : m' ≤ os.length) (ha : ∀ q (h : q < os.length), q < m → os[q] < j) (hb : ∀ q (h : q < os.length), m ≤ q → q < m' → os[q] = j) (hc : ∀ q (h : q < os.length), m' ≤ q → j < os[q]) :
    (os.take m ++ j :: os.drop m').Pairwise (· < ·) ∧ ∀ x, x ∈ os.take m ++ j :: os.drop m' ↔ x ∈ os ∨ x = j := by
  have ht : ∀ x ∈ os.take m, x < j := fun x hx => by
    obtain ⟨q, hq, rfl⟩ := List.getElem_of_mem hx
    rw [List.length_take] at hq
    rw [List.getElem_take]
    exact ha q (by omega) (by omega)
  have hd : ∀ x ∈ os.drop m', j < x := fun x hx => by
    obtain ⟨q, hq, rfl⟩ := List.getElem_of_mem hx
    rw [List.length_drop] at hq
    rw [List.getElem_drop]
    exact hc (m' + q) (by omega) (by omega)
  constructor
  · rw [List.pairwise_append, List.pairwise_cons]
    refine ⟨hs.sublist (List.take_sublist _ _), ⟨hd, hs.sublist (List.drop_sublist _ _)⟩, fun x hx y hy => ?_⟩
    have h3 := ht x hx
    rcases List.mem_cons.1 hy with rfl | hy
    · exact h3
    · have := hd y hy; omega
  · intro x
    rw [List.mem_append, List.mem_cons]
    constructor
    · rintro (h | h | h)
      · exact .inl (List.mem_of_mem_take h)
      · exact .inr h
      · exact .inl (List.mem_of_mem_drop h)
    · rintro (h | h)
      · obtain ⟨q, hq, rfl⟩ := List.getElem_of_mem h
        by_cases c1 : q < m
        · exact .inl (List.mem_iff_getElem.2 ⟨q, by rw [List.length_take]; omega, by rw [List.getElem_take]⟩)
        · by_cases c2 : q < m'
          · exact .inr (.inl (hb q hq (by omega) c2))
          · exact .inr (.inr (List.mem_iff_getElem.2 ⟨q - m', by rw [List.length_drop]; omega, by rw [List.getElem_drop]; congr 1; omega⟩))
      · exact .inr (.inl h)
theorem addr_add8 (g o j : Nat) : (⟨g, o, none⟩ : Addr).add j = ⟨g, o + j, none⟩ := by
  unfold Addr.add
  split <;> simp_all
theorem uL_app (a b : List Nat) : uL (a ++ b) = uL a ++ uL b := by unfold uL; rw [List.flatMap_append]
/-- What is read from a place on. -/
theorem src_drop8 {w : World} {base g n cap m : Nat} {os : List Nat} (h : w.ownsRow base 38 1 (.slice (some ⟨g, 0, none⟩) n cap) n (uL os)) (hn : n = os.length) (hm : m ≤ n) (c : Nat) : Src w 1 (.slice (some ⟨g, m, none⟩) (n - m) c) (n - m) (uL (os.drop m)) := by
  refine ⟨by rw [uL_len, List.length_drop]; omega, .inr ⟨⟨g, m, none⟩, c, rfl, fun q u hq => ?_⟩⟩
  have hql : q < (os.drop m).length := by have := (List.getElem?_eq_some_iff.1 hq).1; rwa [uL_len] at this
  rw [uL_get hql] at hq
  injection hq with hq
  rw [← hq, addr_add8, List.getElem_drop]
  rw [List.length_drop] at hql
  exact u_cell h (by omega)
theorem uL_take8 (zs : List Nat) {k : Nat} (h : k < zs.length) : uL (zs.take (k + 1)) = uL (zs.take k) ++ [.int .u32 (zs[k] : Nat)] := by
  unfold uL; rw [List.take_add_one, List.getElem?_eq_getElem h, List.flatMap_append]; simp [uV]
theorem uL_one8 (x : Nat) : ∀ u ∈ [Value.int .u32 (x : Nat)], u.oneCell' = true := fun u hu => by rw [List.mem_singleton.1 hu]; rfl
set_option maxRecDepth 100000 in
set_option maxHeartbeats 8000000 in
theorem rjobs_any (any : Bool) (v : Value) (l : List NdM) (w : World) (h : NRw w v l) :
    Calls Tryd.prog 17 #[.agg #[.bool any, v]] w fun e w' => (∃ v' os, e = .returned v' ∧ UOwn w' w.heap.size v' os ∧ JobsTo any l os) ∧ Below w.heap.size w w' := by
  obtain ⟨a, c, rfl⟩ := h.row.slice
  obtain ⟨gx, hgx⟩ : ∃ g, g = w.heap.size := ⟨_, rfl⟩
  obtain ⟨X, hX⟩ : ∃ X, X = w.alloc (.cells #[.bool any, .slice a l.length c] 24) := ⟨_, rfl⟩
  have hbX : Below w.heap.size w X := by rw [hX]; exact (Below.refl _ _).alloc (Nat.le_refl _) _
  have hbk : Blk X gx #[.bool any, .slice a l.length c] 24 := by rw [hX, hgx]; exact Blk.new w _ _
  have CK := Lib.hid (rcheck_any any (.slice a l.length c) l X (h.kept hbX))
  obtain ⟨N, hN⟩ : ∃ N, N = l.length := ⟨_, rfl⟩
  have HN := Lib.hid hN
  have HL := Lib.hid (h.kept hbX)
  rw [← hN] at CK hX hbk ⊢
  have HBX := Lib.hid hbX
  have y0 := hbk.cell 0
  have y1 := hbk.cell 1
  simp at y0 y1
  have HXX := Lib.hid hX
  have HGX := Lib.hid hgx
  clear h hN hbX hbk hX hgx
  by_cases hok : okD any (ndsOf l)
  · have hck : chkD any (ndsOf l) = 0 := by unfold chkD; rw [if_pos hok]
    rw [hck] at CK
    have HOK := Lib.hid hok
    have hN20 : N ≤ 20 := by have := hok.1; rw [ndsOf_len, ← HN.out] at this; exact this
    obtain ⟨i0, hi, hz0, hz1, hz2⟩ := info_parts Tryd.infoJob
    have HI := Lib.hid (And.intro hi (And.intro hz0 (And.intro hz1 hz2)))
    clear hck hok hi hz0 hz1 hz2
    go_enter Tryd.func17, Tryd.ntmps17
    go_upto_region 1 with fail
    rw [← HGX.out, ← HXX.out]
    go_wp2_with fail
    refine CK.out.mono ?_; rintro e w3 ⟨rfl, b1⟩
    have HB3 := Lib.hid b1
    clear b1 CK
    obtain ⟨B0, hB0⟩ : ∃ b, b = X.heap.size := ⟨_, rfl⟩
    have HB0 := Lib.hid hB0
    clear hB0
    go_wp2_with fail
    go_loopw [3, 5] (fun sv iv wr => ∃ (i : Nat) (os : List Nat), iv = .int .i64 (i : Nat) ∧ i ≤ N ∧ Hid (UOwn wr B0 sv os) ∧ Hid (os.Pairwise (· < ·)) ∧ Hid (∀ x, x ∈ os ↔ x ∈ jobsAll (l.take i)) ∧ Hid (os.length ≤ i * 20) ∧ Hid (Below X.heap.size X wr)) (fun _ iv _ => N - (RowKit.intOf iv).toNat)
    case atStart => exact ⟨0, [], rfl, Nat.zero_le _, ⟨rfl, .inl ⟨rfl, rfl⟩⟩, List.Pairwise.nil, fun x => by simp [jobsAll], Nat.zero_le _, HB3.out⟩
    case round =>
      obtain ⟨i, os, rfl, hi, HO, HS, HM, HLN, HB⟩ := hrel
      have yy1 := cell_next HB.out y1
      by_cases hlt : i < N
      · have d1 : decide ((i : Int) < (N : Int)) = true := decide_eq_true (by omega)
        have d1' : decide (i < N) = true := decide_eq_true hlt
        have hii : (i : Int) < (N : Int) := by omega
        have hik : i < l.length := by rw [← HN.out]; exact hlt
        have HT : Hid (jobsAll (l.take (i + 1)) = jobsAll (l.take i) ++ l[i].2.2) := jobsAll_take l hik
        have hokn := okD_mem HOK.out (List.getElem_mem hik)
        have hj20 : l[i].2.2.length ≤ 20 := by
          rcases hokn with ⟨_, _, _, h4, _⟩ | ⟨_, h4⟩
          · exact h4
          · unfold toNd at h4; dsimp only at h4; omega
        obtain ⟨js, hjs⟩ : ∃ js, js = l[i].2.2 := ⟨_, rfl⟩
        obtain ⟨pv, hpv⟩ : ∃ p, p = l[i].2.1 := ⟨_, rfl⟩
        have HAT : Hid (∀ wq, Below X.heap.size X wq → ∃ b off, a = some ⟨b, off, none⟩ ∧ wq.cell? ⟨b, off + i * 2 + 1, none⟩ = some pv ∧ URow wq pv js) := fun wq hb => by
          obtain ⟨b, off, e, _, x1, hu, _⟩ := NRw.at HL.out hb hik
          rw [← hpv] at x1 hu
          rw [← hjs] at hu
          exact ⟨b, off, e, x1, hu⟩
        rw [← hjs] at HT hj20
        obtain ⟨bb, off, ea, _, hu0⟩ := HAT.out X (Below.refl _ _)
        obtain ⟨pa, pc, hpe⟩ := hu0.slice
        obtain ⟨M, hMM⟩ : ∃ M, M = js.length := ⟨_, rfl⟩
        have HMM := Lib.hid hMM
        rw [← hMM] at hpe hj20
        subst ea
        subst hpe
        have HAT2 : Hid (∀ wq, Below X.heap.size X wq → wq.cell? ⟨bb, off + i * 2 + 1, none⟩ = some (.slice pa M pc) ∧ URow wq (.slice pa M pc) js) := fun wq hb => by
          obtain ⟨b, o, e, x1, hu⟩ := HAT.out wq hb
          injection e with e; injection e with e1 e2; subst e1; subst e2
          exact ⟨x1, hu⟩
        clear hjs hpv hokn hu0 hMM HAT
        obtain ⟨wv, hwv⟩ : ∃ x, x = wr := ⟨_, rfl⟩
        subst hwv
        go_wp2_with fail
        go_loopw [3, 6] (fun sv kv wr => ∃ (k : Nat) (os : List Nat), kv = .int .i64 (k : Nat) ∧ k ≤ M ∧ Hid (UOwn wr B0 sv os) ∧ Hid (os.Pairwise (· < ·)) ∧ Hid (∀ x, x ∈ os ↔ x ∈ jobsAll (l.take i) ∨ x ∈ js.take k) ∧ Hid (os.length ≤ i * 20 + k) ∧ Hid (Below X.heap.size X wr)) (fun _ kv _ => M - (RowKit.intOf kv).toNat)
        case atStart => exact ⟨0, os, rfl, Nat.zero_le _, HO.out, HS.out, fun x => by rw [HM.out]; simp, HLN.out, HB.out⟩
        case round =>
          clear HO HS HM HLN HB yy1
          obtain ⟨k, os, rfl, hk, HO, HS, HM, HLN, HB⟩ := hrel
          have yy1 := cell_next HB.out y1
          obtain ⟨x1, hu⟩ := HAT2.out wr HB.out
          by_cases hkl : k < M
          · have j1 : decide ((k : Int) < (M : Int)) = true := decide_eq_true (by omega)
            have j1' : decide (k < M) = true := decide_eq_true hkl
            have jii : (k : Int) < (M : Int) := by omega
            have hkj : k < js.length := by rw [← HMM.out]; exact hkl
            obtain ⟨b2, off2, e, hc2⟩ := RowG.at hu hkj
            subst e
            have u0 := hc2 wr (Below.refl _ _) 0 _ rfl
            simp only [Nat.mul_one, Nat.add_zero] at u0
            have HTK : Hid (∀ x, x ∈ js.take (k + 1) ↔ x ∈ js.take k ∨ x = js[k]) := fun x => take_mem hkj x
            obtain ⟨j, hj⟩ : ∃ x, x = js[k] := ⟨_, rfl⟩
            rw [← hj] at u0 HTK
            obtain ⟨oa, oc, rfl⟩ := own_slice HO.out
            obtain ⟨L, hL⟩ : ∃ L, L = os.length := ⟨_, rfl⟩
            have HLL := Lib.hid hL
            have hL4 : L ≤ i * 20 + k := by rw [hL]; exact HLN.out
            have HOO : Hid (wr.ownsRow B0 38 1 (.slice oa L oc) L (uL os)) := by unfold Hid; rw [hL]; exact HO.out
            have hcap : (oa = none ∧ L = 0 ∧ oc = 0) ∨ ∃ g, oa = some ⟨g, 0, none⟩ ∧ L ≤ oc ∧ oc ≤ maxLen := by
              obtain ⟨_, ⟨e, h0⟩ | ⟨g, cap, cur, e, _, _, h1, h2, _⟩⟩ := HOO.out
              · injection e with e1 e2 e3; exact .inl ⟨e1, h0, e3⟩
              · injection e with e1 e2 e3; subst e1; subst e3; exact .inr ⟨g, rfl, h1, h2⟩
            have HCAP := Lib.hid hcap
            rw [← hL]
            clear hc2 hu hj hL HO HLN hcap
            obtain ⟨BL, hBL⟩ : ∃ b, b = wr.heap.size := ⟨_, rfl⟩
            have HBL := Lib.hid hBL
            clear hBL
            obtain ⟨wS, hwS⟩ : ∃ x, x = wr := ⟨_, rfl⟩
            subst hwS
            have hB0L : B0 ≤ BL := by rw [HB0.out, HBL.out]; exact HB.out.size
            go_wp2_with fail
            go_loopw [8, 9] (fun lv mv wr => ∃ m : Nat, mv = .int .i64 (m : Nat) ∧ m ≤ L ∧ Hid (∀ q (h : q < os.length), q < m → os[q] < j) ∧ Hid (wr.ownsRow BL 38 1 lv m (uL (os.take m))) ∧ Hid (Below wS.heap.size wS wr)) (fun _ mv _ => L - (RowKit.intOf mv).toNat)
            case atStart => exact ⟨0, rfl, Nat.zero_le _, fun q _ h => by omega, ⟨rfl, .inl ⟨rfl, rfl⟩⟩, Below.refl _ _⟩
            case round =>
              obtain ⟨m, rfl, hm, HF, HOL, HBm⟩ := hrel
              have HOm := Lib.hid (own_older HOO.out HBm.out)
              have hBLm : BL ≤ wr.heap.size := by rw [HBL.out]; exact HBm.out.size
              by_cases hml : m < L
              · have m1 : decide ((m : Int) < (L : Int)) = true := decide_eq_true (by omega)
                have m1' : decide (m < L) = true := decide_eq_true hml
                have mii : (m : Int) < (L : Int) := by omega
                have hmo : m < os.length := by rw [← HLL.out]; exact hml
                obtain ⟨g, hg⟩ : ∃ g, oa = some ⟨g, 0, none⟩ := by
                  rcases HCAP.out with ⟨_, h, _⟩ | ⟨g, h, _⟩
                  · omega
                  · exact ⟨g, h⟩
                subst hg
                have o0 := u_cell HOm.out hmo
                have HFM : Hid (os[m] < j → ∀ q (h : q < os.length), q < m + 1 → os[q] < j) := fun hh q h h2 => by
                  by_cases e : q = m
                  · subst e; exact hh
                  · exact HF.out q h (by omega)
                have HGM : Hid (¬ os[m] < j → os[m] ≠ j → ∀ q (h : q < os.length), m ≤ q → j < os[q]) := fun h1 h2 q h h3 => by
                  by_cases e : q = m
                  · subst e; omega
                  · have := List.pairwise_iff_getElem.1 HS.out m q hmo h (by omega); omega
                have HEM : Hid (os[m] = j → (∀ q (h : q < os.length), m ≤ q → q < m + 1 → os[q] = j) ∧ ∀ q (h : q < os.length), m + 1 ≤ q → j < os[q]) := fun h1 => ⟨fun q h h2 h3 => by
                  have e : q = m := by omega
                  subst e; exact h1, fun q h h2 => by have := List.pairwise_iff_getElem.1 HS.out m q hmo h (by omega); omega⟩
                have HTM : Hid (uL (os.take (m + 1)) = uL (os.take m) ++ [.int .u32 (os[m] : Nat)]) := uL_take8 os hmo
                obtain ⟨o, ho⟩ : ∃ o, o = os[m] := ⟨_, rfl⟩
                rw [← ho] at o0 HFM HGM HEM HTM
                clear ho
                by_cases hoj : o < j
                · have q1 : decide ((o : Int) < (j : Int)) = true := decide_eq_true (by omega)
                  have q1' : decide (o < j) = true := decide_eq_true hoj
                  have HF2 := Lib.hid (HFM.out hoj)
                  obtain ⟨hi0, hz0, hz1, hz2⟩ := HI.out
                  clear HFM HGM HEM
                  go_wp2_with (first | (at_builtin; refine wpList_app rfl _ _ 34 rfl BL 38 i0 _ 1 4 Tryd.underlying34 hi0 hz0 hz1 hz2 rfl (by decide) _ m (uL (os.take m)) rfl (HOL.out.alloc _) _ 1 [.int .u32 (o : Nat)] rfl ⟨rfl, .inr ⟨_, _, rfl, news_alloc wr [.int .u32 (o : Nat)] _⟩⟩ (uL_one8 o) (by unfold maxLen; omega) (by omega) (by simp; omega) ?_; intro v8 w8 hown8 hgrow8 hat8))
                  go_wp2_with fail
                  go_roundw
                  case rel => exact ⟨m + 1, by go_num, hml, HF2.out, by unfold Hid; rw [HTM.out]; exact hown8, (HBm.out.alloc HBm.out.size _).grown hgrow8 (by have := HBm.out.size; simp; omega) (fun q hq => by have h1 := (HOL.out.lt q hq).1; rw [HBL.out] at h1; exact h1)⟩
                  case measure => simp [RowKit.intOf]; omega
                · have q1 : decide ((o : Int) < (j : Int)) = false := decide_eq_false (by omega)
                  have q1' : decide (o < j) = false := decide_eq_false hoj
                  by_cases hej : o = j
                  · have q2 : ((o : Int) == (j : Int)) = true := by simp; omega
                    have q2' : (o == j) = true := by simp; exact hej
                    have HIN := Lib.hid (ins_one HS.out (m := m) (m' := m + 1) (j := j) (by omega) (by omega) HF.out (HEM.out hej).1 (HEM.out hej).2)
                    obtain ⟨m', hm'⟩ : ∃ x, x = m + 1 := ⟨_, rfl⟩
                    have e9 : (m : Int) + 1 = (m' : Int) := by omega
                    have e9' : IntKind.i64.wrap (m' : Int) = (m' : Int) := by rw [IntKind.wrap_i64]; omega
                    rw [← hm'] at HIN
                    have hmL : m' ≤ L := by omega
                    have hmm : m ≤ m' := by omega
                    clear hm' HFM HGM HEM HTM
                    obtain ⟨hi0, hz0, hz1, hz2⟩ := HI.out
                    have hLb : L ≤ 1048576 := by omega
                    have HNX : Hid (∀ v8 w8 o, w8.ownsRow BL 38 1 v8 (m + 1) (uL (os.take m) ++ [.int .u32 (j : Nat)]) → (wr.alloc o).grownBy w8 u8.ownBlock → Hid (w8.ownsRow BL 38 1 v8 (m + 1) (uL (os.take m) ++ [.int .u32 (j : Nat)])) ∧ Hid (Below wS.heap.size wS w8)) := fun v8 w8 o h1 h2 =>
                      ⟨h1, (HBm.out.alloc HBm.out.size _).grown h2 (by have := HBm.out.size; simp; omega) (fun q hq => by have h1 := (HOL.out.lt q hq).1; rw [HBL.out] at h1; exact h1)⟩
                    go_upto_region 18 with (first | (at_builtin; refine wpList_app rfl _ _ 34 rfl BL 38 i0 _ 1 4 Tryd.underlying34 hi0 hz0 hz1 hz2 rfl (by decide) _ m (uL (os.take m)) rfl (HOL.out.alloc _) _ 1 [.int .u32 (j : Nat)] rfl ⟨rfl, .inr ⟨_, _, rfl, news_alloc wr [.int .u32 (j : Nat)] _⟩⟩ (uL_one8 j) (by unfold maxLen; omega) (by omega) (by simp; omega) ?_; intro v8 w8 hown8 hgrow8 hat8; obtain ⟨HO8, HB8⟩ := HNX.out v8 w8 _ hown8 hgrow8; clear hown8 hgrow8 hat8))
                    have hBL8 : BL ≤ w8.heap.size := by rw [HBL.out]; exact HB8.out.size
                    obtain ⟨a8, c8, rfl⟩ := own_slice HO8.out
                    have HOo8 := Lib.hid (own_older HOO.out HB8.out)
                    have HEND : Hid (∀ v9 w9, w9.ownsRow BL 38 1 v9 (m + 1 + (L - m')) ((uL (os.take m) ++ [.int .u32 (j : Nat)]) ++ uL (os.drop m')) → w8.grownBy w9 (Value.slice a8 (m + 1) c8).ownBlock → ∃ (k' : Nat) (os' : List Nat), Value.int .i64 ((k : Int) + 1) = .int .i64 (k' : Nat) ∧ k' ≤ M ∧ Hid (UOwn w9 B0 v9 os') ∧ Hid (os'.Pairwise (· < ·)) ∧ Hid (∀ x, x ∈ os' ↔ x ∈ jobsAll (l.take i) ∨ x ∈ js.take k') ∧ Hid (os'.length ≤ i * 20 + k') ∧ Hid (Below X.heap.size X w9)) := fun v9 w9 h1 h2 => by
                      have hl : (os.take m ++ j :: os.drop m').length = m + 1 + (L - m') := by
                        rw [List.length_append, List.length_cons, List.length_take, List.length_drop]
                        have := HLL.out
                        omega
                      have hb9 : Below wS.heap.size wS w9 := HB8.out.grown h2 HB8.out.size (fun q hq => by have h1 := (HO8.out.lt q hq).1; rw [HBL.out] at h1; exact h1)
                      refine ⟨k + 1, _, by rw [Int.natCast_add]; rfl, hkl, UOwn.lower ?_ hB0L, HIN.out.1, fun x => ?_, by unfold Hid; rw [hl]; omega, below_next hb9 HB.out⟩
                      · unfold UOwn
                        rw [hl, show os.take m ++ j :: os.drop m' = (os.take m ++ [j]) ++ os.drop m' by simp, uL_app, uL_app]
                        exact h1
                      · rw [HIN.out.2, HM.out, HTK.out, or_assoc]
                    clear HNX HOL HIN HF
                    have hoc : L ≤ oc ∧ oc ≤ maxLen := by
                      rcases HCAP.out with ⟨_, h, _⟩ | ⟨g', h, h1⟩
                      · omega
                      · exact h1
                    have hocb : oc ≤ 9223372036854775807 := by have := hoc.2; unfold maxLen at this; omega
                    have hoc1 := hoc.1
                    clear hoc
                    by_cases hmc : m' < oc
                    · have e1 : decide ((m' : Int) < (oc : Int)) = true := decide_eq_true (by omega)
                      have hmi : (m' : Int) ≤ (L : Int) := by omega
                      have HSRC := Lib.hid (src_drop8 HOo8.out HLL.out hmL (oc - m'))
                      clear HOo8 HOO HOm
                      go_wp2_with (first | (at_builtin; refine wpList_app rfl _ _ 34 rfl BL 38 i0 _ 1 4 Tryd.underlying34 hi0 hz0 hz1 hz2 rfl (by decide) _ (m + 1) _ rfl HO8.out _ (L - m') (uL (os.drop m')) rfl HSRC.out (uL_one _) (by unfold maxLen; omega) (by omega) hBL8 ?_; intro v9 w9 hown9 hgrow9 hat9; have HE := Lib.hid (HEND.out v9 w9 hown9 hgrow9); clear hown9 hgrow9 hat9))
                      go_wp2_with fail
                      go_roundw
                      case rel => exact HE.out
                      case measure => simp [RowKit.intOf]; omega
                    · have hmo' : oc = m' := by omega
                      have hLm' : L = m' := by omega
                      have e1 : decide ((m' : Int) < (oc : Int)) = false := decide_eq_false (by omega)
                      have HSRC : Hid (Src w8 1 (.slice (some ⟨g, 0, none⟩) 0 0) 0 (uL (os.drop m'))) := by
                        have e : os.drop m' = [] := by rw [← hLm', HLL.out]; exact List.drop_length
                        unfold Hid
                        rw [e]
                        exact ⟨rfl, .inr ⟨⟨g, 0, none⟩, 0, rfl, fun j u hj => by simp [uL] at hj⟩⟩
                      rw [hLm', Nat.sub_self] at HEND
                      rw [hLm', hmo']
                      clear HOo8 HOO HOm hmo' hLm'
                      go_wp2_with (first | (at_builtin; refine wpList_app rfl _ _ 34 rfl BL 38 i0 _ 1 4 Tryd.underlying34 hi0 hz0 hz1 hz2 rfl (by decide) _ (m + 1) _ rfl HO8.out _ 0 (uL (os.drop m')) rfl HSRC.out (uL_one _) (by unfold maxLen; omega) (by omega) hBL8 ?_; intro v9 w9 hown9 hgrow9 hat9; have HE := Lib.hid (HEND.out v9 w9 hown9 hgrow9); clear hown9 hgrow9 hat9))
                      go_wp2_with fail
                      go_roundw
                      case rel => exact HE.out
                      case measure => simp [RowKit.intOf]; omega
                  · have q2 : ((o : Int) == (j : Int)) = false := by simp; omega
                    have q2' : (o == j) = false := by simp; exact hej
                    have HIN := Lib.hid (ins_one HS.out (m := m) (m' := m) (j := j) (Nat.le_refl _) (by omega) HF.out (fun q _ h h2 => by omega) (HGM.out hoj hej))
                    obtain ⟨m', hm'⟩ : ∃ x, x = m := ⟨_, rfl⟩
                    rw [← hm'] at HIN
                    clear HFM HGM HEM HTM
                    subst hm'
                    have hmL : m' ≤ L := by omega
                    have hmm : m' ≤ m' := Nat.le_refl _
                    obtain ⟨hi0, hz0, hz1, hz2⟩ := HI.out
                    have hLb : L ≤ 1048576 := by omega
                    have HNX : Hid (∀ v8 w8 o, w8.ownsRow BL 38 1 v8 (m' + 1) (uL (os.take m') ++ [.int .u32 (j : Nat)]) → (wr.alloc o).grownBy w8 u8.ownBlock → Hid (w8.ownsRow BL 38 1 v8 (m' + 1) (uL (os.take m') ++ [.int .u32 (j : Nat)])) ∧ Hid (Below wS.heap.size wS w8)) := fun v8 w8 o h1 h2 =>
                      ⟨h1, (HBm.out.alloc HBm.out.size _).grown h2 (by have := HBm.out.size; simp; omega) (fun q hq => by have h1 := (HOL.out.lt q hq).1; rw [HBL.out] at h1; exact h1)⟩
                    go_upto_region 18 with (first | (at_builtin; refine wpList_app rfl _ _ 34 rfl BL 38 i0 _ 1 4 Tryd.underlying34 hi0 hz0 hz1 hz2 rfl (by decide) _ m' (uL (os.take m')) rfl (HOL.out.alloc _) _ 1 [.int .u32 (j : Nat)] rfl ⟨rfl, .inr ⟨_, _, rfl, news_alloc wr [.int .u32 (j : Nat)] _⟩⟩ (uL_one8 j) (by unfold maxLen; omega) (by omega) (by simp; omega) ?_; intro v8 w8 hown8 hgrow8 hat8; obtain ⟨HO8, HB8⟩ := HNX.out v8 w8 _ hown8 hgrow8; clear hown8 hgrow8 hat8))
                    have hBL8 : BL ≤ w8.heap.size := by rw [HBL.out]; exact HB8.out.size
                    obtain ⟨a8, c8, rfl⟩ := own_slice HO8.out
                    have HOo8 := Lib.hid (own_older HOO.out HB8.out)
                    have HEND : Hid (∀ v9 w9, w9.ownsRow BL 38 1 v9 (m' + 1 + (L - m')) ((uL (os.take m') ++ [.int .u32 (j : Nat)]) ++ uL (os.drop m')) → w8.grownBy w9 (Value.slice a8 (m' + 1) c8).ownBlock → ∃ (k' : Nat) (os' : List Nat), Value.int .i64 ((k : Int) + 1) = .int .i64 (k' : Nat) ∧ k' ≤ M ∧ Hid (UOwn w9 B0 v9 os') ∧ Hid (os'.Pairwise (· < ·)) ∧ Hid (∀ x, x ∈ os' ↔ x ∈ jobsAll (l.take i) ∨ x ∈ js.take k') ∧ Hid (os'.length ≤ i * 20 + k') ∧ Hid (Below X.heap.size X w9)) := fun v9 w9 h1 h2 => by
                      have hl : (os.take m' ++ j :: os.drop m').length = m' + 1 + (L - m') := by
                        rw [List.length_append, List.length_cons, List.length_take, List.length_drop]
                        have := HLL.out
                        omega
                      have hb9 : Below wS.heap.size wS w9 := HB8.out.grown h2 HB8.out.size (fun q hq => by have h1 := (HO8.out.lt q hq).1; rw [HBL.out] at h1; exact h1)
                      refine ⟨k + 1, _, by rw [Int.natCast_add]; rfl, hkl, UOwn.lower ?_ hB0L, HIN.out.1, fun x => ?_, by unfold Hid; rw [hl]; omega, below_next hb9 HB.out⟩
                      · unfold UOwn
                        rw [hl, show os.take m' ++ j :: os.drop m' = (os.take m' ++ [j]) ++ os.drop m' by simp, uL_app, uL_app]
                        exact h1
                      · rw [HIN.out.2, HM.out, HTK.out, or_assoc]
                    clear HNX HOL HIN HF
                    have hoc : L ≤ oc ∧ oc ≤ maxLen := by
                      rcases HCAP.out with ⟨_, h, _⟩ | ⟨g', h, h1⟩
                      · omega
                      · exact h1
                    have hocb : oc ≤ 9223372036854775807 := by have := hoc.2; unfold maxLen at this; omega
                    have hoc1 := hoc.1
                    clear hoc
                    by_cases hmc : m' < oc
                    · have e1 : decide ((m' : Int) < (oc : Int)) = true := decide_eq_true (by omega)
                      have hmi : (m' : Int) ≤ (L : Int) := by omega
                      have HSRC := Lib.hid (src_drop8 HOo8.out HLL.out hmL (oc - m'))
                      clear HOo8 HOO HOm
                      go_wp2_with (first | (at_builtin; refine wpList_app rfl _ _ 34 rfl BL 38 i0 _ 1 4 Tryd.underlying34 hi0 hz0 hz1 hz2 rfl (by decide) _ (m' + 1) _ rfl HO8.out _ (L - m') (uL (os.drop m')) rfl HSRC.out (uL_one _) (by unfold maxLen; omega) (by omega) hBL8 ?_; intro v9 w9 hown9 hgrow9 hat9; have HE := Lib.hid (HEND.out v9 w9 hown9 hgrow9); clear hown9 hgrow9 hat9))
                      go_wp2_with fail
                      go_roundw
                      case rel => exact HE.out
                      case measure => simp [RowKit.intOf]; omega
                    · have hmo' : oc = m' := by omega
                      have hLm' : L = m' := by omega
                      have e1 : decide ((m' : Int) < (oc : Int)) = false := decide_eq_false (by omega)
                      have HSRC : Hid (Src w8 1 (.slice (some ⟨g, 0, none⟩) 0 0) 0 (uL (os.drop m'))) := by
                        have e : os.drop m' = [] := by rw [← hLm', HLL.out]; exact List.drop_length
                        unfold Hid
                        rw [e]
                        exact ⟨rfl, .inr ⟨⟨g, 0, none⟩, 0, rfl, fun j u hj => by simp [uL] at hj⟩⟩
                      rw [hLm', Nat.sub_self] at HEND
                      rw [hLm', hmo']
                      clear HOo8 HOO HOm hmo' hLm'
                      go_wp2_with (first | (at_builtin; refine wpList_app rfl _ _ 34 rfl BL 38 i0 _ 1 4 Tryd.underlying34 hi0 hz0 hz1 hz2 rfl (by decide) _ (m' + 1) _ rfl HO8.out _ 0 (uL (os.drop m')) rfl HSRC.out (uL_one _) (by unfold maxLen; omega) (by omega) hBL8 ?_; intro v9 w9 hown9 hgrow9 hat9; have HE := Lib.hid (HEND.out v9 w9 hown9 hgrow9); clear hown9 hgrow9 hat9))
                      go_wp2_with fail
                      go_roundw
                      case rel => exact HE.out
                      case measure => simp [RowKit.intOf]; omega
              · have m1 : decide ((m : Int) < (L : Int)) = false := decide_eq_false (by omega)
                have m1' : decide (m < L) = false := decide_eq_false hml
                have HIN := Lib.hid (ins_one HS.out (m := m) (m' := m) (j := j) (Nat.le_refl _) (by have := HLL.out; omega) HF.out (fun q _ h h2 => by omega) (fun q h h2 => by have := HLL.out; omega))
                obtain ⟨m', hm'⟩ : ∃ x, x = m := ⟨_, rfl⟩
                rw [← hm'] at HIN
                subst hm'
                have hmL : m' ≤ L := by omega
                have hmm : m' ≤ m' := Nat.le_refl _
                obtain ⟨hi0, hz0, hz1, hz2⟩ := HI.out
                have hLb : L ≤ 1048576 := by omega
                have HNX : Hid (∀ v8 w8 o, w8.ownsRow BL 38 1 v8 (m' + 1) (uL (os.take m') ++ [.int .u32 (j : Nat)]) → (wr.alloc o).grownBy w8 u8.ownBlock → Hid (w8.ownsRow BL 38 1 v8 (m' + 1) (uL (os.take m') ++ [.int .u32 (j : Nat)])) ∧ Hid (Below wS.heap.size wS w8)) := fun v8 w8 o h1 h2 =>
                  ⟨h1, (HBm.out.alloc HBm.out.size _).grown h2 (by have := HBm.out.size; simp; omega) (fun q hq => by have h1 := (HOL.out.lt q hq).1; rw [HBL.out] at h1; exact h1)⟩
                go_upto_region 18 with (first | (at_builtin; refine wpList_app rfl _ _ 34 rfl BL 38 i0 _ 1 4 Tryd.underlying34 hi0 hz0 hz1 hz2 rfl (by decide) _ m' (uL (os.take m')) rfl (HOL.out.alloc _) _ 1 [.int .u32 (j : Nat)] rfl ⟨rfl, .inr ⟨_, _, rfl, news_alloc wr [.int .u32 (j : Nat)] _⟩⟩ (uL_one8 j) (by unfold maxLen; omega) (by omega) (by simp; omega) ?_; intro v8 w8 hown8 hgrow8 hat8; obtain ⟨HO8, HB8⟩ := HNX.out v8 w8 _ hown8 hgrow8; clear hown8 hgrow8 hat8))
                have hBL8 : BL ≤ w8.heap.size := by rw [HBL.out]; exact HB8.out.size
                obtain ⟨a8, c8, rfl⟩ := own_slice HO8.out
                have HOo8 := Lib.hid (own_older HOO.out HB8.out)
                have HEND : Hid (∀ v9 w9, w9.ownsRow BL 38 1 v9 (m' + 1 + (L - m')) ((uL (os.take m') ++ [.int .u32 (j : Nat)]) ++ uL (os.drop m')) → w8.grownBy w9 (Value.slice a8 (m' + 1) c8).ownBlock → ∃ (k' : Nat) (os' : List Nat), Value.int .i64 ((k : Int) + 1) = .int .i64 (k' : Nat) ∧ k' ≤ M ∧ Hid (UOwn w9 B0 v9 os') ∧ Hid (os'.Pairwise (· < ·)) ∧ Hid (∀ x, x ∈ os' ↔ x ∈ jobsAll (l.take i) ∨ x ∈ js.take k') ∧ Hid (os'.length ≤ i * 20 + k') ∧ Hid (Below X.heap.size X w9)) := fun v9 w9 h1 h2 => by
                  have hl : (os.take m' ++ j :: os.drop m').length = m' + 1 + (L - m') := by
                    rw [List.length_append, List.length_cons, List.length_take, List.length_drop]
                    have := HLL.out
                    omega
                  have hb9 : Below wS.heap.size wS w9 := HB8.out.grown h2 HB8.out.size (fun q hq => by have h1 := (HO8.out.lt q hq).1; rw [HBL.out] at h1; exact h1)
                  refine ⟨k + 1, _, by rw [Int.natCast_add]; rfl, hkl, UOwn.lower ?_ hB0L, HIN.out.1, fun x => ?_, by unfold Hid; rw [hl]; omega, below_next hb9 HB.out⟩
                  · unfold UOwn
                    rw [hl, show os.take m' ++ j :: os.drop m' = (os.take m' ++ [j]) ++ os.drop m' by simp, uL_app, uL_app]
                    exact h1
                  · rw [HIN.out.2, HM.out, HTK.out, or_assoc]
                clear HNX HOL HIN HF
                have HCAP2 := HCAP.out
                clear HCAP
                rcases HCAP2 with ⟨rfl, hL0, rfl⟩ | ⟨g, rfl, hoc1, hoc2⟩
                · have hm0 : m' = 0 := by omega
                  subst hL0
                  subst hm0
                  have HSRC : Hid (Src w8 1 (.slice none 0 0) 0 (uL (os.drop 0))) := by
                    have e : os.drop 0 = [] := List.eq_nil_of_length_eq_zero (by rw [List.length_drop]; have := HLL.out; omega)
                    unfold Hid
                    rw [e]
                    exact ⟨rfl, .inl ⟨0, rfl, rfl⟩⟩
                  clear HOo8 HOO HOm
                  go_wp2_with (first | (at_builtin; refine wpList_app rfl _ _ 34 rfl BL 38 i0 _ 1 4 Tryd.underlying34 hi0 hz0 hz1 hz2 rfl (by decide) _ (0 + 1) _ rfl HO8.out _ 0 (uL (os.drop 0)) rfl HSRC.out (uL_one _) (by unfold maxLen; omega) (by omega) hBL8 ?_; intro v9 w9 hown9 hgrow9 hat9; have HE := Lib.hid (HEND.out v9 w9 hown9 hgrow9); clear hown9 hgrow9 hat9))
                  go_wp2_with fail
                  go_roundw
                  case rel => exact HE.out
                  case measure => simp [RowKit.intOf]; omega
                · have hocb : oc ≤ 9223372036854775807 := by unfold maxLen at hoc2; omega
                  clear hoc2
                  by_cases hmc : m' < oc
                  · have e1 : decide ((m' : Int) < (oc : Int)) = true := decide_eq_true (by omega)
                    have hmi : (m' : Int) ≤ (L : Int) := by omega
                    have HSRC := Lib.hid (src_drop8 HOo8.out HLL.out hmL (oc - m'))
                    clear HOo8 HOO HOm
                    go_wp2_with (first | (at_builtin; refine wpList_app rfl _ _ 34 rfl BL 38 i0 _ 1 4 Tryd.underlying34 hi0 hz0 hz1 hz2 rfl (by decide) _ (m' + 1) _ rfl HO8.out _ (L - m') (uL (os.drop m')) rfl HSRC.out (uL_one _) (by unfold maxLen; omega) (by omega) hBL8 ?_; intro v9 w9 hown9 hgrow9 hat9; have HE := Lib.hid (HEND.out v9 w9 hown9 hgrow9); clear hown9 hgrow9 hat9))
                    go_wp2_with fail
                    go_roundw
                    case rel => exact HE.out
                    case measure => simp [RowKit.intOf]; omega
                  · have hmo' : oc = m' := by omega
                    have hLm' : L = m' := by omega
                    have e1 : decide ((m' : Int) < (oc : Int)) = false := decide_eq_false (by omega)
                    have HSRC : Hid (Src w8 1 (.slice (some ⟨g, 0, none⟩) 0 0) 0 (uL (os.drop m'))) := by
                      have e : os.drop m' = [] := by rw [← hLm', HLL.out]; exact List.drop_length
                      unfold Hid
                      rw [e]
                      exact ⟨rfl, .inr ⟨⟨g, 0, none⟩, 0, rfl, fun j u hj => by simp [uL] at hj⟩⟩
                    rw [hLm', Nat.sub_self] at HEND
                    rw [hLm', hmo']
                    clear HOo8 HOO HOm hmo' hLm'
                    go_wp2_with (first | (at_builtin; refine wpList_app rfl _ _ 34 rfl BL 38 i0 _ 1 4 Tryd.underlying34 hi0 hz0 hz1 hz2 rfl (by decide) _ (m' + 1) _ rfl HO8.out _ 0 (uL (os.drop m')) rfl HSRC.out (uL_one _) (by unfold maxLen; omega) (by omega) hBL8 ?_; intro v9 w9 hown9 hgrow9 hat9; have HE := Lib.hid (HEND.out v9 w9 hown9 hgrow9); clear hown9 hgrow9 hat9))
                    go_wp2_with fail
                    go_roundw
                    case rel => exact HE.out
                    case measure => simp [RowKit.intOf]; omega
          · have j1 : decide ((k : Int) < (M : Int)) = false := decide_eq_false (by omega)
            have j1' : decide (k < M) = false := decide_eq_false hkl
            have hkM : k = js.length := by rw [← HMM.out]; omega
            have HMT : Hid (∀ x, x ∈ os ↔ x ∈ jobsAll (l.take (i + 1))) := fun x => by
              rw [HM.out, HT.out, List.mem_append, hkM, List.take_length]
            have HLT : Hid (os.length ≤ (i + 1) * 20) := by have := HLN.out; unfold Hid; omega
            clear HM HLN hkM
            go_wp2_with fail
            go_roundw
            case rel => exact ⟨i + 1, os, by go_num, hlt, HO.out, HS.out, HMT.out, HLT.out, HB.out⟩
            case measure => simp [RowKit.intOf]; omega
      · have d1 : decide ((i : Int) < (N : Int)) = false := decide_eq_false (by omega)
        have d1' : decide (i < N) = false := decide_eq_false hlt
        obtain rfl : i = N := by omega
        have HJ : Hid (JobsTo any l os) := ⟨HS.out, fun x => by rw [HM.out, HN.out, List.take_length]; exact ⟨fun h => ⟨HOK.out, h⟩, fun h => h.2⟩⟩
        have HO2 : Hid (UOwn wr w.heap.size u3 os) := UOwn.lower HO.out (by rw [HB0.out]; exact HBX.out.size)
        have HBW : Hid (Below w.heap.size w wr) := below_next HB.out HBX.out
        clear HO HM HS HLN
        go_wp2_with fail
        go_ret
        exact ⟨⟨_, os, rfl, HO2.out, HJ.out⟩, HBW.out⟩
  · have hck : chkD any (ndsOf l) = 2 := by unfold chkD; rw [if_neg hok]
    rw [hck] at CK
    have HJ : Hid (JobsTo any l []) := ⟨List.Pairwise.nil, fun x => by simp [hok]⟩
    clear hck hok
    go_enter Tryd.func17, Tryd.ntmps17
    go_upto_region 1 with fail
    rw [← HGX.out, ← HXX.out]
    go_wp2_with fail
    refine CK.out.mono ?_; rintro e w1 ⟨rfl, b1⟩
    have HB5 := Lib.hid (below_next b1 HBX.out)
    have HB1 := Lib.hid b1
    clear b1 CK
    go_wp2_with fail
    have yy1 := cell_next HB1.out y1
    clear HB1
    refine wp_loop_rounds 1 ?_; rw [rounds_succ]
    rcases Nat.eq_zero_or_pos N with h0 | h0
    · have q1 : decide ((0 : Int) < (N : Int)) = false := decide_eq_false (by omega)
      have q2 : decide (0 < N) = false := decide_eq_false (by omega)
      clear h0
      go_wp2_with fail
      go_ret
      exact ⟨⟨_, [], rfl, ⟨rfl, .inl ⟨rfl, rfl⟩⟩, HJ.out⟩, HB5.out⟩
    · have q1 : decide ((0 : Int) < (N : Int)) = true := decide_eq_true (by omega)
      have q2 : decide (0 < N) = true := decide_eq_true (by omega)
      clear h0
      go_wp2_with fail
      go_ret
      exact ⟨⟨_, [], rfl, ⟨rfl, .inl ⟨rfl, rfl⟩⟩, HJ.out⟩, HB5.out⟩
end

end Go.Proofs.YtpobghdiecfoaaaDoor
