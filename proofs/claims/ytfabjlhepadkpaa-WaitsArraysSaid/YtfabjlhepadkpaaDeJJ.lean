/-
  depend.Jobs.
  gangerref08.Jobs.
-/
import Derived.Test.YtfabjlhepadkpaaDeMC
import Derived.Test.YtfabjlhepadkpaaDeCp
import Derived.Test.YtfabjlhepadkpaaRwS
import Derived.Test.YtfabjlhepadkpaaApp
import Derived.Test.YtfabjlhepadkpaaDeD
import Derived.Test.YtfabjlhepadkpaaSmJ
namespace Go.Proofs.Ytfabjlhepadkpaa
set_option linter.unusedVariables false

section
open Go Go.RowKit Go.Lib
theorem UOwn.lower {w : World} {b b' : Nat} {v : Value} {l : List Nat} (h : UOwn w b v l) (hb : b' ≤ b) : UOwn w b' v l := h.mono hb
def jobsAll (l : List NdM) : List Nat := l.flatMap fun p => p.2.2
theorem jobsAll_take (l : List NdM) {i : Nat} (h : i < l.length) : jobsAll (l.take (i + 1)) = jobsAll (l.take i) ++ l[i].2.2 := by
  unfold jobsAll; rw [List.take_add_one, List.getElem?_eq_getElem h, List.flatMap_append]
  simp only [Option.toList, List.flatMap_cons, List.flatMap_nil, List.append_nil]
/-- The jobs' row: strictly rising, those of a dependency. -/
def JobsTo (any : Bool) (l : List NdM) (os : List Nat) : Prop := os.Pairwise (· < ·) ∧ ∀ x, x ∈ os ↔ okD any (ndsOf l) ∧ x ∈ jobsAll l
theorem strict_eq : ∀ {xs ys : List Nat}, xs.Pairwise (· < ·) → ys.Pairwise (· < ·) → (∀ x, x ∈ xs ↔ x ∈ ys) → xs = ys
  | [], [], _, _, _ => rfl
  | [], y :: ys, _, _, h => by have := (h y).2 (List.mem_cons_self); cases this
  | x :: xs, [], _, _, h => by have := (h x).1 (List.mem_cons_self); cases this
  | x :: xs, y :: ys, hx, hy, h => by
    obtain ⟨hx1, hx2⟩ := List.pairwise_cons.1 hx
    obtain ⟨hy1, hy2⟩ := List.pairwise_cons.1 hy
    have e : x = y := by
      rcases List.mem_cons.1 ((h x).1 (List.mem_cons_self)) with e | e
      · exact e
      · rcases List.mem_cons.1 ((h y).2 (List.mem_cons_self)) with e2 | e2
        · exact e2.symm
        · have := hy1 x e; have := hx1 y e2; omega
    subst e
    rw [strict_eq hx2 hy2 (fun z => ?_)]
    constructor
    · intro hz
      rcases List.mem_cons.1 ((h z).1 (List.mem_cons_of_mem _ hz)) with e | e
      · subst e; have := hx1 z hz; omega
      · exact e
    · intro hz
      rcases List.mem_cons.1 ((h z).2 (List.mem_cons_of_mem _ hz)) with e | e
      · subst e; have := hy1 z hz; omega
      · exact e
theorem JobsTo.one {any : Bool} {l m : List NdM} {a b : List Nat} (h : JobsTo any l a) (k : JobsTo any m b) (e : ndsOf l = ndsOf m) : a = b := by
  refine strict_eq h.1 k.1 fun x => ?_
  rw [h.2, k.2, e]
  have hj : jobsAll l = jobsAll m := by
    have h1 : ∀ l : List NdM, jobsAll l = (ndsOf l).flatMap Prod.snd := fun l => by unfold jobsAll ndsOf toNd; rw [List.flatMap_map]
    rw [h1, h1, e]
  rw [hj]
set_option maxRecDepth 100000 in
set_option maxHeartbeats 8000000 in
theorem jobs_any (hS : SortU 1048576) (any : Bool) (v : Value) (l : List NdM) (w : World) (h : NRw w v l) :
    Calls Try.prog 52 #[.agg #[.bool any, v]] w fun e w' => (∃ v' os, e = .returned v' ∧ UOwn w' w.heap.size v' os ∧ JobsTo any l os) ∧ Below w.heap.size w w' := by
  obtain ⟨a, c, rfl⟩ := h.row.slice
  obtain ⟨gx, hgx⟩ : ∃ g, g = w.heap.size := ⟨_, rfl⟩
  obtain ⟨X, hX⟩ : ∃ X, X = w.alloc (.cells #[.bool any, .slice a l.length c] 35) := ⟨_, rfl⟩
  have hbX : Below w.heap.size w X := by rw [hX]; exact (Below.refl _ _).alloc (Nat.le_refl _) _
  have hbk : Blk X gx #[.bool any, .slice a l.length c] 35 := by rw [hX, hgx]; exact Blk.new w _ _
  have CK := Lib.hid (check_any any (.slice a l.length c) l X (h.kept hbX))
  obtain ⟨N, hN⟩ : ∃ N, N = l.length := ⟨_, rfl⟩
  have HN := Lib.hid hN
  have HL := Lib.hid (h.kept hbX)
  rw [← hN] at CK hX hbk ⊢
  have HBX := Lib.hid hbX
  have y0 := hbk.cell 0
  have y1 := hbk.cell 1
  simp at y0 y1
  have HXX := Lib.hid hX
  have HGX := Lib.hid hgx
  have HSU := Lib.hid hS
  clear h hN hbX hbk hX hgx hS
  by_cases hok : okD any (ndsOf l)
  · have hck : chkD any (ndsOf l) = 0 := by unfold chkD; rw [if_pos hok]
    rw [hck] at CK
    have HOK := Lib.hid hok
    have hN20 : N ≤ 20 := by have := hok.1; rw [ndsOf_len, ← HN.out] at this; exact this
    obtain ⟨i0, hi, hz0, hz1, hz2⟩ := info_parts Try.infoJob
    have HI := Lib.hid (And.intro hi (And.intro hz0 (And.intro hz1 hz2)))
    clear hck hok hi hz0 hz1 hz2
    go_enter Try.func52, Try.ntmps52
    go_upto_region 1 with fail
    rw [← HGX.out, ← HXX.out]
    go_wp2_with fail
    refine CK.out.mono ?_; rintro e w3 ⟨rfl, b1⟩
    have HB3 := Lib.hid b1
    clear b1 CK
    obtain ⟨B0, hB0⟩ : ∃ b, b = w3.heap.size := ⟨_, rfl⟩
    obtain ⟨Y, hY⟩ : ∃ Y, Y = w3.alloc (.cells #[] 23) := ⟨_, rfl⟩
    have HBY : Hid (Below w3.heap.size w3 Y) := by unfold Hid; rw [hY]; exact (Below.refl _ _).alloc (Nat.le_refl _) _
    have HMY : Hid (Y.ownsRow B0 23 1 (.slice (some ⟨w3.heap.size, 0, none⟩) 0 0) 0 []) := by unfold Hid; rw [hY, hB0]; exact World.ownsRow_made w3 #[] 0 (Nat.le_refl _) (Nat.zero_le _) (by simp)
    have HXY := Lib.hid (below_next HBY.out HB3.out)
    have yy1 := cell_next HXY.out y1
    go_upto_region 4 with fail
    rw [← hY]
    clear hY
    go_wp2_with fail
    go_loopw [3, 13] (fun sv iv wr => ∃ i : Nat, i ≤ N ∧ iv = .int .i64 (i : Nat) ∧ Hid ((jobsAll (l.take i)).length ≤ i * 20) ∧ Hid (wr.ownsRow B0 23 1 sv (jobsAll (l.take i)).length (uL (jobsAll (l.take i)))) ∧ Hid (Below w3.heap.size w3 wr)) (fun _ iv _ => N - (RowKit.intOf iv).toNat)
    case atStart => exact ⟨0, Nat.zero_le _, rfl, Nat.le_refl _, HMY.out, HBY.out⟩
    case round =>
      obtain ⟨i, hi, rfl, HLN, HO, HB⟩ := hrel
      by_cases hlt : i < N
      · have d1 : decide ((i : Int) < (N : Int)) = true := decide_eq_true (by omega)
        have d1' : decide (i < N) = true := decide_eq_true hlt
        have hii : (i : Int) < (N : Int) := by omega
        have hik : i < l.length := by rw [← HN.out]; exact hlt
        have HXr := Lib.hid (below_next HB.out HB3.out)
        obtain ⟨bb, off, e, x0, x1, hu, hul⟩ := NRw.at HL.out HXr.out hik
        subst e
        have hokn := okD_mem HOK.out (List.getElem_mem hik)
        have HT : Hid (jobsAll (l.take (i + 1)) = jobsAll (l.take i) ++ l[i].2.2) := jobsAll_take l hik
        obtain ⟨p, hp⟩ : ∃ p, p = l[i] := ⟨_, rfl⟩
        rw [← hp] at x0 x1 hu hul HT hokn
        obtain ⟨k, pv, js⟩ := p
        unfold toNd at hokn
        dsimp only at x0 x1 hu hul HT hokn
        have hj20 : js.length ≤ 20 := by
          rcases hokn with ⟨_, _, _, h4, _⟩ | ⟨_, h4⟩
          · exact h4
          · dsimp only at h4; omega
        obtain ⟨W, hW⟩ : ∃ W, W = wr.alloc (.cells #[.int .i64 k, pv] 58) := ⟨_, rfl⟩
        have hbW : Below wr.heap.size wr W := by rw [hW]; exact (Below.refl _ _).alloc (Nat.le_refl _) _
        have hbn : Blk W wr.heap.size #[.int .i64 k, pv] 58 := by rw [hW]; exact Blk.new _ _ _
        have SRC := Lib.hid (src_of_rowG uV_len (by decide) (hu.kept hbW))
        have z0 := hbn.cell 0
        have z1 := hbn.cell 1
        simp at z0 z1
        have HBW := Lib.hid (below_next hbW HB.out)
        have HOW := Lib.hid (own_older HO.out hbW)
        obtain ⟨pa, pc, rfl⟩ := hu.slice
        obtain ⟨M, hM⟩ : ∃ M, M = js.length := ⟨_, rfl⟩
        have HM := Lib.hid hM
        have hM20 : M ≤ 20 := by omega
        rw [← hM] at x1 z1 hW SRC
        obtain ⟨L, hL⟩ : ∃ L, L = (jobsAll (l.take i)).length := ⟨_, rfl⟩
        have HLL := Lib.hid hL
        have hL4 : L ≤ i * 20 := by rw [hL]; exact HLN.out
        rw [← hL] at HOW
        obtain ⟨hi0, hz0, hz1, hz2⟩ := HI.out
        have hBWs := HBW.out.size
        clear hu hul hp hbW hbn hM HO hokn hj20 hL HLN
        go_upto_region 7 with fail
        rw [← hW]
        clear hW x0 x1
        go_wp2_with (first | (at_builtin; refine wpList_app rfl _ _ 45 rfl B0 23 i0 _ 1 4 Try.underlying45 hi0 hz0 hz1 hz2 rfl (by decide) _ L (uL (jobsAll (l.take i))) rfl HOW.out _ M (js.flatMap uV) rfl SRC.out (uL_one js) (by unfold maxLen; omega) (by omega) (by rw [hB0]; omega) ?_; intro v8 w8 hown8 hgrow8 hat8))
        go_wp2_with fail
        go_roundw
        case rel =>
          refine ⟨i + 1, hlt, by go_num, ?_, ?_, HBW.out.grown hgrow8 HBW.out.size (fun q hq => by have := (HOW.out.lt q hq).1; omega)⟩
          · unfold Hid
            rw [HT.out, List.length_append, ← HLL.out, ← HM.out]; omega
          · unfold Hid
            have e : uL (jobsAll (l.take i) ++ js) = uL (jobsAll (l.take i)) ++ js.flatMap uV := by unfold uL; rw [List.flatMap_append]
            rw [HT.out, List.length_append, ← HLL.out, ← HM.out, e]
            exact hown8
        case measure => simp [RowKit.intOf]; omega
      · have d1 : decide ((i : Int) < (N : Int)) = false := decide_eq_false (by omega)
        have d1' : decide (i < N) = false := decide_eq_false hlt
        obtain rfl : i = N := by omega
        have hjt : l.take i = l := by rw [HN.out]; exact List.take_length
        have HO2 : Hid (UOwn wr B0 u3 (jobsAll l)) := by have h := HO.out; rw [hjt] at h; exact h
        have HL2 : Hid ((jobsAll l).length ≤ 400) := by have h := HLN.out; rw [hjt] at h; unfold Hid; omega
        have C := Lib.hid (HSU.out B0 u3 (jobsAll l) wr (by have := HL2.out; omega) HO2.out)
        have HFIN : Hid (∀ w5 (ys : List Nat), wr.grownBy w5 u3.ownBlock → ys.Perm (jobsAll l) → ∀ w6, Chg (fun q => u3.ownBlock = some q) w5 w6 → Below w.heap.size w w6) := fun w5 ys hg _ w6 hc => by
          have hb5 : Below w3.heap.size w3 w5 := HB.out.grown hg HB.out.size (fun q hq => by have := (HO2.out.lt q hq).1; omega)
          have hb6 : Below w3.heap.size w3 w6 := hb5.trans (hc.to_below hb5.size (fun q hq e => by have := (HO2.out.lt q e).1; omega))
          exact below_next (below_next hb6 HB3.out) HBX.out
        have hB0w : w.heap.size ≤ B0 := by rw [hB0]; exact Nat.le_trans HBX.out.size HB3.out.size
        have HB0W := Lib.hid hB0w
        obtain ⟨sa, sc, rfl⟩ := own_slice HO2.out
        clear HO HLN hjt HB hB0w
        go_wp2_with fail
        refine C.out.mono ?_; rintro e w5 ⟨rfl, ⟨ys, hp, hs, hoy⟩, hg5⟩
        have hyl : ys.length = (jobsAll l).length := hp.length_eq
        have CP := Lib.hid (compactU_any B0 _ ys w5 hoy hs (by have := HL2.out; omega))
        have HP := Lib.hid hp
        have HF2 := Lib.hid (HFIN.out w5 ys hg5 hp)
        clear hp hs hoy hg5 C HFIN hyl
        go_wp2_with fail
        refine CP.out.mono ?_; rintro e w6 ⟨v', os, rfl, ho6, hs6, hm6, hc6⟩
        have HB6 := Lib.hid (HF2.out w6 hc6)
        have HO6 := Lib.hid (UOwn.lower ho6 HB0W.out)
        have HJ6 : Hid (JobsTo any l os) := ⟨hs6, fun x => by rw [hm6, HP.out.mem_iff]; exact ⟨fun h => ⟨HOK.out, h⟩, fun h => h.2⟩⟩
        clear ho6 hs6 hm6 hc6 CP
        go_wp2_with fail
        go_ret
        exact ⟨⟨_, os, rfl, HO6.out, HJ6.out⟩, HB6.out⟩
  · have hck : chkD any (ndsOf l) = 2 := by unfold chkD; rw [if_neg hok]
    rw [hck] at CK
    have HJ : Hid (JobsTo any l []) := ⟨List.Pairwise.nil, fun x => by simp [hok]⟩
    clear hck hok
    go_enter Try.func52, Try.ntmps52
    go_upto_region 1 with fail
    rw [← HGX.out, ← HXX.out]
    go_wp2_with fail
    refine CK.out.mono ?_; rintro e w1 ⟨rfl, b1⟩
    have HB5 := Lib.hid (below_next b1 HBX.out)
    clear b1 CK
    go_wp2_with fail
    go_ret
    exact ⟨⟨_, [], rfl, ⟨rfl, .inl ⟨rfl, rfl⟩⟩, HJ.out⟩, HB5.out⟩
end

section
open Go Go.RowKit Go.Lib
theorem ins_one {os : List Nat} (hs : os.Pairwise (· < ·)) {m m' j : Nat} (h1 : m ≤ m') (h2 : m' ≤ os.length) (ha : ∀ q (h : q < os.length), q < m → os[q] < j) (hb : ∀ q (h : q < os.length), m ≤ q → q < m' → os[q] = j) (hc : ∀ q (h : q < os.length), m' ≤ q → j < os[q]) :
    (os.take m ++ j :: os.drop m').Pairwise (· < ·) ∧ ∀ x, x ∈ os.take m ++ j :: os.drop m' ↔ x ∈ os ∨ x = j := by
  have ht : ∀ x ∈ os.take m, x < j := fun x hx => by
    obtain ⟨q, hq, rfl⟩ := List.getElem_of_mem hx
    rw [List.length_take] at hq
    rw [List.getElem_take]
    exact ha q (by omega) (by omega)
  have hd : ∀ x ∈ os.drop m', j < x := fun x hx => by
    obtain ⟨q, hq, rfl⟩ := List.getElem_of_mem hx
    rw [List.length_drop] at hq
    rw [List.getElem_drop]
    exact hc (m' + q) (by omega) (by omega)
  constructor
  · rw [List.pairwise_append, List.pairwise_cons]
    refine ⟨hs.sublist (List.take_sublist _ _), ⟨hd, hs.sublist (List.drop_sublist _ _)⟩, fun x hx y hy => ?_⟩
    have h3 := ht x hx
    rcases List.mem_cons.1 hy with rfl | hy
    · exact h3
    · have := hd y hy; omega
  · intro x
    rw [List.mem_append, List.mem_cons]
    constructor
    · rintro (h | h | h)
      · exact .inl (List.mem_of_mem_take h)
      · exact .inr h
      · exact .inl (List.mem_of_mem_drop h)
    · rintro (h | h)
      · obtain ⟨q, hq, rfl⟩ := List.getElem_of_mem h
        by_cases c1 : q < m
        · exact .inl (List.mem_iff_getElem.2 ⟨q, by rw [List.length_take]; omega, by rw [List.getElem_take]⟩)
        · by_cases c2 : q < m'
          · exact .inr (.inl (hb q hq (by omega) c2))
          · exact .inr (.inr (List.mem_iff_getElem.2 ⟨q - m', by rw [List.length_drop]; omega, by rw [List.getElem_drop]; congr 1; omega⟩))
      · exact .inr (.inl h)
theorem addr_add8 (g o j : Nat) : (⟨g, o, none⟩ : Addr).add j = ⟨g, o + j, none⟩ := by
  unfold Addr.add
  split <;> simp_all
theorem uL_app (a b : List Nat) : uL (a ++ b) = uL a ++ uL b := by unfold uL; rw [List.flatMap_append]
/-- What is read from a place on. -/
theorem src_drop8 {w : World} {base g n cap m : Nat} {os : List Nat} (h : w.ownsRow base 23 1 (.slice (some ⟨g, 0, none⟩) n cap) n (uL os)) (hn : n = os.length) (hm : m ≤ n) (c : Nat) : Src w 1 (.slice (some ⟨g, m, none⟩) (n - m) c) (n - m) (uL (os.drop m)) := by
  refine ⟨by rw [uL_len, List.length_drop]; omega, .inr ⟨⟨g, m, none⟩, c, rfl, fun q u hq => ?_⟩⟩
  have hql : q < (os.drop m).length := by have := (List.getElem?_eq_some_iff.1 hq).1; rwa [uL_len] at this
  rw [uL_get hql] at hq
  injection hq with hq
  rw [← hq, addr_add8, List.getElem_drop]
  rw [List.length_drop] at hql
  exact u_cell h (by omega)
theorem uL_take8 (zs : List Nat) {k : Nat} (h : k < zs.length) : uL (zs.take (k + 1)) = uL (zs.take k) ++ [.int .u32 (zs[k] : Nat)] := by
  unfold uL; rw [List.take_add_one, List.getElem?_eq_getElem h, List.flatMap_append]; simp [uV]
theorem uL_one8 (x : Nat) : ∀ u ∈ [Value.int .u32 (x : Nat)], u.oneCell' = true := fun u hu => by rw [List.mem_singleton.1 hu]; rfl
end

end Go.Proofs.Ytfabjlhepadkpaa
