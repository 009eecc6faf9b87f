/-
  The reader's call array.
-/
import Derived.Test.YtdhkinknhjpjmaaDoorIxD
import Derived.Test.YtdhkinknhjpjmaaDoorIxR
import Derived.Test.YtdhkinknhjpjmaaDoorNums
import Derived.Maps.AppendAt
import Derived.Deep.Onto
namespace Go.Proofs.YtdhkinknhjpjmaaDoor
open Go Go.RowKit Go.Lib
set_option linter.unusedVariables false

def ofN (l : List Nat) : List Int := l.map fun (n : Nat) => (n : Int)
theorem ofN_len (l : List Nat) : (ofN l).length = l.length := by simp [ofN]
theorem own_set {w : World} {base size n : Nat} {e : TypeId} {v : Value} {xs : List Value} (h : w.ownsRow base e size v n xs) {b o : Nat} (hb : b < base) (u : Value) : (w.setCell ⟨b, o, none⟩ u).ownsRow base e size v n xs :=
  h.kept (row := some b) (gb_set w b o u) (.inr fun hq => by have := (h.lt b hq).1; omega)
theorem Blk.grown {w w' : World} {b : Nat} {cs : Array Value} {t : TypeId} {k : Option Nat} (h : Blk w b cs t) (hg : w.grownBy w' k) (hne : some b ≠ k) : Blk w' b cs t := by
  have hl := h.lt
  unfold Blk at *
  rw [hg.block b hl hne]; exact h
/-- The first marks, as numbers. -/
def listT (m : Nat → Bool) (j : Nat) : List Nat := (List.range j).filter m
theorem listT_succ (m : Nat → Bool) (j : Nat) : listT m (j + 1) = if m j = true then listT m j ++ [j] else listT m j := by
  unfold listT
  rw [List.range_succ, List.filter_append]
  split
  · rename_i h; simp [h]
  · rename_i h; simp [h]
theorem listT_len (m : Nat → Bool) (j : Nat) : (listT m j).length ≤ j := by
  have := List.length_filter_le m (List.range j)
  rw [List.length_range] at this
  exact this
def markL (m : Nat → Bool) : List Value := (List.range 1001).map fun i => .bool (m i)
theorem markL_len (m : Nat → Bool) : (markL m).length = 1001 := by simp [markL]
theorem markL_get (m : Nat → Bool) {i : Nat} (h : i < 1001) : (markL m)[i]? = some (.bool (m i)) := by simp [markL, h]
theorem load_marks (w : World) (b : Nat) (s : St) (h : Rdr w b s) : (loadCells ⟨b, 7, none⟩ 1001).run Tryd.prog w = .ok (markL s.marks).toArray w := by
  have := run_loadCells_list (P := Tryd.prog) w ⟨b, 7, none⟩ (markL s.marks) (fun j v hv => by
    have hj : j < 1001 := by rw [← markL_len s.marks]; exact (List.getElem?_eq_some_iff.1 hv).1
    rw [markL_get _ hj] at hv
    rw [Addr.add_lit, h.cell (i := 7 + j) (by omega), f_mark s (by omega)]; exact hv)
  rw [markL_len] at this
  exact this

section
variable {P : Program}
theorem wp_load_cells {o : Oper} {a : Act} {w : World} {K : Act → World → Prop} {Q : Exit → Act → World → Prop} (ty : TypeId) (x : Operand) (ho : o.op = .load ty x)
    (p : Addr) (hx : a.eval x = .pointer (some p)) (v : Value) (hr : (loadVar ty p).run P w = .ok v w) (h : K (a.put o.dst v) w) : o.wp P a w K Q := by
  unfold Oper.wp execOp
  simp only [ho, hx, Instr.loadAt, Instr.sureAddr, Sem.run_bind, Sem.run_pure, Result.andThen_ok, hr]
  exact h
theorem wpList_load_cells {ops : Array Oper} {rest : List Oper} {o : Oper} {a : Act} {w : World} {Q : Exit → Act → World → Prop} (hgd : o.guard = none) (ty : TypeId) (x : Operand) (ho : o.op = .load ty x)
    (p : Addr) (hx : a.eval x = .pointer (some p)) (v : Value) (hr : (loadVar ty p).run P w = .ok v w) (h : wpList P ops Q rest (a.put o.dst v) w) : wpList P ops Q (o :: rest) a w :=
  wpList_plain hgd fun _ hK => wp_load_cells ty x ho p hx v hr (hK _ _ h)
theorem run_index_arr {t e : TypeId} {n i : Nat} {cs : Array Value} {v : Value} {w : World} (h : P.underlying t = some (.array n e)) (hi : i < n) (ha : (isAgg e).run P w = .ok false w) (hs : (sizeOf e).run P w = .ok 1 w) (hv : cs[i]? = some v) :
    (Instr.index t (.agg cs) (.int .i64 (i : Nat))).run P w = .ok v w := by
  have h1 : (0 : Int) ≤ (i : Int) ∧ (i : Int) < (n : Int) := by omega
  simp [Instr.index, asIntOf, run_underlying h, Sem.run_bind, Sem.run_pure, Result.andThen_ok, hi, hs, part, ha, hv]
end
theorem loadVar_marks (w : World) (b : Nat) (s : St) (h : Rdr w b s) : (loadVar 51 ⟨b, 7, none⟩).run Tryd.prog w = .ok (.agg (markL s.marks).toArray) w := by
  have h1 := load_marks w b s h
  simp only [loadVar, Sem.run_bind, Tryd.isAgg51 w, Result.andThen_ok, Tryd.sizeOf51 w, h1, if_true, Sem.run_pure]

set_option maxRecDepth 100000 in
set_option maxHeartbeats 2000000 in
theorem rarray_any (b : Nat) (s : St) (w : World) (h9 : s.num 3 ≤ 9999) (h : Rdr w b s) :
    Calls Tryd.prog 22 #[.pointer (some ⟨b, 0, none⟩)] w
      fun e w' => ∃ v, e = .returned (.agg #[v, .int .i64 (s.num 3)]) ∧ NOwn w' w.heap.size v (ofN (listF s.marks)) ∧ Below w.heap.size w w' := by
  obtain ⟨i0, hi, hz0, hz1, hz2⟩ := info_parts Tryd.infoNum
  have c6 := h.cell (i := 6) (by omega)
  rw [show fieldV s 6 = .int .i64 (s.num 3) from f_num s (q := 3) (by omega)] at c6
  have hbl : b < w.heap.size := h.blk.lt
  have h1 : Rdr ((w.alloc (.cells #[.slice none 0 0, .int .i64 0] 25)).alloc (.cells #[.slice none 0 0, .int .i64 (s.num 3)] 25)) b s := ⟨(h.blk.old _).old _⟩
  have hld := Lib.hid (loadVar_marks _ b s h1)
  have hms : ((markL s.marks).toArray).size = 1001 := by rw [List.size_toArray, markL_len]
  have HM : Hid (∀ i, i < 1001 → ((markL s.marks).toArray)[i]? = some (.bool (s.marks i))) := fun i hi => by
    have := markL_get s.marks hi
    simpa using this
  have HL : Hid (listF s.marks = listT s.marks 1001) := rfl
  generalize (markL s.marks).toArray = M at *
  generalize s.marks = mk at *
  generalize s.num 3 = mo at *
  clear h h1
  go_enter Tryd.func22, Tryd.ntmps22
  go_wp2_with (refine wpList_load_cells rfl 51 _ rfl ⟨b, 7, none⟩ rfl _ hld.out ?_)
  have hb0 : Hid (Below w.heap.size w ((w.alloc (.cells #[.slice none 0 0, .int .i64 0] 25)).alloc (.cells #[.slice none 0 0, .int .i64 mo] 25))) := ((Below.refl _ w).alloc (Nat.le_refl _) _).alloc (by simp) _
  have hk1 : Hid (Blk ((w.alloc (.cells #[.slice none 0 0, .int .i64 0] 25)).alloc (.cells #[.slice none 0 0, .int .i64 mo] 25)) w.heap.size #[.slice none 0 0, .int .i64 0] 25) := (Blk.new w _ _).old _
  have hk2 : Hid (Blk ((w.alloc (.cells #[.slice none 0 0, .int .i64 0] 25)).alloc (.cells #[.slice none 0 0, .int .i64 mo] 25)) (w.heap.size + 1) #[.slice none 0 0, .int .i64 mo] 25) := Blk.fresh _ _ _ _ (by simp)
  have hsz : ((w.alloc (.cells #[.slice none 0 0, .int .i64 0] 25)).alloc (.cells #[.slice none 0 0, .int .i64 mo] 25)).heap.size = w.heap.size + 2 := by simp
  have HSZ := Lib.hid hsz
  clear hld hsz c6 hbl
  generalize ((w.alloc (.cells #[.slice none 0 0, .int .i64 0] 25)).alloc (.cells #[.slice none 0 0, .int .i64 mo] 25)) = W at *
  go_loopw [16] (fun i wr => ∃ (j : Nat) (v : Value), j ≤ 1001 ∧ i = .int .i64 j ∧ Hid (wr.ownsRow (w.heap.size + 2) 3 1 v (listT mk j).length (numsL (ofN (listT mk j)))) ∧ Hid (Blk wr (w.heap.size + 1) #[v, .int .i64 mo] 25) ∧ Hid (Blk wr w.heap.size #[.slice none 0 0, .int .i64 0] 25) ∧ Below w.heap.size w wr) (fun i _ => 1001 - (RowKit.intOf i).toNat)
  case atStart => exact ⟨0, .slice none 0 0, by omega, rfl, World.ownsRow_nil _ _ _ _, hk2.out, hk1.out, hb0.out⟩
  case round =>
    obtain ⟨j, v, hj, rfl, hown, ha, hr, hB⟩ := hrel
    have HB := Lib.hid hB
    obtain ⟨va, vc, rfl⟩ := own_slice hown.out
    have hsz : w.heap.size + 1 < wr.heap.size := ha.out.lt
    have hzw : w.heap.size ≤ wr.heap.size := hB.size
    clear hB
    by_cases hlt : j < 1001
    · have hlti : (j : Int) < 1001 := by omega
      have hm := HM.out j hlt
      have hix : (Instr.index 51 (.agg M) (.int .i64 (j : Nat))).run Tryd.prog wr = .ok (.bool (mk j)) wr := run_index_arr Tryd.underlying51 hlt (Tryd.isAgg4 wr) (Tryd.sizeOf4 wr) hm
      clear hm
      have hls := listT_succ mk j
      have hll := listT_len mk j
      have a0 := ha.out.cell 0
      have af := ha.out.free 0
      simp only [List.getElem?_toArray, List.getElem?_cons_zero] at a0
      cases hq : mk j
      · rw [hq] at hix
        rw [hq, if_neg (by simp)] at hls
        have HO : Hid (wr.ownsRow (w.heap.size + 2) 3 1 (.slice va (listT mk j).length vc) (listT mk (j + 1)).length (numsL (ofN (listT mk (j + 1))))) := by rw [hls]; exact hown.out
        clear hown hls
        generalize (listT mk j).length = N at *
        go_wp2_with fail
        go_roundw
        case rel => exact ⟨j + 1, _, hlt, by go_num, HO.out, ha.out, hr.out, HB.out⟩
        case measure => simp [RowKit.intOf]; omega
      · rw [hq] at hix
        rw [hq, if_pos rfl] at hls
        have HO := Lib.hid hown.out
        have HS : Hid (∀ (v' : Value) (w' : World), w'.ownsRow (w.heap.size + 2) 3 1 v' ((listT mk j).length + 1) (numsL (ofN (listT mk j)) ++ [.int .i64 j]) → w'.ownsRow (w.heap.size + 2) 3 1 v' (listT mk (j + 1)).length (numsL (ofN (listT mk (j + 1))))) := fun v' w' h => by
          rw [hls]
          unfold ofN
          rw [List.map_append, numsL_app, List.length_append]
          exact h
        have HVB := Lib.hid (fun q hq => HO.out.lt q hq)
        have HN1 : Hid (some (w.heap.size + 1) ≠ (Value.slice va (listT mk j).length vc).ownBlock) := fun e => by have := (HVB.out _ e.symm).1; omega
        have HN0 : Hid (some w.heap.size ≠ (Value.slice va (listT mk j).length vc).ownBlock) := fun e => by have := (HVB.out _ e.symm).1; omega
        clear hown hls
        generalize (listT mk j).length = N at *
        generalize numsL (ofN (listT mk j)) = fx at *
        go_wp2_with (at_builtin; refine wpList_append_own_at _ rfl _ _ 23 rfl (w.heap.size + 2) 3 i0 _ 1 8 Tryd.underlying23 hi hz0 hz1 hz2 rfl (by decide) (.slice va N vc) N _ rfl (World.ownsRow.alloc HO.out _) ⟨wr.heap.size, 0, none⟩ 1 1 [.int .i64 j] rfl rfl (news_alloc _ [.int .i64 j] _) (by simp [Value.oneCell']) (by unfold maxLen; omega) (by omega) (by simp; omega) ?_; intro v4 w5 hown4 hgrow4 _ hat4; obtain ⟨a4, c4, rfl⟩ := own_slice hown4; have ha5 := Blk.grown (ha.out.old (.cells #[.int .i64 j] 3)) hgrow4 HN1.out; have a5 := ha5.cell 0; have f5 := ha5.free 0; simp only [List.getElem?_toArray, List.getElem?_cons_zero] at a5)
        have hr5 := Blk.grown (hr.out.old (.cells #[.int .i64 j] 3)) hgrow4 HN0.out
        have HB5 : Hid (Below w.heap.size w w5) := (HB.out.alloc hzw _).grown hgrow4 (by simp; omega) (fun q hq => by have := (HVB.out q hq).1; omega)
        have ha6 := Lib.hid (ha5.set 0 (.slice a4 (N + 1) c4))
        have hr6 := Lib.hid (hr5.other (a := ⟨w.heap.size + 1, 0, none⟩) (by simp) (.slice a4 (N + 1) c4))
        have HB6 := Lib.hid (HB5.out.setCell (p := ⟨w.heap.size + 1, 0, none⟩) (by simp) (.slice a4 (N + 1) c4))
        have HO6 := Lib.hid (HS.out (.slice a4 (N + 1) c4) _ (own_set hown4 (b := w.heap.size + 1) (o := 0) (by omega) (.slice a4 (N + 1) c4)))
        clear ha5 hr5 a5 f5
        go_roundw
        case rel => exact ⟨j + 1, .slice a4 (N + 1) c4, hlt, by go_num, HO6.out, ha6.out, hr6.out, HB6.out⟩
        case measure => simp [RowKit.intOf]; omega
    · obtain rfl : j = 1001 := by omega
      have hlt' : decide (((1001 : Nat) : Int) < 1001) = false := by decide
      have ho := Lib.hid (World.ownsRow.mono hown.out (show w.heap.size ≤ w.heap.size + 2 by omega))
      have HE : Hid (listF mk = listT mk 1001) := HL.out
      have a0 := ha.out.cell 0
      have a1 := ha.out.cell 1
      have r0 := hr.out.cell 0
      have r1 := hr.out.cell 1
      have rf0 := hr.out.free 0
      have rf1 := hr.out.free 1
      simp at a0 a1 r0 r1
      have hlen : (listT mk 1001).length = (ofN (listF mk)).length := by rw [ofN_len, HE.out]
      have HO : Hid (NOwn wr w.heap.size (.slice va (listT mk 1001).length vc) (ofN (listF mk))) := by
        unfold NOwn Hid
        rw [← hlen, HE.out]; exact ho.out
      have HOS := Lib.hid (own_set (own_set hown.out (b := w.heap.size) (o := 0) (by omega) (.slice va (listT mk 1001).length vc)) (b := w.heap.size) (o := 1) (by omega) (.int .i64 mo))
      clear hown ho hlen
      obtain ⟨N, hN⟩ : ∃ N, N = (listT mk 1001).length := ⟨_, rfl⟩
      have HNN := Lib.hid hN
      rw [← hN] at a0 HO HOS
      clear hN
      have hK : Blk ((wr.setCell ⟨w.heap.size, 0, none⟩ (.slice va N vc)).setCell ⟨w.heap.size, 1, none⟩ (.int .i64 mo)) w.heap.size #[.slice va N vc, .int .i64 mo] 25 := (hr.out.set 0 (.slice va N vc)).set 1 (.int .i64 mo)
      have k0 := hK.cell 0
      have k1 := hK.cell 1
      simp only [List.getElem?_toArray, List.getElem?_cons_zero, List.getElem?_cons_succ] at k0 k1
      have HBE := Lib.hid ((HB.out.setCell (p := ⟨w.heap.size, 0, none⟩) (Nat.le_refl _) (.slice va N vc)).setCell (p := ⟨w.heap.size, 1, none⟩) (Nat.le_refl _) (.int .i64 mo))
      have HOE : Hid (NOwn ((wr.setCell ⟨w.heap.size, 0, none⟩ (.slice va N vc)).setCell ⟨w.heap.size, 1, none⟩ (.int .i64 mo)) w.heap.size (.slice va N vc) (ofN (listF mk))) := by
        unfold NOwn Hid
        rw [ofN_len, HE.out, ← HNN.out]
        exact World.ownsRow.mono HOS.out (by omega)
      clear HO HOS
      go_wp2_with fail
      refine bodyPost_ret (v := .agg #[.slice va N vc, .int .i64 mo]) (by simp [results, Tryd.results22, go_sem, k0, k1]) rfl ⟨_, rfl, HOE.out, HBE.out⟩
end Go.Proofs.YtdhkinknhjpjmaaDoor
