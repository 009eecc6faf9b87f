/-
  indexes.Parse: at any text.
-/
import Derived.Test.YtdhkinknhjpjmaaDoorIxE
import Derived.Test.YtdhkinknhjpjmaaDoorIxZ
import Derived.Test.YtdhkinknhjpjmaaDoorIxR
import Derived.Lib.OthersKept
namespace Go.Proofs.YtdhkinknhjpjmaaDoor
open Go Go.RowKit Go.Lib
set_option linter.unusedVariables false

def listO : Out → List Nat | .ok m _ => listF m | _ => []
def mostO : Out → Nat | .ok _ k => k | _ => 0
def posO : Out → Nat | .txt p => p | .arg p => p | .ok _ _ => 0
def errO : Out → Int | .txt _ => 60 | .arg _ => 2 | .ok _ _ => 0
/-- What Parse answers. -/
def ParseTo (w : World) (o : Out) (e : Ending) (w' : World) : Prop :=
  (∃ v, e = .returned (.tuple #[.agg #[v, .int .i64 (mostO o)], .int .i64 (posO o), .int .i64 (errO o)]) ∧ NOwn w' w.heap.size v (ofN (listO o))) ∧ Below w.heap.size w w'
theorem gb_iter (w : World) (k : Nat) (s : ByteArray) (p : Nat) : w.grownBy (w.iterAt k s p) (some k) :=
  ⟨rfl, rfl, rfl, by rw [Lib.iterAt_size]; exact Nat.le_refl _, fun i hi hne => Lib.iterAt_other w k i s p fun e => hne (by rw [e])⟩
theorem below_gb {B : Nat} {a w w' : World} {k : Nat} (h : Below B a w) (hg : w.grownBy w' (some k)) (hk : B ≤ k) (hB : B ≤ w.heap.size) : Below B a w' :=
  h.grown hg hB fun j hj => by injection hj with e; omega
theorem bytes_at {s : ByteArray} {pos : Nat} (h : pos < s.size) : s.data.toList[pos]? = some (s[pos]'h) := by
  rw [Array.getElem?_toList, Array.getElem?_eq_getElem (by exact h)]
  rfl
theorem take_next {l : Bs} {k : Nat} {c : UInt8} (h : l[k]? = some c) : l.take (k + 1) = l.take k ++ [c] := by rw [List.take_add_one, h]; rfl
/-- The machine stands at a place of the text. -/
theorem run_next {l : Bs} {pos : Nat} {c : UInt8} {S : St} (hc : l[pos]? = some c) (hr : run St.init 0 (l.take pos) = .inr S) :
    (∀ S', S.step pos c.toNat = some S' → run St.init 0 (l.take (pos + 1)) = .inr S') ∧ (S.step pos c.toNat = none → parseM l = .txt pos) := by
  have hlt : pos < l.length := (List.getElem?_eq_some_iff.1 hc).1
  have hlen : (l.take pos).length = pos := by rw [List.length_take]; omega
  constructor
  · intro S' h
    rw [take_next hc, run_app, hr]
    show run S (0 + (l.take pos).length) [c] = _
    rw [hlen, Nat.zero_add, run_some h]
    rfl
  · intro h
    have e : l = l.take pos ++ c :: l.drop (pos + 1) := by
      conv => lhs; rw [← List.take_append_drop pos l]
      congr 1
      rw [List.drop_eq_getElem_cons hlt]
      congr 1
      rw [List.getElem?_eq_getElem hlt] at hc
      exact Option.some.inj hc
    unfold parseM
    have hrun : run St.init 0 l = .inl pos := by
      rw [e, run_app, hr]
      show run S (0 + (l.take pos).length) (c :: l.drop (pos + 1)) = _
      rw [hlen, Nat.zero_add, run_none h]
    rw [hrun]
    rfl
theorem high_none {S : St} {t c : Nat} (h : 128 ≤ c) : S.step t c = none := by
  unfold St.step
  rw [if_neg (by omega)]
  split
  · rfl
  · rw [if_neg (by omega), if_neg (by omega), if_neg (by omega), if_neg (by omega)]
theorem init_ok : StOk St.init := ⟨by show 0 ≤ 3; omega, by show 0 ≤ 4; omega, by show 0 < 10 ^ 0; omega, fun q => by show 0 ≤ 9999; omega, by show 0 ≤ _; omega, fun p h => by cases h⟩
theorem fin_bounds {s : St} (hs : StOk s) : s.fin.num 3 ≤ 9999 := by
  unfold St.fin; split
  · exact fill_le hs.num 3
  · split
    · exact fill_le hs.num 3
    · exact fill_le hs.num 3

set_option maxRecDepth 100000 in
set_option maxHeartbeats 8000000 in
theorem parse_any (s : ByteArray) (w : World) (hs : s.size ≤ 4000000000) : Calls Tryd.prog 11 #[.string s] w (ParseTo w (parseM s.data.toList)) := by
  have hlen : s.data.toList.length = s.size := Array.length_toList
  obtain ⟨l, hl⟩ : ∃ l, l = s.data.toList := ⟨_, rfl⟩
  have HAT : Hid (∀ pos (h : pos < s.size), l[pos]? = some (s[pos]'h)) := fun pos h => by rw [hl]; exact bytes_at h
  have hrd : Rdr ((w.alloc (.cells #[.slice none 0 0, .int .i64 0] 25)).alloc (.cells St.init.cells 53)) (w.heap.size + 1) St.init := ⟨Blk.fresh _ _ _ _ (by simp)⟩
  have hrs : Blk ((w.alloc (.cells #[.slice none 0 0, .int .i64 0] 25)).alloc (.cells St.init.cells 53)) w.heap.size #[.slice none 0 0, .int .i64 0] 25 := (Blk.new w _ _).old _
  have hbb : Below w.heap.size w ((w.alloc (.cells #[.slice none 0 0, .int .i64 0] 25)).alloc (.cells St.init.cells 53)) := ((Below.refl _ w).alloc (Nat.le_refl _) _).alloc (by simp) _
  have hsz2 : ((w.alloc (.cells #[.slice none 0 0, .int .i64 0] 25)).alloc (.cells St.init.cells 53)).heap.size = w.heap.size + 2 := by simp
  have hst := store_init (w.alloc (.cells #[.slice none 0 0, .int .i64 0] 25))
  have e1 : (w.alloc (.cells #[.slice none 0 0, .int .i64 0] 25)).heap.size = w.heap.size + 1 := by simp
  rw [e1] at hst
  have hzv := zero_reader
  have hzs := zero_size
  have hYs := cells_size St.init
  have hY := init_cells
  rw [← hl] at hlen ⊢
  have HR0 : Hid (run St.init 0 (l.take 0) = .inr St.init) := by rw [List.take_zero]; rfl
  clear hl e1
  generalize zeroR = Z at *
  generalize St.init.cells = Y at *
  have HRD := Lib.hid hrd
  have HRS := Lib.hid hrs
  have HBB := Lib.hid hbb
  have HSZ := Lib.hid hsz2
  clear hrd hrs hbb hsz2
  generalize ((w.alloc (.cells #[.slice none 0 0, .int .i64 0] 25)).alloc (.cells Y 53)) = W1 at *
  go_enter Tryd.func11, Tryd.ntmps11
  go_wp2_with fail
  have hK2 : w.heap.size + 2 ≤ W1.heap.size := Nat.le_of_eq HSZ.out.symm
  obtain ⟨K, hKK⟩ : ∃ K, K = W1.heap.size := ⟨_, rfl⟩
  rw [← hKK] at hK2
  have hit0 := World.iter_heap W1 s 0
  rw [← hKK] at hit0 ⊢
  have HIT0 := Lib.hid hit0
  have HBW := Lib.hid (Below.alloc (B := w.heap.size) HBB.out (by have := HSZ.out; omega) (.stringIter s 0))
  have HRDW : Hid (Rdr (W1.alloc (.stringIter s 0)) (w.heap.size + 1) St.init) := ⟨HRD.out.blk.old _⟩
  have HRSW := Lib.hid (HRS.out.old (.stringIter s 0))
  clear hit0 hst hzv hzs hYs hY hKK HBB HRD HRS HSZ
  go_loopw [] (fun wr => ∃ (pos : Nat) (S : St), pos ≤ s.size ∧ Hid (run St.init 0 (l.take pos) = .inr S) ∧ Hid (StOk S) ∧ Hid (Rdr wr (w.heap.size + 1) S) ∧ Hid (Blk wr w.heap.size #[.slice none 0 0, .int .i64 0] 25) ∧ wr.heap[K]? = some (.stringIter s pos) ∧ Below w.heap.size w wr) (fun wr => s.size - wr.iterPos K)
  case atStart => exact ⟨0, St.init, Nat.zero_le _, HR0.out, init_ok, HRDW.out, HRSW.out, HIT0.out, HBW.out⟩
  case round =>
    obtain ⟨pos, S, hps, hrun, hok, hrd, hrs, hit, hB⟩ := hrel
    have HB := Lib.hid hB
    have hzw : w.heap.size ≤ wr.heap.size := hB.size
    clear hB HRDW HRSW HBW HIT0
    by_cases hp : pos < s.size
    · have hc := HAT.out pos hp
      obtain ⟨hnext, hnone⟩ := run_next hc hrun.out
      have hnx : ∀ ty, (Instr.next (.pointer (some ⟨K, 0, none⟩)) true ty).run Tryd.prog wr = _ := fun ty => Lib.run_next_any_at wr K s pos ty hit hp
      have hd1 := decode_le s pos
      have hit2 := fun q => Lib.iterAt_heap wr K s pos q hit
      have hdec : (Utf8.decode s pos).1 ≤ 2147483647 ∧ S.step pos (Utf8.decode s pos).1 = S.step pos (s[pos]'hp).toNat ∧ ((s[pos]'hp).toNat < 128 → (Utf8.decode s pos).2 = 1) := by
        by_cases ha : (s[pos]'hp).toNat < 128
        · rw [decode_ascii s pos hp ha]
          exact ⟨by omega, rfl, fun _ => rfl⟩
        · have hh := (decode_high s pos hp (by omega)).1
          exact ⟨decode_le s pos, by rw [high_none hh, high_none (by omega)], fun h => absurd h ha⟩
      obtain ⟨hd2, hde, hdw⟩ := hdec
      have hI1 : Rdr (wr.iterAt K s (pos + (Utf8.decode s pos).2)) (w.heap.size + 1) S := hrd.out.other (gb_iter wr K s _) (by intro e; injection e with e; omega)
      have hI2 := Blk.grown hrs.out (gb_iter wr K s (pos + (Utf8.decode s pos).2)) (by intro e; injection e with e; omega)
      have hI3 := below_gb HB.out (gb_iter wr K s (pos + (Utf8.decode s pos).2)) (by omega) hzw
      have hI4 := hit2 (pos + (Utf8.decode s pos).2)
      have ST := Lib.hid (rstep_any (w.heap.size + 1) pos (Utf8.decode s pos).1 S _ hok.out hd2 (by omega) hI1)
      rw [hde] at ST
      have hzi : (wr.iterAt K s (pos + (Utf8.decode s pos).2)).heap.size = wr.heap.size := Lib.iterAt_size _ _ _ _
      have hstp := fun S' h => step_ok (s := S) (s' := S') (t := pos) (c := (s[pos]'hp).toNat) hok.out (by omega) h
      have hhi : 128 ≤ (s[pos]'hp).toNat → S.step pos (s[pos]'hp).toNat = none := fun h => high_none h
      have HI2 := Lib.hid hI2
      have HI3 := Lib.hid hI3
      have HI4 := Lib.hid hI4
      have HITP := Lib.hid hit
      clear hI1 hI2 hI3 hI4 hit2 hde hd2 hc hrd hrs HB
      generalize (s[pos]'hp).toNat = cb at *
      generalize (Utf8.decode s pos).2 = wd at *
      generalize (Utf8.decode s pos).1 = r at *
      cases hso : S.step pos cb with
      | none =>
        rw [hso] at ST
        have HT := Lib.hid (hnone hso)
        clear hnext hnone hstp hhi hso hdw
        go_wp2_with fail
        refine ST.out.mono ?_; rintro e w4 ⟨g4, rfl⟩
        have R4 := Lib.hid (Blk.grown HI2.out g4 (by intro e; injection e with e; omega))
        have B4 := Lib.hid (below_gb HI3.out g4 (by omega) (by omega))
        clear g4 ST HI2 HI3 HI4 HITP hit
        have r0 := R4.out.cell 0
        have r1 := R4.out.cell 1
        have rf0 := R4.out.free 0
        have rf1 := R4.out.free 1
        simp only [List.getElem?_toArray, List.getElem?_cons_zero, List.getElem?_cons_succ] at r0 r1
        have hK : Blk ((w4.setCell ⟨w.heap.size, 0, none⟩ (.slice none 0 0)).setCell ⟨w.heap.size, 1, none⟩ (.int .i64 0)) w.heap.size #[.slice none 0 0, .int .i64 0] 25 := (R4.out.set 0 (.slice none 0 0)).set 1 (.int .i64 0)
        have k0 := hK.cell 0
        have k1 := hK.cell 1
        simp only [List.getElem?_toArray, List.getElem?_cons_zero, List.getElem?_cons_succ] at k0 k1
        have HBE := Lib.hid ((B4.out.setCell (p := ⟨w.heap.size, 0, none⟩) (Nat.le_refl _) (.slice none 0 0)).setCell (p := ⟨w.heap.size, 1, none⟩) (Nat.le_refl _) (.int .i64 0))
        clear hK
        go_wp2_with fail
        refine bodyPost_ret (v := .tuple #[.agg #[.slice none 0 0, .int .i64 0], .int .i64 pos, .int .i64 60]) (by simp [results, Tryd.results11, go_sem, k0, k1]) rfl ?_
        rw [HT.out]
        exact ⟨⟨_, rfl, NOwn.none _ _⟩, HBE.out⟩
      | some S' =>
        rw [hso] at ST
        have HN := Lib.hid (hnext S' hso)
        have HS' := Lib.hid (hstp S' hso)
        have hcb : cb < 128 := by
          rcases Nat.lt_or_ge cb 128 with h | h
          · exact h
          · have := hhi h; rw [hso] at this; cases this
        have hwd := hdw hcb
        subst hwd
        clear hnext hnone hstp hhi hso hdw
        go_wp2_with fail
        refine ST.out.mono ?_; rintro e w4 ⟨g4, rfl, r4⟩
        have RD4 := Lib.hid r4
        have R4 := Lib.hid (Blk.grown HI2.out g4 (by intro e; injection e with e; omega))
        have B4 := Lib.hid (below_gb HI3.out g4 (by omega) (by omega))
        have hkl : K < (wr.iterAt K s (pos + 1)).heap.size := by rw [hzi]; exact (Array.getElem?_eq_some_iff.1 HITP.out).1
        have hit4 : w4.heap[K]? = some (.stringIter s (pos + 1)) := by rw [g4.block K hkl (by intro e; injection e with e; omega)]; exact HI4.out
        clear g4 ST HI2 HI3 HI4 r4
        go_wp2_with fail
        go_roundw
        case rel => exact ⟨pos + 1, S', hp, HN.out, HS'.out, RD4.out, R4.out, hit4, B4.out⟩
        case measure => simp only [World.iterPos, hit4, HITP.out]; omega
    · have hnx : ∀ ty, (Instr.next (.pointer (some ⟨K, 0, none⟩)) true ty).run Tryd.prog wr = _ := fun ty => Lib.run_next_end_at wr K s pos ty hit hp
      have hpe : pos = s.size := by omega
      have htk : l.take pos = l := by rw [hpe, ← hlen, List.take_length]
      have hr2 := hrun.out
      rw [htk] at hr2
      have HO : Hid (parseM l = if S.dg = 0 then .txt s.size else endV S) := by unfold Hid parseM; rw [hr2, hlen]; rfl
      have HRDr := Lib.hid hrd.out
      have HRSr := Lib.hid hrs.out
      have HOK := Lib.hid hok.out
      clear hrun hok hrd hrs hr2 htk hit hp hpe
      have d2 := HRDr.out.cell (i := 2) (by omega)
      rw [f_dg] at d2
      by_cases hd0 : S.dg = 0
      · have z : ((S.dg : Int) == 0) = true := by rw [beq_iff_eq]; omega
        have HT : Hid (parseM l = .txt s.size) := by unfold Hid; rw [HO.out, if_pos hd0]
        clear HO hd0
        have r0 := HRSr.out.cell 0
        have r1 := HRSr.out.cell 1
        have rf0 := HRSr.out.free 0
        have rf1 := HRSr.out.free 1
        simp only [List.getElem?_toArray, List.getElem?_cons_zero, List.getElem?_cons_succ] at r0 r1
        have hK : Blk ((wr.setCell ⟨w.heap.size, 0, none⟩ (.slice none 0 0)).setCell ⟨w.heap.size, 1, none⟩ (.int .i64 0)) w.heap.size #[.slice none 0 0, .int .i64 0] 25 := (HRSr.out.set 0 (.slice none 0 0)).set 1 (.int .i64 0)
        have k0 := hK.cell 0
        have k1 := hK.cell 1
        simp only [List.getElem?_toArray, List.getElem?_cons_zero, List.getElem?_cons_succ] at k0 k1
        have HBE := Lib.hid ((HB.out.setCell (p := ⟨w.heap.size, 0, none⟩) (Nat.le_refl _) (.slice none 0 0)).setCell (p := ⟨w.heap.size, 1, none⟩) (Nat.le_refl _) (.int .i64 0))
        clear hK
        go_wp2_with fail
        refine bodyPost_ret (v := .tuple #[.agg #[.slice none 0 0, .int .i64 0], .int .i64 s.size, .int .i64 60]) (by simp [results, Tryd.results11, go_sem, k0, k1]) rfl ?_
        rw [HT.out]
        exact ⟨⟨_, rfl, NOwn.none _ _⟩, HBE.out⟩
      · have z : ((S.dg : Int) == 0) = false := by rw [beq_eq_false_iff_ne]; omega
        have HT : Hid (parseM l = endV S) := by unfold Hid; rw [HO.out, if_neg hd0]
        have EN := Lib.hid (rend_any (w.heap.size + 1) S wr HOK.out HRDr.out)
        have H3 := fin_bounds HOK.out
        clear HO hd0
        go_wp2_with fail
        refine EN.out.mono ?_; rintro e w4 ⟨rfl, r4, g4⟩
        have RD4 := Lib.hid r4
        have R4 := Lib.hid (Blk.grown HRSr.out g4 (by intro e; injection e with e; omega))
        have B4 := Lib.hid (below_gb HB.out g4 (by omega) hzw)
        have f8 := r4.cell (i := 1008) (by omega)
        rw [f_fault] at f8
        clear g4 r4 EN HRDr HRSr HB
        unfold endV at HT
        generalize S.fin = T at *
        cases hf : T.fault with
        | some p =>
          rw [hf] at f8
          rw [hf] at HT
          have f8' : w4.cell? ⟨w.heap.size + 1, 1008, none⟩ = some (.int .i64 (p : Int)) := f8
          have q8 : decide ((p : Int) ≥ 0) = true := decide_eq_true (by omega)
          clear hf f8
          have r0 := R4.out.cell 0
          have r1 := R4.out.cell 1
          have rf0 := R4.out.free 0
          have rf1 := R4.out.free 1
          simp only [List.getElem?_toArray, List.getElem?_cons_zero, List.getElem?_cons_succ] at r0 r1
          have hK : Blk ((w4.setCell ⟨w.heap.size, 0, none⟩ (.slice none 0 0)).setCell ⟨w.heap.size, 1, none⟩ (.int .i64 0)) w.heap.size #[.slice none 0 0, .int .i64 0] 25 := (R4.out.set 0 (.slice none 0 0)).set 1 (.int .i64 0)
          have k0 := hK.cell 0
          have k1 := hK.cell 1
          simp only [List.getElem?_toArray, List.getElem?_cons_zero, List.getElem?_cons_succ] at k0 k1
          have HBE := Lib.hid ((B4.out.setCell (p := ⟨w.heap.size, 0, none⟩) (Nat.le_refl _) (.slice none 0 0)).setCell (p := ⟨w.heap.size, 1, none⟩) (Nat.le_refl _) (.int .i64 0))
          clear hK
          go_wp2_with fail
          go_region
          go_wp2_with fail
          refine bodyPost_ret (v := .tuple #[.agg #[.slice none 0 0, .int .i64 0], .int .i64 p, .int .i64 2]) (by simp [results, Tryd.results11, go_sem, k0, k1]) rfl ?_
          rw [HT.out]
          exact ⟨⟨_, rfl, NOwn.none _ _⟩, HBE.out.drew⟩
        | none =>
          rw [hf] at f8
          rw [hf] at HT
          have f8' : w4.cell? ⟨w.heap.size + 1, 1008, none⟩ = some (.int .i64 (-1)) := f8
          have AR := Lib.hid (rarray_any (w.heap.size + 1) T w4 H3 RD4.out)
          clear hf f8
          go_wp2_with fail
          refine AR.out.mono ?_; rintro e w5 ⟨v5, rfl, o5, b5⟩
          have hzw4 : w.heap.size < w4.heap.size := R4.out.lt
          have R5 := Lib.hid (R4.out.kept b5)
          have B5 := Lib.hid (below_next b5 B4.out)
          obtain ⟨a5, c5, rfl⟩ := own_slice o5
          have r0 := R5.out.cell 0
          have r1 := R5.out.cell 1
          have rf0 := R5.out.free 0
          have rf1 := R5.out.free 1
          simp only [List.getElem?_toArray, List.getElem?_cons_zero, List.getElem?_cons_succ] at r0 r1
          have hLL : (ofN (listF T.marks)).length = (listF T.marks).length := ofN_len _
          have O5 := Lib.hid (own_set (own_set o5 (b := w.heap.size) (o := 0) hzw4 (.slice a5 (ofN (listF T.marks)).length c5)) (b := w.heap.size) (o := 1) hzw4 (.int .i64 (T.num 3)))
          have hT1 : listO (parseM l) = listF T.marks := by rw [HT.out]; rfl
          have hT2 : mostO (parseM l) = T.num 3 := by rw [HT.out]; rfl
          have hT3 : posO (parseM l) = 0 := by rw [HT.out]; rfl
          have hT4 : errO (parseM l) = 0 := by rw [HT.out]; rfl
          have HOT : Hid (NOwn ((w5.setCell ⟨w.heap.size, 0, none⟩ (.slice a5 (ofN (listF T.marks)).length c5)).setCell ⟨w.heap.size, 1, none⟩ (.int .i64 (T.num 3))) w.heap.size (.slice a5 (ofN (listF T.marks)).length c5) (ofN (listO (parseM l)))) := by
            unfold Hid NOwn; rw [hT1]; exact World.ownsRow.mono O5.out (by omega)
          clear o5 b5 O5 hT1 HT hLL
          generalize (ofN (listF T.marks)).length = N at *
          have hK : Blk ((w5.setCell ⟨w.heap.size, 0, none⟩ (.slice a5 N c5)).setCell ⟨w.heap.size, 1, none⟩ (.int .i64 (T.num 3))) w.heap.size #[.slice a5 N c5, .int .i64 (T.num 3)] 25 := (R5.out.set 0 (.slice a5 N c5)).set 1 (.int .i64 (T.num 3))
          have k0 := hK.cell 0
          have k1 := hK.cell 1
          simp only [List.getElem?_toArray, List.getElem?_cons_zero, List.getElem?_cons_succ] at k0 k1
          have HBE := Lib.hid ((B5.out.setCell (p := ⟨w.heap.size, 0, none⟩) (Nat.le_refl _) (.slice a5 N c5)).setCell (p := ⟨w.heap.size, 1, none⟩) (Nat.le_refl _) (.int .i64 (T.num 3)))
          clear hK
          go_wp2_with fail
          refine bodyPost_ret (v := .tuple #[.agg #[.slice a5 N c5, .int .i64 (T.num 3)], .int .i64 0, .int .i64 0]) (by simp [results, Tryd.results11, go_sem, k0, k1]) rfl ?_
          refine ⟨⟨_, ?_, HOT.out⟩, HBE.out⟩
          rw [hT2, hT3, hT4]; rfl
end Go.Proofs.YtdhkinknhjpjmaaDoor
