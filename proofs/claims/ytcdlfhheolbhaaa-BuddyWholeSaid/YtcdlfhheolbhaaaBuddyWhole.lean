/-
  BuddyWhole: each worker is in just one taken block, or failed, or in just one free block; no two free blocks make a greater one; all are aligned: so the law returns true for every input.
-/
import Derived.Test.YtcdlfhheolbhaaaYfE
import Derived.Test.YtcdlfhheolbhaaaRows
import Derived.Test.YtcdlfhheolbhaaaArgs2
namespace Go.Proofs.Ytcdlfhheolbhaaa.buddyWhole
open Go.ChangeShapes Go.WideShapes Go.ChangeAt Go.RowKit
set_option linter.unusedVariables false

theorem own : ownKnob Try.prog.godebug = none := by kernel_rfl

open Go Go.ChangeShapes Go.WideShapes Go.ChangeAt Go.RowKit Go.Lib
set_option maxRecDepth 100000 in
set_option maxHeartbeats 4000000 in
theorem walk (v0 : Value) (l : List Ac) (w : World) (h0 : AArg w v0 l) :
    Calls Try.prog 4 #[v0] w fun e w' => e = .returned (.bool true) ∧ Below w.heap.size w w' := by
  have YD := Lib.hid (yard_any v0 l w h0.2 h0.1)
  have K : Hid (∀ w1, Calls Try.prog 11 #[] w1 fun e w' => e = .returned (.bool true) ∧ Below w1.heap.size w1 w') := known4_any
  clear h0
  go_enter Try.func4, Try.ntmps4
  go_wp2_with fail
  refine YD.out.mono ?_; rintro e w1 ⟨g, tk, fl, rfl, _, hY, hb⟩
  have HY1 := Lib.hid hY
  have HB1 := Lib.hid hb
  clear hY hb YD
  obtain ⟨w2, hw2⟩ : ∃ w2, w2 = w1.alloc (.cells #[.int .i64 0, .int .i64 0, .int .i64 0, .int .i64 0, .int .i64 0, .int .i64 0, .int .i64 0, .int .i64 0, .int .i64 0, .int .i64 0, .int .i64 0, .int .i64 0, .int .i64 0, .int .i64 0, .int .i64 0, .int .i64 0, .int .i64 0, .int .i64 0, .int .i64 0, .int .i64 0, .int .i64 0, .int .i64 0, .int .i64 0, .int .i64 0, .int .i64 0, .int .i64 0, .int .i64 0, .int .i64 0, .int .i64 0, .int .i64 0, .int .i64 0, .int .i64 0] 52) := ⟨_, rfl⟩
  obtain ⟨bn, hbn⟩ : ∃ bn, bn = w1.heap.size := ⟨_, rfl⟩
  have hb12 : Below w1.heap.size w1 w2 := by rw [hw2]; exact (Below.refl _ _).alloc (Nat.le_refl _) _
  have HN2 : Hid (Cnt w2 bn (fun _ => 0)) := Cnt.zero (by rw [hw2, hbn]; exact Blk.new _ _ _)
  have HY2 : Hid (YS w2 g (fun k => w.heap.size ≤ k ∧ k ≠ bn) 5 tk fl) := by unfold Hid; rw [hw2, hbn]; exact ⟨HY1.out.1, HY1.out.2.box _⟩
  have HBN : Hid (w.heap.size ≤ bn ∧ bn < w2.heap.size) := ⟨by rw [hbn]; exact HB1.out.size, HN2.out.lt⟩
  have HB2 := Lib.hid (HB1.out.trans (hb12.mono HB1.out.size))
  have F2 := Lib.hid (Free_any g _ 5 _ _ _ w2 HY2.out.2)
  go_wp2_with fail
  rw [← hw2, ← hbn]
  clear hb12 hw2 hbn HY1 HB1
  refine F2.out.mono ?_; rintro e w3 ⟨vf, rfl, hof, b3⟩
  have HF3 := Lib.hid hof
  have HY3 := Lib.hid (HY2.out.kept b3)
  have HN3 := Lib.hid (HN2.out.kept b3)
  have HB3 := Lib.hid (HB2.out.trans (b3.mono HB2.out.size))
  have HNF : Hid (vf.ownBlock ≠ some bn) := fun e => by have := (hof.lt bn e).1; have := HBN.out.2; omega
  have s23 := b3.size
  have T3 := Lib.hid (Taken_any g _ 5 _ _ w3 HY3.out)
  clear hof b3 F2
  go_wp2_with fail
  refine T3.out.mono ?_; rintro e w4 ⟨vt, rfl, hot, b4⟩
  have HF4 := Lib.hid (own_older HF3.out b4)
  have HT4 := Lib.hid hot
  have HY4 := Lib.hid (HY3.out.kept b4)
  have HN4 := Lib.hid (HN3.out.kept b4)
  have HB4 := Lib.hid (HB3.out.trans (b4.mono HB3.out.size))
  have HNT : Hid (vt.ownBlock ≠ some bn) := fun e => by have := (hot.lt bn e).1; have := HBN.out.2; omega
  have s34 := b4.size
  have B4 := Lib.hid (Failed_any g _ 5 _ _ w4 HY4.out)
  clear hot b4 T3 HF3 HY3 HN3 HB3
  go_wp2_with fail
  refine B4.out.mono ?_; rintro e w5 ⟨vb, rfl, hob, b5⟩
  have HF5 : Hid (BOwn w5 0 vf (freeL 5 (opn 5 tk fl))) := (own_older HF4.out b5).mono (Nat.zero_le _)
  have HT5 : Hid (BOwn w5 0 vt tk) := (own_older HT4.out b5).mono (Nat.zero_le _)
  have HV5 : Hid (NOwn w5 0 vb (natI fl)) := hob.mono (Nat.zero_le _)
  have HY5 := Lib.hid (HY4.out.kept b5)
  have HN5 : Hid (Cnt w5 bn (cov [])) := HN4.out.kept b5
  have HB5 := Lib.hid (HB4.out.trans (b5.mono HB4.out.size))
  have HNB : Hid (vb.ownBlock ≠ some bn) := fun e => by have := (hob.lt bn e).1; have := HBN.out.2; omega
  have HL5 : Hid (w2.heap.size ≤ w5.heap.size) := by unfold Hid; have := b5.size; omega
  clear hob b5 B4 HF4 HT4 HY4 HN4 HB4 s23 s34 HY2 HN2 HB2
  have HFL := Lib.hid (freeL_len (show 5 ≤ 10 by omega) (opn 5 tk fl))
  have HIF : Hid (∀ b ∈ freeL 5 (opn 5 tk fl) ++ tk, b.2 ≤ 5 ∧ b.1 + 2 ^ b.2 ≤ 2 ^ 5 ∧ b.1 % 2 ^ b.2 = 0) := fun b hb => by
    rcases List.mem_append.1 hb with h | h
    · have h := freeL_mem.1 h
      exact ⟨h.1, h.2.2.1, h.2.1⟩
    · exact ⟨HY5.out.1.ord b h, HY5.out.1.le b h, HY5.out.1.al b h⟩
  have HONE : Hid (∀ x, x < 32 → covF (freeL 5 (opn 5 tk fl) ++ tk) tk fl x = 1) := fun x hx => cov_once HY5.out.1 hx
  have HBUD : Hid (∀ i j (hi : i < (freeL 5 (opn 5 tk fl)).length) (hj : j < (freeL 5 (opn 5 tk fl)).length), (freeL 5 (opn 5 tk fl))[i].2 = (freeL 5 (opn 5 tk fl))[j].2 → (freeL 5 (opn 5 tk fl))[i].1 ≠ bud (freeL 5 (opn 5 tk fl))[i].2 (freeL 5 (opn 5 tk fl))[j].1) := fun i j hi hj e => by
    have h1 := freeL_mem.1 (List.getElem_mem hi)
    have h2 := freeL_mem.1 (List.getElem_mem hj)
    rw [← e] at h2
    exact not_buds h2 h1
  have HTL := Lib.hid HY5.out.1.tlen
  have HFLL := Lib.hid HY5.out.1.flen
  have HFR : Hid (∀ x ∈ fl, x < 32) := fun x hx => HY5.out.1.fr x hx
  obtain ⟨F, hF⟩ : ∃ F, F = freeL 5 (opn 5 tk fl) := ⟨_, rfl⟩
  rw [← hF] at HF5 HFL HIF HONE HBUD
  clear hF
  obtain ⟨fa, fc, rfl⟩ := own_slice HF5.out
  obtain ⟨ta, tc, rfl⟩ := own_slice HT5.out
  obtain ⟨ba, bc, rfl⟩ := own_slice HV5.out
  have hFl := HFL.out
  have hTl := HTL.out
  have hBl := HFLL.out
  obtain ⟨LF, hLF⟩ : ∃ LF, LF = F.length := ⟨_, rfl⟩
  obtain ⟨LT, hLT⟩ : ∃ LT, LT = tk.length := ⟨_, rfl⟩
  obtain ⟨LB, hLB⟩ : ∃ LB, LB = fl.length := ⟨_, rfl⟩
  have hni := natI_len fl
  obtain ⟨vF, hvF⟩ : ∃ vF, vF = Value.slice fa LF fc := ⟨_, rfl⟩
  obtain ⟨vT, hvT⟩ : ∃ vT, vT = Value.slice ta LT tc := ⟨_, rfl⟩
  obtain ⟨vB, hvB⟩ : ∃ vB, vB = Value.slice ba LB bc := ⟨_, rfl⟩
  rw [← hLF, ← hvF] at HF5 HNF
  rw [← hLT, ← hvT] at HT5 HNT
  rw [hni, ← hLB, ← hvB] at HV5 HNB
  rw [← hLF, ← hLT, hni, ← hLB]
  have hLF1 : LF ≤ 1024 := by omega
  have hLT1 : LT ≤ 1024 := by omega
  have hLB1 : LB ≤ 1024 := by omega
  have HLF := Lib.hid hLF
  have HLT := Lib.hid hLT
  have HLB := Lib.hid hLB
  have HVF := Lib.hid hvF
  have HVT := Lib.hid hvT
  have HVB := Lib.hid hvB
  obtain ⟨L, hL⟩ : ∃ L, L = F ++ tk := ⟨_, rfl⟩
  have HLL : Hid (L.length = LF + LT) := by unfold Hid; rw [hL, List.length_append, HLF.out, HLT.out]
  rw [← hL] at HIF HONE
  have HL := Lib.hid hL
  clear hFl hTl hBl hLF hLT hLB hni hvF hvT hvB hL
  go_wp2_with fail
  go_loopw [8] (fun i wr => ∃ k : Nat, k ≤ LF + LT ∧ i = .int .i64 k ∧ Hid (Cnt wr bn (cov (L.take k))) ∧ Hid (Chg (One bn) w5 wr)) (fun i _ => LF + LT - (RowKit.intOf i).toNat)
  case atStart => exact ⟨0, Nat.zero_le _, rfl, HN5.out, Chg.refl _ _⟩
  case round =>
    obtain ⟨k, hk, rfl, HN, HC⟩ := hrel
    by_cases hlt : k < LF + LT
    · have hd1 : decide ((k : Int) < (LF : Int) + (LT : Int)) = true := decide_eq_true (by omega)
      have hd2 : (k : Int) < (LF : Int) + (LT : Int) := by omega
      have hkL : k < L.length := by rw [HLL.out]; exact hlt
      obtain ⟨i1, i2, i3⟩ := HIF.out _ (List.getElem_mem hkL)
      have htk : L.take (k + 1) = L.take k ++ [L[k]] := by rw [List.take_add_one, List.getElem?_eq_getElem hkL]; rfl
      obtain ⟨⟨bs, bo⟩, hb⟩ : ∃ b, b = L[k] := ⟨_, rfl⟩
      rw [← hb] at i1 i2 i3 htk
      dsimp only at i1 i2 i3
      have HTK := Lib.hid htk
      have HB := Lib.hid hb
      clear htk hb
      obtain ⟨P, hP, hP1, hP2, hPw⟩ := one_shl (show bo ≤ 10 by omega)
      rw [← hP] at i2 i3
      have i2' : bs + P ≤ 32 := by omega
      have HP := Lib.hid hP
      have HPW := Lib.hid hPw
      have hm : (bs : Int) % (P : Int) = 0 := by have : ((bs % P : Nat) : Int) = 0 := by rw [i3]; rfl
                                                 simpa using this
      have HM := Lib.hid hm
      clear hP hPw i2 i3 hm
      have hgB := HC.out.size
      go_upto_if 39 with fail
      go_cut [9] (fun p wx => ∃ gB : Nat, p = .pointer (some ⟨gB, 0, none⟩) ∧ Hid (Blk wx gB #[.int .i64 (bs : Int), .int .i64 (bo : Int)] 45) ∧ Hid (gB ≠ bn ∧ w5.heap.size ≤ gB) ∧ Hid (Cnt wx bn (cov (L.take k))) ∧ Hid (Chg (One bn) w5 wx))
      case first =>
        have hcnt := HN.out.lt
        have hgap := HC.out.size
        by_cases hkF : k < LF
        · have e1 : decide (k < LF) = true := decide_eq_true hkF
          have e2 : (k : Int) < (LF : Int) := by omega
          have hF := own_one HF5.out HC.out HNF.out
          rw [HVF.out] at hF
          have hkF' : k < F.length := by rw [← HLF.out]; exact hkF
          obtain ⟨q, cap, hqv, _, hqs, _, _, hcell⟩ := bown_parts (l := F) (by rw [HLF.out] at hF; exact hF) (by omega)
          obtain rfl : fa = some ⟨q, 0, none⟩ := by injection hqv
          obtain ⟨c0, c1⟩ := hcell k hkF'
          have he : F[k] = (bs, bo) := by
            rw [HB.out]
            rcases app_get (F := F) (tk := tk) (k := k) (by rw [← HL.out]; exact hkL) with ⟨_, hk2, e⟩ | ⟨hk2, _⟩
            · rw [← e]; simp only [HL.out]
            · omega
          rw [he] at c0 c1
          simp only [Nat.zero_add] at c0 c1
          clear hF hqv hcell he hd1 HF5
          go_wp2_with fail
          go_meet
          refine ⟨_, rfl, ?_, ⟨by omega, by omega⟩, ?_, ?_⟩
          · exact Blk.new _ _ _
          · exact HN.out.kept ((Below.refl _ _).alloc (Nat.le_refl _) _)
          · exact HC.out.more ((Below.refl _ _).alloc (Nat.le_refl _) _)
        · have e1 : decide (k < LF) = false := decide_eq_false hkF
          have e2 : ¬ (k : Int) < (LF : Int) := by omega
          obtain ⟨m, hkm⟩ : ∃ m, k = LF + m := ⟨k - LF, by omega⟩
          have hF := own_one HT5.out HC.out HNT.out
          rw [HVT.out] at hF
          have hmT : m < tk.length := by rw [← HLT.out]; omega
          obtain ⟨q, cap, hqv, _, hqs, _, _, hcell⟩ := bown_parts (l := tk) (by rw [HLT.out] at hF; exact hF) (by omega)
          obtain rfl : ta = some ⟨q, 0, none⟩ := by injection hqv
          obtain ⟨c0, c1⟩ := hcell m hmT
          have he : tk[m] = (bs, bo) := by
            rw [HB.out]
            rcases app_get (F := F) (tk := tk) (k := k) (by rw [← HL.out]; exact hkL) with ⟨hk2, _⟩ | ⟨_, hk2, e⟩
            · rw [← HLF.out] at hk2; omega
            · have e3 : ∀ h, L[k] = (F ++ tk)[k]'h := fun h => by simp only [HL.out]
              rw [e3 (by rw [← HL.out]; exact hkL), e]; congr 1; rw [← HLF.out]; omega
          rw [he] at c0 c1
          simp only [Nat.zero_add] at c0 c1
          have hsub : IntKind.i64.wrap ((k : Int) - (LF : Int)) = (m : Int) := by rw [IntKind.wrap_i64]; omega
          have hmi : (m : Int) < (LT : Int) := by omega
          have hmn : m < LT := by omega
          clear hF hqv hcell he hd1 HF5 hkm
          go_wp2_with fail
          go_meet
          refine ⟨_, rfl, ?_, ⟨by omega, by omega⟩, ?_, ?_⟩
          · exact Blk.new _ _ _
          · exact HN.out.kept ((Below.refl _ _).alloc (Nat.le_refl _) _)
          · exact HC.out.more ((Below.refl _ _).alloc (Nat.le_refl _) _)
      case rest =>
        obtain ⟨gB, rfl, HG, HGB, HNx, HCx⟩ := hcut
        have g0 := HG.out.cell 0
        have g1 := HG.out.cell 1
        simp at g0 g1
        have hPw := HPW.out
        have hm := HM.out
        have d1 : decide ((bo : Int) < 0) = false := decide_eq_false (by omega)
        have d2 : decide (5 < (bo : Int)) = false := decide_eq_false (by omega)
        have d3 : decide ((bs : Int) < 0) = false := decide_eq_false (by omega)
        have d4 : decide (32 < (bs : Int) + (P : Int)) = false := decide_eq_false (by omega)
        have hPn : ¬ (P : Int) = 0 := by omega
        go_wp2_with fail
        go_loopw [10] (fun i wi => ∃ j : Nat, j ≤ P ∧ i = .int .i64 j ∧ Hid (Blk wi gB #[.int .i64 (bs : Int), .int .i64 (bo : Int)] 45) ∧ Hid (Cnt wi bn (covW (L.take k) (bs, bo) j)) ∧ Hid (Chg (One bn) w5 wi)) (fun i _ => P - (RowKit.intOf i).toNat)
        case atStart => exact ⟨0, Nat.zero_le _, rfl, HG, HNx.out.congr (covW_zero _ _).symm, HCx⟩
        case round =>
          obtain ⟨j, hj, rfl, HGj, HNj, HCj⟩ := hrel
          have g0 := HGj.out.cell 0
          have g1 := HGj.out.cell 1
          simp at g0 g1
          by_cases hltj : j < P
          · have hj1 : decide (j < P) = true := decide_eq_true hltj
            have hj2 : (j : Int) < (P : Int) := by omega
            have hx32 : bs + j < 32 := by omega
            have c0 := HNj.out.cell hx32
            have f0 := HNj.out.free (x := bs + j)
            have hcv := covW_le (L.take k) (bs, bo) j (bs + j)
            have hcl : (L.take k).length ≤ k := List.length_take_le _ _
            obtain ⟨cv, hcv2⟩ : ∃ cv, cv = covW (L.take k) (bs, bo) j (bs + j) := ⟨_, rfl⟩
            rw [← hcv2] at c0 hcv
            have HCV := Lib.hid hcv2
            have hcb : cv ≤ 4096 := by omega
            have hxi : (bs : Int) + (j : Int) < 32 := by omega
            have hxc : (bs : Int) + (j : Int) = ((bs + j : Nat) : Int) := by simp
            have htn : ((bs : Int) + (j : Int)).toNat = bs + j := by omega
            have HXC := Lib.hid hxc
            clear hcv hcl hcv2 hxc
            go_wp2_with fail
            go_roundw
            case rel =>
              refine ⟨j + 1, hltj, by go_num, HGj.out.other (by exact HGB.out.1) _, ?_, ?_⟩
              · have := HNj.out.set (m := cv + 1) hx32
                refine Cnt.congr (f := fun y => if y = bs + j then cv + 1 else covW (L.take k) (bs, bo) j y) ?_ ?_
                · exact this
                · rw [covW_succ]; funext y
                  by_cases e : y = bs + j
                  · subst e; simp only [if_true]; rw [HCV.out]
                  · simp only [e, if_false]
              · exact HCj.out.trans (Chg.setCell _ _ rfl)
            case measure => simp [RowKit.intOf]; omega
          · have hj1 : decide (j < P) = false := decide_eq_false hltj
            have hj2 : ¬ (j : Int) < (P : Int) := by omega
            have hjP : j = P := by omega
            have HNk : Hid (Cnt wr bn (cov (L.take (k + 1)))) := by
              unfold Hid
              refine HNj.out.congr ?_
              rw [hjP, HP.out, covW_all (L.take k) (bs, bo), ← HTK.out]
            clear hjP hltj
            go_wp2_with fail
            go_roundw
            case rel => exact ⟨k + 1, hlt, by go_num, HNk, HCj⟩
            case measure => simp [RowKit.intOf]; omega
    · have hd1 : decide ((k : Int) < (LF : Int) + (LT : Int)) = false := decide_eq_false (by omega)
      have hd2 : ¬ (k : Int) < (LF : Int) + (LT : Int) := by omega
      have hd3 : decide (k < LF + LT) = false := decide_eq_false hlt
      have HN0 : Hid (Cnt wr bn (covF L tk (fl.take 0))) := by
        unfold Hid
        refine HN.out.congr ?_
        rw [List.take_of_length_le (by rw [HLL.out]; omega), List.take_zero, covF_zero]
      clear hlt hk
      go_wp2_with fail
      go_loopw [11] (fun i wr => ∃ k : Nat, k ≤ LB ∧ i = .int .i64 k ∧ Hid (Cnt wr bn (covF L tk (fl.take k))) ∧ Hid (Chg (One bn) w5 wr)) (fun i _ => LB - (RowKit.intOf i).toNat)
      case atStart => exact ⟨0, Nat.zero_le _, rfl, HN0, HC⟩
      case round =>
        obtain ⟨k, hk, rfl, HN, HC⟩ := hrel
        by_cases hlt : k < LB
        · have hl1 : decide (k < LB) = true := decide_eq_true hlt
          have hl2 : (k : Int) < (LB : Int) := by omega
          have hkB : k < fl.length := by rw [← HLB.out]; exact hlt
          have hx32 := HFR.out _ (List.getElem_mem hkB)
          have htk : fl.take (k + 1) = fl.take k ++ [fl[k]] := by rw [List.take_add_one, List.getElem?_eq_getElem hkB]; rfl
          have hV := own_one HV5.out HC.out HNB.out
          rw [HVB.out] at hV
          have hV' : NOwn wr 0 (.slice ba LB bc) (natI fl) := by
            exact hV
          obtain ⟨q, cap, hqv, _, hqs, _, _, hcell⟩ := nown_parts hV' (by rw [natI_len]; omega)
          have hqa : ba = some ⟨q, 0, none⟩ := by injection hqv
          subst hqa
          have c0 := hcell k (by rw [natI_len]; exact hkB)
          rw [natI_at hkB] at c0
          obtain ⟨x, hx⟩ : ∃ x, x = fl[k] := ⟨_, rfl⟩
          rw [← hx] at c0 hx32 htk
          try simp only [Nat.zero_add] at c0
          have HC0 := Lib.hid c0
          have HTK := Lib.hid htk
          have HX32 := Lib.hid hx32
          have HYr : Hid (YI wr g (fun k => w.heap.size ≤ k ∧ k ≠ bn) 5 (opn 5 tk fl) tk fl) := HY5.out.2.stays HC.out (fun k _ h e => h.2 e) (fun k hk => by have := HC.out.size; have := HL5.out; have := HBN.out; exact ⟨by omega, by omega⟩)
          have HD := Lib.hid (Held_any g _ 5 _ _ _ (x : Int) wr HY5.out.1.tlen HY5.out.1.small HYr.out)
          have d1 : decide ((x : Int) < 0) = false := decide_eq_false (by omega)
          have d2 : decide (31 < (x : Int)) = false := decide_eq_false (by omega)
          clear hV hV' hqv hcell htk hx
          go_wp2_with fail
          refine HD.out.mono ?_; rintro e w6 ⟨b, f, rfl, hH, b6⟩
          have hf := hH.held
          obtain ⟨⟨bs, bo⟩, hbb⟩ : ∃ b', b = b' := ⟨b, rfl⟩
          rw [hbb]
          unfold bkV
          have HF := Lib.hid hf
          have c6 := cell_next b6 HC0.out
          have HN6 := Lib.hid (HN.out.kept b6)
          have HC6 := Lib.hid (HC.out.more b6)
          obtain ⟨wA, hwA⟩ : ∃ wA, wA = w6.alloc (.cells #[.int .i64 (bs : Int), .int .i64 (bo : Int)] 45) := ⟨_, rfl⟩
          have hbA : Below w6.heap.size w6 wA := by rw [hwA]; exact (Below.refl _ _).alloc (Nat.le_refl _) _
          have HNA := Lib.hid (HN6.out.kept hbA)
          have HCA := Lib.hid (HC6.out.more hbA)
          have cA := cell_next hbA c6
          have c1 := HNA.out.cell HX32.out
          have f1 := HNA.out.free (x := x)
          have hcv := covF_le L tk (fl.take k) x
          have hcl : (fl.take k).length ≤ k := List.length_take_le _ _
          have hLm := HLL.out
          obtain ⟨cv, hcv2⟩ : ∃ cv, cv = covF L tk (fl.take k) x := ⟨_, rfl⟩
          rw [← hcv2] at c1 hcv
          have HCV := Lib.hid hcv2
          have hcb : cv ≤ 8192 := by omega
          have hx32i : (x : Int) < 32 := by have := HX32.out; omega
          clear hf hH b6 hbb hbA hcv hcl hLm hcv2 HD c0 c6
          cases hfb : heldB tk x with
          | true =>
            rw [hfb] at HF
            have hft : f = true := HF.out
            subst hft
            clear c1 f1 cA
            go_wp2_with fail
            rw [← hwA]
            clear hwA
            go_roundw
            case rel => exact ⟨k + 1, hlt, by go_num, by rw [HTK.out, covF_held _ _ _ _ hfb]; exact HNA, HCA⟩
            case measure => simp [RowKit.intOf]; omega
          | false =>
            rw [hfb] at HF
            have hft : f = false := HF.out
            subst hft
            subst hwA
            go_wp2_with fail
            go_roundw
            case rel =>
              refine ⟨k + 1, hlt, by go_num, ?_, ?_⟩
              · have := HNA.out.set (m := cv + 1) HX32.out
                rw [HTK.out, covF_free _ _ _ _ hfb]
                refine Cnt.congr (f := fun y => if y = x then cv + 1 else covF L tk (fl.take k) y) ?_ ?_
                · exact this
                · funext y
                  by_cases e : y = x
                  · subst e; simp only [if_true]; rw [HCV.out]
                  · simp only [e, if_false]
              · have := HCA.out.trans (Chg.setCell x (.int .i64 (((cv + 1 : Nat)) : Int)) (b := bn) (own := One bn) rfl)
                exact this
            case measure => simp [RowKit.intOf]; omega
        · have hl1 : decide (k < LB) = false := decide_eq_false hlt
          have hl2 : ¬ (k : Int) < (LB : Int) := by omega
          have HN1 : Hid (Cnt wr bn (covF L tk fl)) := by
            unfold Hid
            refine HN.out.congr ?_
            rw [List.take_of_length_le (by rw [← HLB.out]; omega)]
          obtain ⟨wD, hwD⟩ : ∃ wD, wD = wr := ⟨_, rfl⟩
          subst hwD
          clear hlt hk
          go_wp2_with fail
          go_loop [14] (fun i => ∃ k : Nat, k ≤ 32 ∧ i = .int .i64 k) (fun i => 32 - (RowKit.intOf i).toNat)
          case atStart => exact ⟨0, by omega, rfl⟩
          case round =>
            obtain ⟨k, hk, rfl⟩ := hrel
            by_cases hlt : (k : Int) < 32
            · have hl1 : decide ((k : Int) < 32) = true := decide_eq_true hlt
              have c0 := HN1.out.cell (x := k) (by omega)
              rw [HONE.out k (by omega)] at c0
              go_wp2_with fail
              go_round
              case rel => exact ⟨k + 1, by omega, by go_num⟩
              case measure => simp [RowKit.intOf]; omega
            · have hl1 : decide ((k : Int) < 32) = false := decide_eq_false hlt
              clear hk
              have HFd := own_one HF5.out HC.out HNF.out
              rw [HVF.out, HLF.out] at HFd
              have HFD := Lib.hid HFd
              have HB6 : Hid (Below w.heap.size w wD) := HB5.out.trans (HC.out.to_below HB5.out.size (fun k hk e => by have := HBN.out.1; have : k = bn := e; omega))
              have HIL : Hid (∀ b ∈ F, b.2 ≤ 5 ∧ b.1 + 2 ^ b.2 ≤ 2 ^ 5 ∧ b.1 % 2 ^ b.2 = 0) := fun b hb => HIF.out b (by rw [HL.out]; exact List.mem_append_left _ hb)
              clear HFd
              go_wp2_with fail
              go_loopw [15] (fun i wi => ∃ t : Nat, (t + 1 ≤ LF ∨ t = 0) ∧ i = .int .i64 ((t : Int) + 1) ∧ Hid (Below wD.heap.size wD wi)) (fun i _ => LF + 1 - (RowKit.intOf i).toNat)
              case atStart => exact ⟨0, .inr rfl, rfl, Below.refl _ _⟩
              case round =>
                obtain ⟨t, ht, rfl, HBi⟩ := hrel
                by_cases hlt : t + 1 < LF
                · have hl1 : decide ((t : Int) + 1 < (LF : Int)) = true := decide_eq_true (by omega)
                  have hl2 : (t : Int) + 1 < (LF : Int) := by omega
                  have hl3 : (t : Int) < (LF : Int) := by omega
                  have hl4 : t < LF := by omega
                  have hF1 : t + 1 < F.length := by rw [← HLF.out]; exact hlt
                  have hF0 : t < F.length := by omega
                  have hFi := own_older HFD.out HBi.out
                  obtain ⟨q, cap, hqv, _, hqs, _, _, hcell⟩ := bown_parts hFi (by omega)
                  have hqa : fa = some ⟨q, 0, none⟩ := by injection hqv
                  subst hqa
                  obtain ⟨c0, c1⟩ := hcell (t + 1) hF1
                  obtain ⟨d0, d1⟩ := hcell t hF0
                  obtain ⟨i1, i2, i3⟩ := HIL.out _ (List.getElem_mem hF0)
                  obtain ⟨j1, j2, j3⟩ := HIL.out _ (List.getElem_mem hF1)
                  have hbd := HBUD.out (t + 1) t hF1 hF0
                  obtain ⟨⟨az, ao⟩, ha⟩ : ∃ b, b = F[t + 1] := ⟨_, rfl⟩
                  obtain ⟨⟨cs, co⟩, hc⟩ : ∃ b, b = F[t] := ⟨_, rfl⟩
                  rw [← ha] at c0 c1 j1 j2 j3 hbd
                  rw [← hc] at d0 d1 i1 i2 i3 hbd
                  simp only [Nat.zero_add] at c0 c1 d0 d1
                  dsimp only at c0 c1 d0 d1 i1 i2 i3 j1 j2 j3 hbd
                  have hti : IntKind.i64.wrap (t : Int) = (t : Int) := by rw [IntKind.wrap_i64]; omega
                  have htn : ((t : Int) + 1).toNat = t + 1 := by omega
                  have hcs : cs < 4096 := by have := two_pos co; omega
                  have hasm : az < 4096 := by have := two_pos ao; omega
                  clear hFi hqv hcell ha hc
                  go_upto_region 37 with fail
                  go_cut [184] (fun sl wx => sl = .bool false ∧ Hid (Below wD.heap.size wD wx))
                  case first =>
                    by_cases he : ao = co
                    · subst he
                      obtain ⟨P, hP, hP1, hP2, hPw⟩ := one_shl (show ao ≤ 10 by omega)
                      have hx := xor_bud_i (show ao ≤ 10 by omega) hcs i3 hP
                      have hne := hbd rfl
                      obtain ⟨B, hB⟩ : ∃ B, B = bud ao cs := ⟨_, rfl⟩
                      rw [← hB] at hx hne
                      have hne1 : ((az : Int) == (B : Int)) = false := beq_eq_false_iff_ne.2 (by omega)
                      have hne2 : (az == B) = false := beq_eq_false_iff_ne.2 hne
                      clear hP hB i2 j2 i3 j3 hbd
                      go_region
                      go_wp2_with fail
                      go_meet
                      exact ⟨rfl, by first | exact below_drewN HBi.out _ | exact HBi.out.drew⟩
                    · have hne1 : ((ao : Int) == (co : Int)) = false := beq_eq_false_iff_ne.2 (by omega)
                      have hne2 : (ao == co) = false := beq_eq_false_iff_ne.2 he
                      clear hbd i2 j2 i3 j3
                      go_region
                      go_wp2_with fail
                      go_meet
                      exact ⟨rfl, by first | exact below_drewN HBi.out _ | exact HBi.out.drew⟩
                  case rest =>
                    obtain ⟨rfl, HBx⟩ := hcut
                    clear hbd i2 j2 i3 j3
                    go_wp2_with fail
                    go_roundw
                    case rel => exact ⟨t + 1, .inl (by omega), by go_num, HBx⟩
                    case measure => simp [RowKit.intOf]; omega
                · have hl1 : decide ((t : Int) + 1 < (LF : Int)) = false := decide_eq_false (by omega)
                  have hl2 : ¬ (t : Int) + 1 < (LF : Int) := by omega
                  have HB7 := Lib.hid (HB6.out.trans (HBi.out.mono HB6.out.size))
                  clear hlt ht
                  go_wp2_with fail
                  refine (K.out _).mono ?_; rintro e w8 ⟨rfl, b8⟩
                  have HB8 := Lib.hid (HB7.out.trans (b8.mono HB7.out.size))
                  clear b8
                  go_wp2_with fail
                  go_ret
                  exact ⟨rfl, HB8.out⟩


set_option maxRecDepth 100000 in
theorem lifted (os : Os) (started : os.Started) (H : Type) (enc : TypeId × Value → H) :
    ReturnsInHanded {} Try.checked os 4 .any (Rows.buddyWholeSpec.pre6 enc Try.prog Try.f4 Rows.buddyWholeRow.domain false) (Rows.buddyWholeSpec.post enc Try.prog Try.f4 false true false false) := by
  refine returnsInHanded_of_change (C := Try.checked) own started (by kernel_rfl) Try.func4
    (ChangeSpec.witness6 (enc := enc) (C := Try.checked) false ⟨#[], #[.slice none 0 0], []⟩ 8 (by kernel_rfl) (by kernel_rfl) (by kernel_rfl) (by kernel_rfl)) ?_
  intro W base args ds gs before hval0 hW _ _
  have hval : ∀ (j : Nat) t v, Try.f4.params[j]? = some t → args[j]? = some v → Value.okWide Try.prog W .any base t v := hval0
  have hW' := hW
  obtain ⟨p, q, hA0, hV, rfl, hfz, hnd⟩ := hW
  have hA : DataW.TrodAll enc Try.prog W 0 (fun _ => true) true Try.f4.params.toList args.toList ds p := hA0
  rw [Try.params4] at hA hval
  obtain ⟨v0, vs0, d0, ds0, p0, q0, hargs, rfl, rfl, h0, r0⟩ := trodAll_cons hA
  obtain ⟨rfl, rfl, rfl⟩ := trodAll_nil r0
  obtain rfl : args = #[v0] := by cases args; simp_all
  obtain ⟨l, w0⟩ := open_acts_arg h0 (okWide_slice Try.underlying22 (hval 0 22 v0 rfl rfl))
  clear hA0 hval0
  refine (walk v0 l W w0).mono fun e W' ⟨he, hb⟩ => ?_
  subst he
  exact ⟨_, rfl, law_post (by kernel_rfl) (by kernel_rfl) rfl Try.underlying4 rfl hW' rfl hb⟩

theorem over : Rows.buddyWholeRow.holds Try.pinned (OpenSpec.ofChange Rows.buddyWholeSpec) :=
  OpenClaim.holds_of_wide 4 Try.f4 rfl rfl rfl rfl rfl rfl rfl ⟨rfl, rfl, rfl, rfl, rfl⟩ rfl rfl rfl rfl rfl (by kernel_rfl) Try.func4 (by kernel_rfl)
    (of_decide_eq_true (by kernel_rfl)) (by unfold Func.isWrapper; first | (rw [if_pos (by decide +kernel)]; kernel_rfl) | (rw [if_neg (by decide +kernel)]; exact ⟨rfl, rfl⟩))
    (fun os started H enc _ => lifted os started H enc)

theorem proved : Rows.BuddyWholeSaid :=
  over
#print axioms proved
end Go.Proofs.Ytcdlfhheolbhaaa.buddyWhole
