/-
  BuddyFails: a failed worker is in no free block; a block that holds one stays taken; healed, all is as if it had never failed: so the law returns true for every input.
-/
import Derived.Test.YtcdlfhheolbhaaaYfC
import Derived.Test.YtcdlfhheolbhaaaRows
import Derived.Test.YtcdlfhheolbhaaaArgs2
namespace Go.Proofs.Ytcdlfhheolbhaaa.buddyFails
open Go.ChangeShapes Go.WideShapes Go.ChangeAt Go.RowKit
set_option linter.unusedVariables false

theorem own : ownKnob Try.prog.godebug = none := by kernel_rfl

open Go Go.ChangeShapes Go.WideShapes Go.ChangeAt Go.RowKit Go.Lib
set_option maxRecDepth 100000 in
set_option maxHeartbeats 2000000 in
theorem walk (v0 : Value) (l : List Ac) (v1 : Value) (ws : List Int) (w : World) (h0 : AArg w v0 l) (h1 : IntsArg w .i64 v1 ws) :
    Calls Try.prog 8 #[v0, v1] w fun e w' => e = .returned (.bool true) ∧ Below w.heap.size w w' := by
  have YD := Lib.hid (yard_any v0 l w h0.2 h0.1)
  have K : Hid (∀ w1, Calls Try.prog 11 #[] w1 fun e w' => e = .returned (.bool true) ∧ Below w1.heap.size w1 w') := known4_any
  obtain ⟨i0, hi, hz0, hz1, hz2⟩ := info_parts Try.infoNum
  have HG := Lib.hid (grow_of_ints h1)
  obtain ⟨ga, gc, hv⟩ := HG.out.slice
  subst hv
  clear h0 h1
  go_enter Try.func8, Try.ntmps8
  go_wp2_with fail
  refine YD.out.mono ?_; rintro e w1 ⟨g, tk, fl, rfl, _, hY, hb⟩
  have HY1 := Lib.hid hY
  have HB1 := Lib.hid hb
  clear hY hb YD
  have F1 := Lib.hid (Free_any g _ 5 _ _ _ w1 HY1.out.2)
  go_wp2_with fail
  refine F1.out.mono ?_; rintro e w2 ⟨vf, rfl, hof, b2⟩
  have HOf := Lib.hid hof
  have HB2 := Lib.hid b2
  have L2 := Lib.hid (Failed_any g _ 5 _ _ w2 (HY1.out.kept b2))
  clear hof b2 F1
  go_wp2_with fail
  refine L2.out.mono ?_; rintro e w3 ⟨vb, rfl, hob, b3⟩
  have HOb := Lib.hid hob
  have HB3 := Lib.hid b3
  have T3 := Lib.hid (Taken_any g _ 5 _ _ w3 ((HY1.out.kept HB2.out).kept b3))
  clear hob b3 L2
  go_wp2_with fail
  refine T3.out.mono ?_; rintro e w4 ⟨vt, rfl, hot, b4⟩
  have s12 := HB2.out.size
  have s23 := HB3.out.size
  have s34 := b4.size
  have hof4 := own_older (own_older HOf.out HB3.out) b4
  have hob4 := own_older HOb.out b4
  have hb14 : Below w1.heap.size w1 w4 := (HB2.out.trans (HB3.out.mono s12)).trans (b4.mono (Nat.le_trans s12 s23))
  have HY4 : Hid (YS w4 g (ownL w.heap.size [vf, vb, vt, .slice none 0 0]) 5 tk fl) := YS.rowsL HY1.out hb14 (fun v hv k hk => by
    simp at hv
    rcases hv with rfl | rfl | rfl | rfl
    · have := hof4.lt k hk; omega
    · have := hob4.lt k hk; omega
    · have := hot.lt k hk; omega
    · cases hk)
  have HR4 : Hid (BOwn w4 0 vf (freeL 5 (opn 5 tk fl)) ∧ NOwn w4 0 vb (natI fl) ∧ BOwn w4 0 vt tk) := ⟨hof4.mono (Nat.zero_le _), hob4.mono (Nat.zero_le _), hot.mono (Nat.zero_le _)⟩
  have HB4 := Lib.hid (HB1.out.trans (hb14.mono HB1.out.size))
  have HYZ := Lib.hid HY4.out.1.fs
  clear hof4 hob4 hot b4 hb14 T3 HOf HOb HY1 HB1 HB2 HB3 s12 s23 s34
  go_wp2_with fail
  go_loopg [9, 10] ws.length (fun gk sv i wr => ∃ (k N : Nat) (fl' D : List Nat) (sa : Option Addr) (sc : Nat), gk + k = ws.length ∧ k ≤ 20 ∧ i = .int .i64 k ∧ sv = .slice sa N sc ∧ Hid (N = D.length ∧ N ≤ k) ∧ Hid (FellR 5 fl fl' D) ∧
      Hid (wr.ownsRow 0 3 1 (.slice sa N sc) N (natL D)) ∧ Hid (YS wr g (ownL w.heap.size [vf, vb, vt, .slice sa N sc]) 5 tk fl') ∧ Hid (BOwn wr 0 vf (freeL 5 (opn 5 tk fl)) ∧ NOwn wr 0 vb (natI fl) ∧ BOwn wr 0 vt tk) ∧ Hid (∀ b, (Value.slice sa N sc).ownBlock = some b → (∀ v ∈ [vf, vb, vt], v.ownBlock ≠ some b) ∧ w.heap.size ≤ b) ∧ Hid (Below w.heap.size w wr))
  case atStart => exact ⟨0, 0, fl, [], none, 0, by omega, by omega, rfl, rfl, ⟨rfl, Nat.le_refl _⟩, FellR.zero _ _, World.ownsRow_nil _ _ _ _, HY4, HR4, fun b h => (by cases h), HB4⟩
  case round =>
    obtain ⟨k, N, fl', D, sa, sc, hk, hk20, rfl, rfl, HN, HF, HS, HY, HR, HD, HB⟩ := hrel
    obtain ⟨g1, hg1⟩ : ∃ g1, g1 = gk := ⟨_, rfl⟩
    have hgk1 : g1 + k = ws.length := by omega
    clear hg1
    by_cases hex : k < ws.length ∧ (k : Int) < 20
    · obtain ⟨hlt, h20⟩ := hex
      have hlt' : decide (k < ws.length) = true := decide_eq_true hlt
      have hlti : (k : Int) < (ws.length : Int) := by omega
      have hd20 : decide ((k : Int) < 20) = true := decide_eq_true h20
      rcases HG.out with ⟨h0, _⟩ | ⟨bb, off, c, hv, hc⟩
      · rw [h0] at hlt; simp at hlt
      · have hga : ga = some ⟨bb, off, none⟩ := by injection hv
        subst hga
        have c00 := hc k hlt
        have c0 := cell_next HB.out c00
        obtain ⟨x, hx⟩ : ∃ x, x = ws.getD k 0 := ⟨_, rfl⟩
        rw [← hx] at c0 c00
        have HC00 := Lib.hid c00
        have FL := Lib.hid (Fail_any g _ 5 tk fl' x wr HY.out)
        clear hc hv hx c00
        go_wp2_with fail
        refine FL.out.mono ?_; rintro e w5 ⟨er, fl2, rfl, hR, hY5, hC5⟩
        have HR5 : Hid (BOwn w5 0 vf (freeL 5 (opn 5 tk fl)) ∧ NOwn w5 0 vb (natI fl) ∧ BOwn w5 0 vt tk) := ⟨own_chg HR.out.1 hC5 (ownL_out (by simp)), own_chg HR.out.2.1 hC5 (ownL_out (by simp)), own_chg HR.out.2.2 hC5 (ownL_out (by simp))⟩
        have HS5 := Lib.hid (own_chg HS.out hC5 (ownL_out (by simp)))
        have HB5 : Hid (Below w.heap.size w w5) := HB.out.trans (hC5.to_below HB.out.size ownL_lo)
        have c5 := cell_next HB5.out HC00.out
        have HY5 := Lib.hid hY5
        have HRR := Lib.hid hR
        clear hR hY5 hC5 c0
        by_cases her : er = 0
        · obtain ⟨x', hxx, hx5, hxn, hfl2⟩ : ∃ x' : Nat, x = (x' : Int) ∧ x' < 2 ^ 5 ∧ x' ∉ fl' ∧ fl2 = insF fl' x' := by
            have := HRR.out
            cases this with
            | arg h => cases her
            | twice x' hq hx h => cases her
            | ok x' hq hx h => exact ⟨x', hq, hx, h, rfl⟩
          subst hxx
          subst her
          have HF2 : Hid (FellR 5 fl fl2 (D ++ [x'])) := by unfold Hid; rw [hfl2]; exact HF.out.step hx5 hxn
          have HXM : Hid (x' ∈ fl2) := by unfold Hid; rw [hfl2]; exact mem_insF.2 (.inl rfl)
          have HNEW : Hid (∀ q u, ([Value.int .i64 (x' : Int)])[q]? = some u → (w5.alloc (.cells #[.int .i64 (x' : Int)] 3)).cell? ((⟨w5.heap.size, 0, none⟩ : Addr).add q) = some u) := news_alloc w5 [.int .i64 (x' : Int)] 3
          have HOA := Lib.hid (HS5.out.alloc (.cells #[.int .i64 (x' : Int)] 3))
          have hN20 : N ≤ 20 := by have := HN.out.2; omega
          clear hfl2 hxn
          go_wp2_with (at_builtin; refine wpList_append_own_at _ rfl _ _ 23 rfl 0 3 i0 _ 1 8 Try.underlying23 hi hz0 hz1 hz2 rfl (by decide) _ _ _ rfl HOA.out _ 1 1 [.int .i64 (x' : Int)] rfl rfl HNEW.out (by intro u hu; simp at hu; subst hu; rfl) (by unfold maxLen; omega) (by omega) (Nat.zero_le _) ?_; intro v6 w6 hown6 hgrow6 hnil6 hat6; obtain ⟨a6, c6, rfl⟩ := own_slice hown6)
          have hb5 : Below w5.heap.size w5 (w5.alloc (.cells #[.int .i64 (x' : Int)] 3)) := (Below.refl _ _).alloc (Nat.le_refl _) _
          have hne : ∀ b, (Value.slice a6 (N + 1) c6).ownBlock = some b → (Value.slice sa N sc).ownBlock = some b ∨ b = w5.heap.size + 1 := fun b hb => by
            rcases hat6 with e | e
            · rw [e] at hb; exact .inl hb
            · rw [e] at hb; right; simp at hb; omega
          have hkeep : ∀ (base size n : Nat) (e : TypeId) (v : Value) (xs : List Value), v ∈ [vf, vb, vt] → w5.ownsRow base e size v n xs → w6.ownsRow base e size v n xs := fun base size n e v xs hv h => by
            refine (own_older h hb5).kept hgrow6 ?_
            cases hvb : v.ownBlock with
            | none => exact .inl rfl
            | some q => exact .inr fun e => (HD.out q e.symm).1 v hv hvb
          have HR6 : Hid (BOwn w6 0 vf (freeL 5 (opn 5 tk fl)) ∧ NOwn w6 0 vb (natI fl) ∧ BOwn w6 0 vt tk) := ⟨hkeep _ _ _ _ _ _ (by simp) HR5.out.1, hkeep _ _ _ _ _ _ (by simp) HR5.out.2.1, hkeep _ _ _ _ _ _ (by simp) HR5.out.2.2⟩
          have hY6 := (HY5.out.2.kept hb5).apartRow (v := .slice sa N sc) (v1 := .slice a6 (N + 1) c6) hgrow6 (ownL_out (by simp)) hat6 (fun b hb => (hown6.lt b hb).2)
          have HY6 : Hid (YS w6 g (ownL w.heap.size [vf, vb, vt, .slice a6 (N + 1) c6]) 5 tk fl2) := ⟨HY5.out.1, hY6.wider fun b hb => ⟨hb.1.1, fun v hv => by
            simp at hv
            rcases hv with rfl | rfl | rfl | rfl
            · exact hb.1.2 _ (by simp)
            · exact hb.1.2 _ (by simp)
            · exact hb.1.2 _ (by simp)
            · exact hb.2⟩⟩
          have HB6 : Hid (Below w.heap.size w w6) := (HB5.out.alloc HB5.out.size _).grown hgrow6 (by simp; have := HB5.out.size; omega) (fun b hb => (HD.out b hb).2)
          have HD6 : Hid (∀ b, (Value.slice a6 (N + 1) c6).ownBlock = some b → (∀ v ∈ [vf, vb, vt], v.ownBlock ≠ some b) ∧ w.heap.size ≤ b) := fun b hb => by
            have l1 := HR5.out.1.lt
            have l2 := HR5.out.2.1.lt
            have l3 := HR5.out.2.2.lt
            rcases hne b hb with e | e
            · exact HD.out b e
            · refine ⟨fun v hv h => ?_, by have := HB5.out.size; omega⟩
              simp at hv
              rcases hv with rfl | rfl | rfl
              · have := (l1 b h).2; omega
              · have := (l2 b h).2; omega
              · have := (l3 b h).2; omega
          have HS6 : Hid (w6.ownsRow 0 3 1 (.slice a6 (N + 1) c6) (N + 1) (natL (D ++ [x']))) := by unfold Hid; rw [natL_app]; exact hown6
          have FR := Lib.hid (Free_any g _ 5 _ _ _ w6 HY6.out.2)
          clear hb5 hne hkeep hY6 hown6 hgrow6 hnil6 hat6 c5
          refine FR.out.mono ?_; rintro e w7 ⟨vg, rfl, hog, b7⟩
          have HOg := Lib.hid hog
          have HB7 := Lib.hid b7
          clear hog b7 FR
          have HFL := Lib.hid (freeL_len (show 5 ≤ 10 by omega) (opn 5 tk fl2))
          have HNF : Hid (∀ b ∈ freeL 5 (opn 5 tk fl2), ¬ inB b.2 b.1 x' ∧ b.2 ≤ 5 ∧ b.1 < 32) := fun b hb => ⟨not_free HXM.out hb, (freeL_mem.1 hb).1, by have h := (freeL_mem.1 hb).2.2.1; have := two_pos b.2; omega⟩
          generalize freeL 5 (opn 5 tk fl2) = F at *
          obtain ⟨qa, qc, rfl⟩ := own_slice HOg.out
          have hFl := HFL.out
          obtain ⟨LF, hLF⟩ : ∃ LF, LF = F.length := ⟨_, rfl⟩
          rw [← hLF]
          have HLF := Lib.hid hLF
          clear hLF
          go_wp2_with fail
          go_loopg [12] LF (fun g2 i wi => ∃ j : Nat, g2 + j = LF ∧ i = .int .i64 j ∧ Hid (Below w7.heap.size w7 wi))
          case atStart => exact ⟨0, rfl, rfl, Below.refl _ _⟩
          case round =>
            obtain ⟨j, hgj, rfl, HBi⟩ := hrel
            by_cases hjl : j < LF
            · have hjd : decide (j < LF) = true := decide_eq_true hjl
              have hji : (j : Int) < (LF : Int) := by omega
              have hjF : j < F.length := by rw [← HLF.out]; exact hjl
              obtain ⟨q, cap, hqv, _, _, _, _, hcell⟩ := bown_parts HOg.out (by omega)
              have hqa : qa = some ⟨q, 0, none⟩ := by injection hqv
              subst hqa
              obtain ⟨d0, d1⟩ := (hcell.kept HBi.out) j hjF
              simp only [Nat.zero_add] at d0 d1
              have hnf := HNF.out _ (List.getElem_mem hjF)
              obtain ⟨⟨bs, bo⟩, hb⟩ : ∃ b, b = F[j] := ⟨_, rfl⟩
              rw [← hb] at d0 d1 hnf
              dsimp only at d0 d1 hnf
              obtain ⟨hni, hbo, hbs⟩ := hnf
              have c7 := cell_next ((HB6.out.trans (HB7.out.mono HB6.out.size)).trans (HBi.out.mono (Nat.le_trans HB6.out.size HB7.out.size))) HC00.out
              have hxb : x' < 32 := by have := hx5; omega
              clear hqv hcell hb
              obtain ⟨P, hP⟩ : ∃ P, P = 2 ^ bo := ⟨_, rfl⟩
              have hP32 : P ≤ 32 := by rw [hP]; have := Nat.pow_le_pow_right (n := 2) (by omega) hbo; simpa using this
              have hPw : IntKind.i64.wrap ((2 : Int) ^ bo) = (P : Int) := by
                have e : ((2 : Int) ^ bo) = (P : Int) := by rw [hP]; simp
                rw [e, IntKind.wrap_i64]; omega
              have hni' : ¬ ((bs : Int) ≤ (x' : Int) ∧ (x' : Int) < (bs : Int) + (P : Int)) := by unfold inB at hni; rw [← hP] at hni; omega
              have HNI := Lib.hid hni'
              have HPW := Lib.hid hPw
              clear hP hPw hni hni'
              go_upto_region 17 with fail
              go_cut [85] (fun sl wx => sl = .bool false ∧ Hid (Below w7.heap.size w7 wx))
              case first =>
                clear hd20 h20
                by_cases hge : (bs : Int) ≤ (x' : Int)
                · have hged : decide ((bs : Int) ≤ (x' : Int)) = true := decide_eq_true hge
                  have hout : ¬ (x' : Int) < (bs : Int) + (P : Int) := fun h => HNI.out ⟨hge, h⟩
                  have hPw := HPW.out
                  go_region
                  go_wp2_with fail
                  go_meet
                  exact ⟨rfl, by first | exact below_drewN HBi.out _ | exact HBi.out.drew⟩
                · have hged : decide ((bs : Int) ≤ (x' : Int)) = false := decide_eq_false hge
                  go_region
                  go_wp2_with fail
                  go_meet
                  exact ⟨rfl, by first | exact below_drewN HBi.out _ | exact HBi.out.drew⟩
              case rest =>
                obtain ⟨rfl, HBx⟩ := hcut
                go_wp2_with fail
                go_roundg (gk - 1)
                case measure => omega
                case rel => exact ⟨j + 1, by omega, by go_num, HBx⟩
            · have hjd : decide (j < LF) = false := decide_eq_false hjl
              have hji : ¬ ((j : Int) < (LF : Int)) := by omega
              have hb6 : Below w6.heap.size w6 wr := HB7.out.trans (HBi.out.mono HB7.out.size)
              have HB6b := Lib.hid hb6
              clear hb6
              go_wp2_with fail
              go_roundg (g1 - 1)
              case measure => omega
              case rel => exact ⟨k + 1, N + 1, fl2, D ++ [x'], a6, c6, by omega, by omega, by go_num, rfl, ⟨by rw [List.length_append, ← HN.out.1]; rfl, by have := HN.out.2; omega⟩, HF2, own_older HS6.out HB6b.out, HY6.out.kept HB6b.out, ⟨own_older HR6.out.1 HB6b.out, own_older HR6.out.2.1 HB6b.out, own_older HR6.out.2.2 HB6b.out⟩, HD6, HB6.out.trans (HB6b.out.mono HB6.out.size)⟩
        · have hde : (er == 0) = false := beq_eq_false_iff_ne.2 her
          have hfl2 : fl2 = fl' := by
            have := HRR.out
            cases this with
            | arg h => rfl
            | twice x' hq hx h => rfl
            | ok x' hq hx h => exact absurd rfl her
          have HTK := Lib.hid hfl2
          clear her hfl2
          go_wp2_with fail
          go_roundg (g1 - 1)
          case measure => omega
          case rel => exact ⟨k + 1, N, fl', D, sa, sc, by omega, by omega, by go_num, rfl, ⟨HN.out.1, by have := HN.out.2; omega⟩, HF, HS5, by rw [HTK.out] at HY5; exact HY5, HR5, HD, HB5⟩
    · have hor : (decide (k < ws.length) = true ∧ (k : Int) < (ws.length : Int) ∧ decide ((k : Int) < 20) = false ∧ ¬ (k : Int) < 20) ∨ (decide (k < ws.length) = false ∧ ¬ (k : Int) < (ws.length : Int) ∧ True ∧ True) := by
        by_cases h : k < ws.length
        · have h2 : ¬ (k : Int) < 20 := fun h' => hex ⟨h, h'⟩
          exact .inl ⟨decide_eq_true h, by omega, decide_eq_false h2, h2⟩
        · exact .inr ⟨decide_eq_false h, by omega, trivial, trivial⟩
      have hN20 : N ≤ 20 := by have := HN.out.2; omega
      have TK5 := Lib.hid (Taken_any g _ 5 _ _ wr HY.out)
      have HZ : Hid (HealdR 5 fl fl' D 0) := HealdR.zero HF.out HY.out.1.fs
      clear hex HD
      rcases hor with ⟨hx1, hx2, hx3, hx4⟩ | ⟨hx1, hx2, hx3, hx4⟩ <;>
      · go_wp2_with fail
        clear hx1 hx2 hx3 hx4
        refine TK5.out.mono ?_; rintro e w5 ⟨vt2, rfl, hot, b5⟩
        have htl := HY.out.1.tlen
        have S5 := Lib.hid (sameB_any vt2 vt _ _ w5 (by omega) (by omega) (brow_of_own hot) ((brow_of_own HR.out.2.2).kept b5))
        rw [decide_eq_true rfl] at S5
        have HB5 := Lib.hid b5
        clear hot b5 TK5 htl
        go_wp2_with fail
        refine S5.out.mono ?_; rintro e w6 ⟨rfl, b6⟩
        have hb6 : Below wr.heap.size wr w6 := HB5.out.trans (b6.mono HB5.out.size)
        have HY6 := Lib.hid (HY.out.kept hb6)
        have HS6 := Lib.hid (own_older HS.out hb6)
        have HR6 : Hid (BOwn w6 0 vf (freeL 5 (opn 5 tk fl)) ∧ NOwn w6 0 vb (natI fl) ∧ BOwn w6 0 vt tk) := ⟨own_older HR.out.1 hb6, own_older HR.out.2.1 hb6, own_older HR.out.2.2 hb6⟩
        have HB6 := Lib.hid (HB.out.trans (hb6.mono HB.out.size))
        clear hb6 b6 S5
        go_wp2_with fail
        go_loopw [13] (fun i wq => ∃ (j : Nat) (flj : List Nat), j ≤ N ∧ i = .int .i64 j ∧ Hid (HealdR 5 fl flj D j) ∧ Hid (YS wq g (ownL w.heap.size [vf, vb, vt, .slice sa N sc]) 5 tk flj) ∧ Hid (BOwn wq 0 vf (freeL 5 (opn 5 tk fl)) ∧ NOwn wq 0 vb (natI fl) ∧ BOwn wq 0 vt tk) ∧ Hid (wq.ownsRow 0 3 1 (.slice sa N sc) N (natL D)) ∧ Hid (Below w.heap.size w wq)) (fun i _ => N - (RowKit.intOf i).toNat)
        case atStart => exact ⟨0, fl', Nat.zero_le _, rfl, HZ, HY6, HR6, HS6, HB6⟩
        case round =>
          obtain ⟨j, flj, hj, rfl, HJ, HYj, HRj, HSj, HBj⟩ := hrel
          by_cases hlt : j < N
          · have hlt' : decide (j < N) = true := decide_eq_true hlt
            have hlti : (j : Int) < (N : Int) := by omega
            obtain ⟨q, hsa⟩ := own_addr HSj.out (by omega)
            subst hsa
            have hjD : j < D.length := by rw [← HN.out.1]; exact hlt
            have c0 := own_cell HSj.out hjD
            obtain ⟨s1, s2, s3⟩ := HealdR.step HF.out HJ.out hjD
            obtain ⟨x, hx⟩ : ∃ x, x = D.getD j 0 := ⟨_, rfl⟩
            have hxe : D[j] = x := by rw [hx, List.getD_eq_getElem?_getD, List.getElem?_eq_getElem hjD]; rfl
            rw [hxe] at s1 s2 s3
            rw [← hx] at c0
            have hx5 : x < 2 ^ 5 := by rw [← hxe]; exact HF.out.rg _ (List.getElem_mem hjD)
            have HX := Lib.hid hx
            have HX5 := Lib.hid hx5
            have S1 := Lib.hid s1
            have S2 := Lib.hid s2
            have S3 := Lib.hid s3
            have FL := Lib.hid (Fail_any g _ 5 tk flj (x : Int) wr HYj.out)
            clear s1 s2 s3 hx hxe hx5
            go_wp2_with fail
            refine FL.out.mono ?_; rintro e w7 ⟨er, fl2, rfl, hR, hY7, hC7⟩
            obtain ⟨rfl, rfl⟩ := fail_twice hR HX5.out S1.out
            have HS7 := Lib.hid (own_chg HSj.out hC7 (ownL_out (by simp)))
            have c7 := own_cell HS7.out hjD
            rw [← HX.out] at c7
            have HC7 := Lib.hid hC7
            have HL := Lib.hid (Heal_any g _ 5 tk _ (x : Int) w7 hY7)
            clear hR hY7 hC7 FL c0
            go_wp2_with fail
            refine HL.out.mono ?_; rintro e w8 ⟨er, fl3, rfl, hR, hY8, hC8⟩
            obtain ⟨rfl, rfl⟩ := heal_ok hR HX5.out S1.out
            have HS8 := Lib.hid (own_chg HS7.out hC8 (ownL_out (by simp)))
            have c8 := own_cell HS8.out hjD
            rw [← HX.out] at c8
            have HC8 := Lib.hid (HC7.out.trans hC8)
            have HL8 := Lib.hid (Heal_any g _ 5 tk _ (x : Int) w8 hY8)
            clear hR hY8 hC8 HL c7
            go_wp2_with fail
            refine HL8.out.mono ?_; rintro e w9 ⟨er, fl4, rfl, hR, hY9, hC9⟩
            obtain ⟨rfl, rfl⟩ := heal_none hR HX5.out S3.out
            have HC9 := Lib.hid (HC8.out.trans hC9)
            have HS9 := Lib.hid (own_chg HS8.out hC9 (ownL_out (by simp)))
            have HY9 := Lib.hid hY9
            clear hR hY9 hC9 HL8 c8
            go_wp2_with fail
            go_roundw
            case rel => exact ⟨j + 1, _, hlt, by go_num, S2, HY9, ⟨own_chg HRj.out.1 HC9.out (ownL_out (by simp)), own_chg HRj.out.2.1 HC9.out (ownL_out (by simp)), own_chg HRj.out.2.2 HC9.out (ownL_out (by simp))⟩, HS9, HBj.out.trans (HC9.out.to_below HBj.out.size ownL_lo)⟩
            case measure => simp [RowKit.intOf]; omega
          · have hlt' : decide (j < N) = false := decide_eq_false hlt
            have hlti : ¬ ((j : Int) < (N : Int)) := by omega
            have hback : flj = fl := HJ.out.all HYZ.out (by rw [← HN.out.1]; omega)
            have HYe : Hid (YS wr g (ownL w.heap.size [vf, vb, vt, .slice sa N sc]) 5 tk fl) := by have := HYj.out; rw [hback] at this; exact this
            have F6 := Lib.hid (Free_any g _ 5 _ _ _ wr HYe.out.2)
            clear hback
            go_wp2_with fail
            refine F6.out.mono ?_; rintro e w7 ⟨vf2, rfl, hof, b7⟩
            have hfl := freeL_len (show 5 ≤ 10 by omega) (opn 5 tk fl)
            have S7 := Lib.hid (sameB_any vf2 vf _ _ w7 (by omega) (by omega) (brow_of_own hof) ((brow_of_own HRj.out.1).kept b7))
            rw [decide_eq_true rfl] at S7
            have HY7 := Lib.hid (HYe.out.kept b7)
            have HR7 : Hid (NOwn w7 0 vb (natI fl) ∧ BOwn w7 0 vt tk) := ⟨own_older HRj.out.2.1 b7, own_older HRj.out.2.2 b7⟩
            have HB7 := Lib.hid (HBj.out.trans (b7.mono HBj.out.size))
            clear hof b7 F6 hfl
            go_wp2_with fail
            refine S7.out.mono ?_; rintro e w8 ⟨rfl, b8⟩
            have HY8 := Lib.hid (HY7.out.kept b8)
            have HR8 : Hid (NOwn w8 0 vb (natI fl) ∧ BOwn w8 0 vt tk) := ⟨own_older HR7.out.1 b8, own_older HR7.out.2 b8⟩
            have HB8 := Lib.hid (HB7.out.trans (b8.mono HB7.out.size))
            have F8 := Lib.hid (Failed_any g _ 5 _ _ w8 HY8.out)
            clear b8 S7
            go_wp2_with fail
            refine F8.out.mono ?_; rintro e w9 ⟨vb2, rfl, hob, b9⟩
            have hfn := HY8.out.1.flen
            have S9 := Lib.hid (sameN_any vb2 vb _ _ w9 (by rw [natI_len]; omega) (by rw [natI_len]; omega) (grow_of_own hob) ((grow_of_own HR8.out.1).kept b9))
            rw [decide_eq_true rfl] at S9
            have HY9 := Lib.hid (HY8.out.kept b9)
            have HR9 := Lib.hid (own_older HR8.out.2 b9)
            have HB9 := Lib.hid (HB8.out.trans (b9.mono HB8.out.size))
            clear hob b9 F8 hfn
            go_wp2_with fail
            refine S9.out.mono ?_; rintro e wa ⟨rfl, ba⟩
            have HYa := Lib.hid (HY9.out.kept ba)
            have HRa := Lib.hid (own_older HR9.out ba)
            have HBa := Lib.hid (HB9.out.trans (ba.mono HB9.out.size))
            have Ta := Lib.hid (Taken_any g _ 5 _ _ wa HYa.out)
            clear ba S9
            go_wp2_with fail
            refine Ta.out.mono ?_; rintro e wb ⟨vt3, rfl, hot, bb⟩
            have htl := HYa.out.1.tlen
            have Sb := Lib.hid (sameB_any vt3 vt _ _ wb (by omega) (by omega) (brow_of_own hot) ((brow_of_own HRa.out).kept bb))
            rw [decide_eq_true rfl] at Sb
            have HBb := Lib.hid (HBa.out.trans (bb.mono HBa.out.size))
            clear hot bb Ta htl
            go_wp2_with fail
            refine Sb.out.mono ?_; rintro e wc ⟨rfl, bc⟩
            have HBc := Lib.hid (HBb.out.trans (bc.mono HBb.out.size))
            clear bc Sb
            go_wp2_with fail
            refine (K.out _).mono ?_; rintro e wd ⟨rfl, bd⟩
            have HBd := Lib.hid (HBc.out.trans (bd.mono HBc.out.size))
            clear bd
            go_wp2_with fail
            go_ret
            exact ⟨rfl, HBd.out⟩


set_option maxRecDepth 100000 in
theorem lifted (os : Os) (started : os.Started) (H : Type) (enc : TypeId × Value → H) :
    ReturnsInHanded {} Try.checked os 8 .any (Rows.buddyFailsSpec.pre6 enc Try.prog Try.f8 Rows.buddyFailsRow.domain false) (Rows.buddyFailsSpec.post enc Try.prog Try.f8 false true false false) := by
  refine returnsInHanded_of_change (C := Try.checked) own started (by kernel_rfl) Try.func8
    (ChangeSpec.witness6 (enc := enc) (C := Try.checked) false ⟨#[], #[.slice none 0 0, .slice none 0 0], []⟩ 8 (by kernel_rfl) (by kernel_rfl) (by kernel_rfl) (by kernel_rfl)) ?_
  intro W base args ds gs before hval0 hW _ _
  have hval : ∀ (j : Nat) t v, Try.f8.params[j]? = some t → args[j]? = some v → Value.okWide Try.prog W .any base t v := hval0
  have hW' := hW
  obtain ⟨p, q, hA0, hV, rfl, hfz, hnd⟩ := hW
  have hA : DataW.TrodAll enc Try.prog W 0 (fun _ => true) true Try.f8.params.toList args.toList ds p := hA0
  rw [Try.params8] at hA hval
  obtain ⟨v0, vs0, d0, ds0, p0, q0, hargs, rfl, rfl, h0, r0⟩ := trodAll_cons hA
  obtain ⟨v1, vs1, d1, ds1, p1, q1, rfl, rfl, rfl, h1, r1⟩ := trodAll_cons r0
  obtain ⟨rfl, rfl, rfl⟩ := trodAll_nil r1
  obtain rfl : args = #[v0, v1] := by cases args; simp_all
  obtain ⟨l, w0⟩ := open_acts_arg h0 (okWide_slice Try.underlying22 (hval 0 22 v0 rfl rfl))
  obtain ⟨ws, w1⟩ := open_ints_arg Try.underlying23 Try.underlying3 (by kernel_rfl) h1 (okWide_slice Try.underlying23 (hval 1 23 v1 rfl rfl))
  clear hA0 hval0
  refine (walk v0 l v1 ws W w0 w1).mono fun e W' ⟨he, hb⟩ => ?_
  subst he
  exact ⟨_, rfl, law_post (by kernel_rfl) (by kernel_rfl) rfl Try.underlying4 rfl hW' rfl hb⟩

theorem over : Rows.buddyFailsRow.holds Try.pinned (OpenSpec.ofChange Rows.buddyFailsSpec) :=
  OpenClaim.holds_of_wide 8 Try.f8 rfl rfl rfl rfl rfl rfl rfl ⟨rfl, rfl, rfl, rfl, rfl⟩ rfl rfl rfl rfl rfl (by kernel_rfl) Try.func8 (by kernel_rfl)
    (of_decide_eq_true (by kernel_rfl)) (by unfold Func.isWrapper; first | (rw [if_pos (by decide +kernel)]; kernel_rfl) | (rw [if_neg (by decide +kernel)]; exact ⟨rfl, rfl⟩))
    (fun os started H enc _ => lifted os started H enc)

theorem proved : Rows.BuddyFailsSaid :=
  over
#print axioms proved
end Go.Proofs.Ytcdlfhheolbhaaa.buddyFails
