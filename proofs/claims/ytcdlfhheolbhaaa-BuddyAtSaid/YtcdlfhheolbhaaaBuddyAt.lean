/-
  BuddyAt: just those blocks may be taken by their place all of whose workers are free; two yards know nothing of one another: so the law returns true for every input.
-/
import Derived.Test.YtcdlfhheolbhaaaYfD
import Derived.Test.YtcdlfhheolbhaaaRows
import Derived.Test.YtcdlfhheolbhaaaArgs2
namespace Go.Proofs.Ytcdlfhheolbhaaa.buddyAt
open Go.ChangeShapes Go.WideShapes Go.ChangeAt Go.RowKit
set_option linter.unusedVariables false

theorem own : ownKnob Try.prog.godebug = none := by kernel_rfl

open Go Go.ChangeShapes Go.WideShapes Go.ChangeAt Go.RowKit Go.Lib
/-- The first yard's own: all that is new, but for the second one's, and the law's rows. -/
def ownY (a b c : Nat) : Nat → Prop := fun k => a ≤ k ∧ ¬ (b ≤ k ∧ k < c)
def ownZ (b d c : Nat) : Nat → Prop := fun k => b ≤ k ∧ k < d ∨ c ≤ k
theorem pick_bool (P : Prop) : ∃ b : Bool, b = true ↔ P := by
  by_cases h : P
  · exact ⟨true, by simp [h]⟩
  · exact ⟨false, by simp [h]⟩
theorem pick_no {P : Prop} {b : Bool} (h : b = true ↔ P) (hn : ¬ P) : b = false := by
  cases b
  · rfl
  · exact absurd (h.1 rfl) hn
set_option maxRecDepth 100000 in
set_option maxHeartbeats 4000000 in
theorem walk (v0 : Value) (l : List Ac) (S O : Int) (w : World) (h0 : AArg w v0 l) (h1 : (Lit.int .i64 S).wf = true) (h2 : (Lit.int .i64 O).wf = true) :
    Calls Try.prog 10 #[v0, .int .i64 S, .int .i64 O] w fun e w' => e = .returned (.bool true) ∧ Below w.heap.size w w' := by
  have YD := Lib.hid (yard_any v0 l w h0.2 h0.1)
  have K : Hid (∀ w1, Calls Try.prog 11 #[] w1 fun e w' => e = .returned (.bool true) ∧ Below w1.heap.size w1 w') := known4_any
  have H0 := Lib.hid h0
  clear h0 h1 h2
  go_enter Try.func10, Try.ntmps10
  go_wp2_with fail
  refine YD.out.mono ?_; rintro e w1 ⟨g, tk, fl, rfl, hA, hY, hb⟩
  have HA := Lib.hid hA
  have HY1 := Lib.hid hY
  have HB1 := Lib.hid hb
  have YD2 := Lib.hid (yard_any v0 l w1 H0.out.2 (H0.out.1.kept hb))
  clear hA hY hb YD H0
  go_wp2_with fail
  refine YD2.out.mono ?_; rintro e w2 ⟨g2, tk2, fl2, rfl, hA2, hY2, hb2⟩
  obtain ⟨rfl, rfl⟩ := hA2.det HA.out rfl
  have HZ2 := Lib.hid hY2
  have HY2 := Lib.hid (HY1.out.kept hb2)
  have HB12 := Lib.hid hb2
  clear hA2 hY2 hb2 YD2 HA
  have F1 := Lib.hid (Free_any g _ 5 _ _ _ w2 HY2.out.2)
  go_wp2_with fail
  refine F1.out.mono ?_; rintro e w3 ⟨vf, rfl, hof, b3⟩
  have hs12 := HB12.out.size
  have hs23 := b3.size
  have hs01 := HB1.out.size
  have HF3 := Lib.hid hof
  obtain ⟨w4, hw4⟩ : ∃ w4, w4 = w3.alloc (.cells #[.int .i64 S, .int .i64 O] 45) := ⟨_, rfl⟩
  have hb34 : Below w3.heap.size w3 w4 := by rw [hw4]; exact (Below.refl _ _).alloc (Nat.le_refl _) _
  have hs4 : w4.heap.size = w3.heap.size + 1 := by rw [hw4]; simp
  have hb24 : Below w2.heap.size w2 w4 := b3.trans (hb34.mono hs23)
  have hb14 : Below w1.heap.size w1 w4 := HB12.out.trans (hb24.mono hs12)
  obtain ⟨gT, hgT⟩ : ∃ gT, gT = w3.heap.size := ⟨_, rfl⟩
  have HT4 : Hid (Blk w4 gT #[.int .i64 S, .int .i64 O] 45) := by unfold Hid; rw [hw4, hgT]; exact Blk.new _ _ _
  have HY4 : Hid (YS w4 g (ownY w.heap.size w1.heap.size w4.heap.size) 5 tk2 fl2) := HY1.out.over hb14 (fun k hk h => ⟨h, by omega⟩) (fun k h => ⟨by omega, by omega⟩)
  have HZ4 : Hid (YS w4 g2 (ownZ w1.heap.size w2.heap.size w4.heap.size) 5 tk2 fl2) := HZ2.out.over hb24 (fun k hk h => .inl ⟨h, hk⟩) (fun k h => .inr h)
  have HF4 : Hid (BOwn w4 0 vf (freeL 5 (opn 5 tk2 fl2))) := (own_older HF3.out hb34).mono (Nat.zero_le _)
  have HFB : Hid (∀ k, vf.ownBlock = some k → ¬ ownY w.heap.size w1.heap.size w4.heap.size k) := fun k hk h => by
    have := HF3.out.lt k hk
    have := h.2
    omega
  have HGT : Hid (¬ ownY w.heap.size w1.heap.size w4.heap.size gT) := fun h => by have := h.2; omega
  have HZO : Hid (∀ k, k < w4.heap.size → ownZ w1.heap.size w2.heap.size w4.heap.size k → ¬ ownY w.heap.size w1.heap.size w4.heap.size k) := fun k hk h h' => by
    unfold ownZ at h
    have := h'.2
    omega
  have HB4 := Lib.hid (HB1.out.trans (hb14.mono hs01))
  have TA := Lib.hid (TakeAt_any g _ 5 tk2 fl2 S O w4 HY4.out)
  have HFL := Lib.hid (freeL_len (show 5 ≤ 10 by omega) (opn 5 tk2 fl2))
  have t40 := HT4.out.cell 0
  have t41 := HT4.out.cell 1
  simp at t40 t41
  clear hof b3 F1 HY1 HY2 HB1 HB12 HZ2 HF3 hb34 hb24 hb14 hs4 hs12 hs23 hs01
  go_wp2_with fail
  rw [← hw4, ← hgT]
  clear hw4 hgT
  refine TA.out.mono ?_; rintro e w5 ⟨er, tk', rfl, hR, hY5, hC5⟩
  have HRR := Lib.hid hR
  have HY5 := Lib.hid hY5
  have HC5 := Lib.hid hC5
  have hs45 := hC5.size
  have HZ5 : Hid (YS w5 g2 (ownZ w1.heap.size w2.heap.size w4.heap.size) 5 tk2 fl2) := ⟨HZ4.out.1, HZ4.out.2.stays hC5 HZO.out (fun k hk => .inr (by omega))⟩
  have HF5 : Hid (BOwn w5 0 vf (freeL 5 (opn 5 tk2 fl2))) := brow_chg HF4.out hC5 HFB.out
  have HT5 := Lib.hid (HT4.out.chg hC5 HGT.out)
  have HB5 : Hid (Below w.heap.size w w5) := HB4.out.trans (hC5.to_below HB4.out.size (fun k hk h => by have := h.1; omega))
  clear hR hY5 hC5 hs45 HZ4 HF4 HT4 HB4 TA HFB HZO HGT t40 t41 HC5 HY4
  obtain ⟨F, hF⟩ : ∃ F, F = freeL 5 (opn 5 tk2 fl2) := ⟨_, rfl⟩
  rw [← hF] at HF5 HFL
  have HFF := Lib.hid hF
  clear hF
  obtain ⟨mb, hmb⟩ := pick_bool (∃ s o : Nat, S = s ∧ O = o ∧ o ≤ 5 ∧ s < 2 ^ 5 ∧ s % 2 ^ o = 0)
  have HMB := Lib.hid hmb
  clear hmb
  go_upto_region 8 with fail
  go_cut [12] (fun m wx => m = .bool mb ∧ Hid (w5 = wx))
  case first =>
    clear HY5 HZ5 HF5 HT5 HB5 HFL HFF HRR K
    by_cases o1 : O < 0
    · have d1 : decide (0 ≤ O) = false := decide_eq_false (by omega)
      have HM : Hid (mb = false) := by
        unfold Hid; refine pick_no HMB.out ?_; rintro ⟨s, o, h1, h2, h3, h4, h5⟩; omega
      clear o1
      go_wp2_with fail
      go_meet
      exact ⟨by rw [HM.out], rfl⟩
    · have d1 : decide (0 ≤ O) = true := decide_eq_true (by omega)
      obtain ⟨o, rfl⟩ : ∃ o : Nat, O = o := ⟨O.toNat, by omega⟩
      by_cases o2 : (o : Int) ≤ 5
      · have d2 : decide ((o : Int) ≤ 5) = true := decide_eq_true o2
        by_cases s1 : S < 0
        · have d3 : decide (0 ≤ S) = false := decide_eq_false (by omega)
          have HM : Hid (mb = false) := by
            unfold Hid; refine pick_no HMB.out ?_; rintro ⟨s, o, h1, h2, h3, h4, h5⟩; omega
          clear s1
          go_wp2_with fail
          go_meet
          exact ⟨by rw [HM.out], rfl⟩
        · have d3 : decide (0 ≤ S) = true := decide_eq_true (by omega)
          obtain ⟨s, rfl⟩ : ∃ s : Nat, S = s := ⟨S.toNat, by omega⟩
          by_cases s2 : (s : Int) < 32
          · have d4 : decide ((s : Int) < 32) = true := decide_eq_true s2
            have ho : o ≤ 5 := by omega
            have hmm : mb = decide (s % 2 ^ o = 0) := by
              by_cases hz : s % 2 ^ o = 0
              · rw [decide_eq_true hz]; exact HMB.out.2 ⟨s, o, rfl, rfl, ho, by omega, hz⟩
              · rw [decide_eq_false hz]; refine pick_no HMB.out ?_
                rintro ⟨s', o', h1, h2, h3, h4, h5⟩
                obtain rfl : s = s' := by omega
                obtain rfl : o = o' := by omega
                exact hz h5
            obtain ⟨P, hP, hP1, hP2, hPw⟩ := one_shl (show o ≤ 10 by omega)
            have hmx : max (min (o : Int) 5) 0 = (o : Int) := by omega
            have hPn : ¬ (P : Int) = 0 := by omega
            rw [← hP] at hmm
            by_cases hz : s % P = 0
            · have HM : Hid (mb = true) := by unfold Hid; rw [hmm]; exact decide_eq_true hz
              have hz1 : (s : Int) % (P : Int) = 0 := by have : ((s % P : Nat) : Int) = 0 := by rw [hz]; rfl
                                                         simpa using this
              clear hmm HMB hP hz
              go_wp2_with fail
              go_meet
              exact ⟨by rw [HM.out], rfl⟩
            · have HM : Hid (mb = false) := by unfold Hid; rw [hmm]; exact decide_eq_false hz
              obtain ⟨R, hR⟩ : ∃ R : Nat, R = s % P := ⟨_, rfl⟩
              have hz1 : (s : Int) % (P : Int) = (R : Int) := by rw [hR]; simp
              have hz2 : ¬ (R : Int) = 0 := by omega
              have hz3 : ((R : Int) == 0) = false := beq_eq_false_iff_ne.2 hz2
              clear hmm HMB hP hz hR
              go_wp2_with fail
              go_meet
              exact ⟨by rw [HM.out], rfl⟩
          · have d4 : decide ((s : Int) < 32) = false := decide_eq_false s2
            have HM : Hid (mb = false) := by
              unfold Hid; refine pick_no HMB.out ?_; rintro ⟨s, o, h1, h2, h3, h4, h5⟩; omega
            go_wp2_with fail
            go_meet
            exact ⟨by rw [HM.out], rfl⟩
      · have d2 : decide ((o : Int) ≤ 5) = false := decide_eq_false o2
        have HM : Hid (mb = false) := by
          unfold Hid; refine pick_no HMB.out ?_; rintro ⟨s, o, h1, h2, h3, h4, h5⟩; omega
        go_wp2_with fail
        go_meet
        exact ⟨by rw [HM.out], rfl⟩
  case rest =>
    obtain ⟨rfl, hw⟩ := hcut
    obtain rfl := hw.out
    cases mb with
    | false =>
      have hno : ¬ ∃ s o : Nat, S = s ∧ O = o ∧ o ≤ 5 ∧ s < 2 ^ 5 ∧ s % 2 ^ o = 0 := fun h => by have := HMB.out.2 h; cases this
      have her : er = 2 ∧ tk' = tk2 := by
        cases HRR.out with
        | arg h => exact ⟨rfl, rfl⟩
        | full s o hs ho h1 h2 h3 h => exact absurd ⟨s, o, hs, ho, h1, by have := two_pos o; omega, h2⟩ hno
        | ok s o hs ho h1 h2 h3 h => exact absurd ⟨s, o, hs, ho, h1, by have := two_pos o; omega, h2⟩ hno
      obtain ⟨rfl, rfl⟩ := her
      have F6 := Lib.hid (Free_any g _ 5 _ _ _ w5 HY5.out.2)
      clear hno
      go_wp2_with fail
      refine F6.out.mono ?_; rintro e w6 ⟨vf2, rfl, hof, b6⟩
      rw [← HFF.out] at hof
      have hfl := HFL.out
      have S6 := Lib.hid (sameB_any vf2 vf _ _ w6 (by omega) (by omega) (brow_of_own hof) ((brow_of_own HF5.out).kept b6))
      rw [decide_eq_true rfl] at S6
      have HB6 := Lib.hid (HB5.out.trans (b6.mono HB5.out.size))
      clear hof b6 F6 hfl
      go_wp2_with fail
      refine S6.out.mono ?_; rintro e w7 ⟨rfl, b7⟩
      have HB7 := Lib.hid (HB6.out.trans (b7.mono HB6.out.size))
      clear b7 S6
      go_wp2_with fail
      refine (K.out _).mono ?_; rintro e w8 ⟨rfl, b8⟩
      have HB8 := Lib.hid (HB7.out.trans (b8.mono HB7.out.size))
      clear b8
      go_wp2_with fail
      go_ret
      exact ⟨rfl, HB8.out⟩
    | true =>
      obtain ⟨s, o, hS, hO, ho, hsm, hsb, hin⟩ : ∃ s o : Nat, S = s ∧ O = o ∧ o ≤ 5 ∧ s % 2 ^ o = 0 ∧ s + 2 ^ o ≤ 2 ^ 5 ∧ ((er = 0 ∧ insideB F s o = true) ∨ (er = 5 ∧ insideB F s o = false)) := by
        have hex := HMB.out.1 rfl
        cases HRR.out with
        | arg h => exact absurd hex h
        | full s o hs ho h1 h2 h3 h =>
          refine ⟨s, o, hs, ho, h1, h2, h3, .inr ⟨rfl, ?_⟩⟩
          rw [HFF.out]
          cases hq : insideB (freeL 5 (opn 5 tk2 fl2)) s o
          · rfl
          · exact absurd ((insideB_free h1 h2 h3).1 hq) h
        | ok s o hs ho h1 h2 h3 h =>
          refine ⟨s, o, hs, ho, h1, h2, h3, .inl ⟨rfl, ?_⟩⟩
          rw [HFF.out]; exact (insideB_free h1 h2 h3).2 h
      subst hS
      subst hO
      obtain ⟨P, hP, hP1, hP2, hPw⟩ := one_shl (show o ≤ 10 by omega)
      have hs32 : s < 32 := by have := two_pos o; omega
      have hP32 : P ≤ 32 := by rw [hP]; omega
      have HP := Lib.hid hP
      have HPW := Lib.hid hPw
      have HIN := Lib.hid hin
      have HIB : Hid (∀ b ∈ F, b.2 ≤ 5 ∧ b.1 < 32) := fun b hb => by
        rw [HFF.out] at hb
        have h := freeL_mem.1 hb
        exact ⟨h.1, by have := h.2.2.1; have := two_pos b.2; omega⟩
      obtain ⟨qa, qc, rfl⟩ := own_slice HF5.out
      have hFl := HFL.out
      obtain ⟨LF, hLF⟩ : ∃ LF, LF = F.length := ⟨_, rfl⟩
      have hLFm : LF ≤ 1024 := by omega
      have HLF := Lib.hid hLF
      have HCL : Hid (0 < LF → ∃ q, qa = some ⟨q, 0, none⟩ ∧ BCells w5 q 0 F) := fun h => by
        obtain ⟨q, cap, hqv, _, _, _, _, hcell⟩ := bown_parts HF5.out (by rw [← HLF.out]; exact h)
        exact ⟨q, by injection hqv, hcell⟩
      rw [← hLF]
      clear hLF hFl hP hPw hin hsm hsb hP2
      go_wp2_with fail
      go_loopw [13, 14] (fun ins i wr => ∃ k : Nat, k ≤ LF ∧ i = .int .i64 k ∧ ins = .bool (insideB (F.take k) s o) ∧ Hid (Below w5.heap.size w5 wr)) (fun _ i _ => LF - (RowKit.intOf i).toNat)
      case atStart => exact ⟨0, Nat.zero_le _, rfl, rfl, Below.refl _ _⟩
      case round =>
        obtain ⟨k, hk, rfl, rfl, HBr⟩ := hrel
        by_cases hlt : k < LF
        · have hlt' : decide (k < LF) = true := decide_eq_true hlt
          have hlti : (k : Int) < (LF : Int) := by omega
          have hkF : k < F.length := by rw [← HLF.out]; exact hlt
          obtain ⟨q, hqa, hcell⟩ := HCL.out (by omega)
          subst hqa
          obtain ⟨c0, c1⟩ := (hcell.kept HBr.out) k hkF
          simp only [Nat.zero_add] at c0 c1
          obtain ⟨hbo, hbs⟩ := HIB.out _ (List.getElem_mem hkF)
          have hnx := insideB_take (s := s) (o := o) hkF
          obtain ⟨⟨fs, fo⟩, hb⟩ : ∃ b, b = F[k] := ⟨_, rfl⟩
          rw [← hb] at c0 c1 hbo hbs hnx
          dsimp only at c0 c1 hbo hbs hnx
          obtain ⟨Q, hQ, hQ1, hQ2, hQw⟩ := one_shl (show fo ≤ 10 by omega)
          rw [← hQ, ← HP.out] at hnx
          have HNX := Lib.hid hnx
          obtain ⟨cur, hcur⟩ : ∃ cur, cur = insideB (F.take k) s o := ⟨_, rfl⟩
          rw [← hcur] at HNX
          rw [← hcur]
          have hPw := HPW.out
          clear hb hcell hnx hQ hcur
          cases cur with
          | true =>
            go_wp2_with fail
            go_region
            go_wp2_with fail
            go_roundw
            case rel => exact ⟨k + 1, hlt, by go_num, by rw [HNX.out]; rfl, by first | exact below_drewN HBr.out _ | exact HBr.out.drew⟩
            case measure => simp [RowKit.intOf]; omega
          | false =>
            by_cases hge : fs ≤ s
            · have hg1 : decide (fs ≤ s) = true := decide_eq_true hge
              have hg2 : (fs : Int) ≤ (s : Int) := by omega
              by_cases hle : s + P ≤ fs + Q
              · have hl1 : decide ((s : Int) + (P : Int) ≤ (fs : Int) + (Q : Int)) = true := decide_eq_true (by omega)
                have hl2 : (s : Int) + (P : Int) ≤ (fs : Int) + (Q : Int) := by omega
                have HN : Hid (insideB (F.take (k + 1)) s o = true) := by unfold Hid; rw [HNX.out, decide_eq_true ⟨hge, hle⟩]; rfl
                go_wp2_with fail
                go_region
                go_wp2_with fail
                go_roundw
                case rel => exact ⟨k + 1, hlt, by go_num, by rw [HN.out], by first | exact below_drewN HBr.out _ | exact HBr.out.drew⟩
                case measure => simp [RowKit.intOf]; omega
              · have hl1 : decide ((s : Int) + (P : Int) ≤ (fs : Int) + (Q : Int)) = false := decide_eq_false (by omega)
                have hl2 : ¬ ((s : Int) + (P : Int) ≤ (fs : Int) + (Q : Int)) := by omega
                have HN : Hid (insideB (F.take (k + 1)) s o = false) := by unfold Hid; rw [HNX.out, decide_eq_false fun h => hle h.2]; rfl
                clear hle
                go_wp2_with fail
                go_region
                go_wp2_with fail
                go_roundw
                case rel => exact ⟨k + 1, hlt, by go_num, by rw [HN.out], by first | exact below_drewN HBr.out _ | exact HBr.out.drew⟩
                case measure => simp [RowKit.intOf]; omega
            · have hg1 : decide (fs ≤ s) = false := decide_eq_false hge
              have hg2 : ¬ ((fs : Int) ≤ (s : Int)) := by omega
              have HN : Hid (insideB (F.take (k + 1)) s o = false) := by unfold Hid; rw [HNX.out, decide_eq_false fun h => hge h.1]; rfl
              clear hge
              go_wp2_with fail
              go_region
              go_wp2_with fail
              go_roundw
              case rel => exact ⟨k + 1, hlt, by go_num, by rw [HN.out], by first | exact below_drewN HBr.out _ | exact HBr.out.drew⟩
              case measure => simp [RowKit.intOf]; omega
        · have hlt' : decide (k < LF) = false := decide_eq_false hlt
          have hlti : ¬ ((k : Int) < (LF : Int)) := by omega
          have hkl : F.take k = F := List.take_of_length_le (by rw [← HLF.out]; omega)
          rw [hkl]
          have HZr := Lib.hid (HZ5.out.kept HBr.out)
          have HFr := Lib.hid (own_older HF5.out HBr.out)
          have HTr := Lib.hid (HT5.out.kept HBr.out)
          have HBw := Lib.hid (HB5.out.trans (HBr.out.mono HB5.out.size))
          have F6 := Lib.hid (Free_any g2 _ 5 _ _ _ wr HZr.out.2)
          obtain ⟨ib, hib⟩ : ∃ ib, ib = insideB F s o := ⟨_, rfl⟩
          have hin := HIN.out
          rw [← hib] at hin
          rw [← hib]
          clear hkl hlt hk hib
          rcases hin with ⟨rfl, rfl⟩ | ⟨rfl, rfl⟩ <;>
          · go_wp2_with fail
            refine F6.out.mono ?_; rintro e w6 ⟨vf2, rfl, hof, b6⟩
            rw [← HFF.out] at hof
            have hfl := HFL.out
            have hfr := HFr.out
            have S6 := Lib.hid (sameB_any vf2 (.slice qa LF qc) F F w6 (by omega) (by omega) (brow_of_own hof) (by rw [HLF.out]; exact (brow_of_own hfr).kept b6))
            rw [decide_eq_true rfl] at S6
            have HB6 := Lib.hid (HBw.out.trans (b6.mono HBw.out.size))
            have HT6 := Lib.hid (HTr.out.kept b6)
            clear hof b6 F6 hfl hfr
            go_wp2_with fail
            refine S6.out.mono ?_; rintro e w7 ⟨rfl, b7⟩
            have HB7 := Lib.hid (HB6.out.trans (b7.mono HB6.out.size))
            have HT7 := Lib.hid (HT6.out.kept b7)
            clear b7 S6
            go_wp2_with fail
            refine (Take_nil _ _).mono ?_; rintro e w8 ⟨rfl, b8⟩
            have HB8 := Lib.hid (HB7.out.trans (b8.mono HB7.out.size))
            have HT8 := Lib.hid (HT7.out.kept b8)
            clear b8
            go_wp2_with fail
            refine (Held_nil _ _).mono ?_; rintro e w9 ⟨rfl, b9⟩
            have HB9 := Lib.hid (HB8.out.trans (b9.mono HB8.out.size))
            have HT9 := Lib.hid (HT8.out.kept b9)
            clear b9
            obtain ⟨wA, hwA⟩ : ∃ wA, wA = w9.alloc (.cells #[.int .i64 0, .int .i64 0] 45) := ⟨_, rfl⟩
            have hbA : Below w9.heap.size w9 wA := by rw [hwA]; exact (Below.refl _ _).alloc (Nat.le_refl _) _
            have HBA := Lib.hid (HB9.out.trans (hbA.mono HB9.out.size))
            have HTA := Lib.hid (HT9.out.kept hbA)
            have tA0 := HTA.out.cell 0
            have tA1 := HTA.out.cell 1
            simp at tA0 tA1
            clear hbA
            go_wp2_with fail
            rw [← hwA]
            clear hwA
            refine (Order_nil _).mono ?_; rintro e wq ⟨rfl, hw⟩; subst hw
            go_wp2_with fail
            refine (TakeAt_nil _ _ _).mono ?_; rintro e wB ⟨rfl, bB⟩
            have HBB := Lib.hid (HBA.out.trans (bB.mono HBA.out.size))
            clear bB tA0 tA1
            go_wp2_with fail
            refine (Give_nil _ _).mono ?_; rintro e wC ⟨rfl, bC⟩
            have HBC := Lib.hid (HBB.out.trans (bC.mono HBB.out.size))
            clear bC
            go_wp2_with fail
            refine (Fail_nil _ _).mono ?_; rintro e wD ⟨rfl, bD⟩
            have HBD := Lib.hid (HBC.out.trans (bD.mono HBC.out.size))
            clear bD
            go_wp2_with fail
            refine (Heal_nil _ _).mono ?_; rintro e wE ⟨rfl, bE⟩
            have HBE := Lib.hid (HBD.out.trans (bE.mono HBD.out.size))
            clear bE
            go_wp2_with fail
            refine (Failed_nil _).mono ?_; rintro e wF ⟨rfl, bF⟩
            have HBF := Lib.hid (HBE.out.trans (bF.mono HBE.out.size))
            clear bF
            go_wp2_with fail
            refine (Free_nil _).mono ?_; rintro e wG ⟨rfl, bG⟩
            have HBG := Lib.hid (HBF.out.trans (bG.mono HBF.out.size))
            clear bG
            go_wp2_with fail
            refine (Taken_nil _).mono ?_; rintro e wH ⟨rfl, bH⟩
            have HBH := Lib.hid (HBG.out.trans (bH.mono HBG.out.size))
            clear bH
            go_wp2_with fail
            refine (Fits_nil _ _).mono ?_; rintro e wI ⟨rfl, bI⟩
            have HBI := Lib.hid (HBH.out.trans (bI.mono HBH.out.size))
            clear bI
            go_wp2_with fail
            refine (Would_nil _ _ _).mono ?_; rintro e wJ ⟨rfl, bJ⟩
            have HBJ := Lib.hid (HBI.out.trans (bJ.mono HBI.out.size))
            clear bJ
            go_wp2_with fail
            refine (K.out _).mono ?_; rintro e wK ⟨rfl, bK⟩
            have HBK := Lib.hid (HBJ.out.trans (bK.mono HBJ.out.size))
            clear bK
            go_wp2_with fail
            go_ret
            exact ⟨rfl, HBK.out⟩


set_option maxRecDepth 100000 in
theorem lifted (os : Os) (started : os.Started) (H : Type) (enc : TypeId × Value → H) :
    ReturnsInHanded {} Try.checked os 10 .any (Rows.buddyAtSpec.pre6 enc Try.prog Try.f10 Rows.buddyAtRow.domain false) (Rows.buddyAtSpec.post enc Try.prog Try.f10 false true false false) := by
  refine returnsInHanded_of_change (C := Try.checked) own started (by kernel_rfl) Try.func10
    (ChangeSpec.witness6 (enc := enc) (C := Try.checked) false ⟨#[], #[.slice none 0 0, .int .i64 0, .int .i64 0], []⟩ 8 (by kernel_rfl) (by kernel_rfl) (by kernel_rfl) (by kernel_rfl)) ?_
  intro W base args ds gs before hval0 hW _ _
  have hval : ∀ (j : Nat) t v, Try.f10.params[j]? = some t → args[j]? = some v → Value.okWide Try.prog W .any base t v := hval0
  have hW' := hW
  obtain ⟨p, q, hA0, hV, rfl, hfz, hnd⟩ := hW
  have hA : DataW.TrodAll enc Try.prog W 0 (fun _ => true) true Try.f10.params.toList args.toList ds p := hA0
  rw [Try.params10] at hA hval
  obtain ⟨v0, vs0, d0, ds0, p0, q0, hargs, rfl, rfl, h0, r0⟩ := trodAll_cons hA
  obtain ⟨v1, vs1, d1, ds1, p1, q1, rfl, rfl, rfl, h1, r1⟩ := trodAll_cons r0
  obtain ⟨v2, vs2, d2, ds2, p2, q2, rfl, rfl, rfl, h2, r2⟩ := trodAll_cons r1
  obtain ⟨rfl, rfl, rfl⟩ := trodAll_nil r2
  obtain rfl : args = #[v0, v1, v2] := by cases args; simp_all
  obtain ⟨l, w0⟩ := open_acts_arg h0 (okWide_slice Try.underlying22 (hval 0 22 v0 rfl rfl))
  obtain ⟨start, rfl, rfl, rfl, w1⟩ := open_int Try.underlying3 (hval 1 3 v1 rfl rfl) h1
  obtain ⟨order, rfl, rfl, rfl, w2⟩ := open_int Try.underlying3 (hval 2 3 v2 rfl rfl) h2
  clear hA0 hval0
  refine (walk v0 l start order W w0 w1 w2).mono fun e W' ⟨he, hb⟩ => ?_
  subst he
  exact ⟨_, rfl, law_post (by kernel_rfl) (by kernel_rfl) rfl Try.underlying4 rfl hW' rfl hb⟩

theorem over : Rows.buddyAtRow.holds Try.pinned (OpenSpec.ofChange Rows.buddyAtSpec) :=
  OpenClaim.holds_of_wide 10 Try.f10 rfl rfl rfl rfl rfl rfl rfl ⟨rfl, rfl, rfl, rfl, rfl⟩ rfl rfl rfl rfl rfl (by kernel_rfl) Try.func10 (by kernel_rfl)
    (of_decide_eq_true (by kernel_rfl)) (by unfold Func.isWrapper; first | (rw [if_pos (by decide +kernel)]; kernel_rfl) | (rw [if_neg (by decide +kernel)]; exact ⟨rfl, rfl⟩))
    (fun os started H enc _ => lifted os started H enc)

theorem proved : Rows.BuddyAtSaid :=
  over
#print axioms proved
end Go.Proofs.Ytcdlfhheolbhaaa.buddyAt
