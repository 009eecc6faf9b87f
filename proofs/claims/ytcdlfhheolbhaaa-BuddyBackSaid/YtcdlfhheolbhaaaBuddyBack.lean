/-
  BuddyBack: what was taken and given back leaves all as it was; given back twice it is refused: so the law returns true for every input.
-/
import Derived.Test.YtcdlfhheolbhaaaYeU
import Derived.Test.YtcdlfhheolbhaaaRows
import Derived.Test.YtcdlfhheolbhaaaArgs2
namespace Go.Proofs.Ytcdlfhheolbhaaa.buddyBack
open Go.ChangeShapes Go.WideShapes Go.ChangeAt Go.RowKit
set_option linter.unusedVariables false

theorem own : ownKnob Try.prog.godebug = none := by kernel_rfl

open Go Go.ChangeShapes Go.WideShapes Go.ChangeAt Go.RowKit Go.Lib
theorem i64_n (n : Nat) (h : n ≤ 9223372036854775807) : IntKind.i64.wrap (n : Int) = (n : Int) := by rw [IntKind.wrap_i64]; omega
theorem u64_n (n : Nat) (h : n ≤ 9223372036854775807) : IntKind.u64.wrap (n : Int) = (n : Int) := by rw [IntKind.wrap_u64]; omega
theorem pick_mod (x : Int) (n : Nat) (h : 0 < n) (hn : n ≤ 1000000) : ∃ U K : Nat, IntKind.u64.wrap x = (U : Int) ∧ (U : Int) % (n : Int) = (K : Int) ∧ K < n ∧ (U : Int).tmod (n : Int) = (K : Int) := by
  obtain ⟨U, hU⟩ := Int.eq_ofNat_of_zero_le (show 0 ≤ IntKind.u64.wrap x by rw [IntKind.wrap_u64]; omega)
  have e : (U : Int) % (n : Int) = ((U % n : Nat) : Int) := by simp
  refine ⟨U, U % n, hU, e, Nat.mod_lt _ h, ?_⟩
  rw [Int.tmod_eq_emod_of_nonneg (by omega), e]
set_option maxRecDepth 100000 in
set_option maxHeartbeats 2000000 in
theorem walk (v0 : Value) (l : List Ac) (v1 : Value) (os : List Int) (turn : Int) (w : World) (h0 : AArg w v0 l) (h1 : IntsArg w .i64 v1 os) (h2 : (Lit.int .i64 turn).wf = true) :
    Calls Try.prog 6 #[v0, v1, .int .i64 turn] w fun e w' => e = .returned (.bool true) ∧ Below w.heap.size w w' := by
  have YD := Lib.hid (yard_any v0 l w h0.2 h0.1)
  have K : Hid (∀ w1, Calls Try.prog 11 #[] w1 fun e w' => e = .returned (.bool true) ∧ Below w1.heap.size w1 w') := known4_any
  obtain ⟨i0, hi, hz0, hz1, hz2⟩ := info_parts Try.infoNum
  have HG := Lib.hid (grow_of_ints h1)
  obtain ⟨ga, gc, hv⟩ := HG.out.slice
  subst hv
  clear h0 h1 h2
  go_enter Try.func6, Try.ntmps6
  go_wp2_with fail
  refine YD.out.mono ?_; rintro e w1 ⟨g, tk, fl, rfl, _, hY, hb⟩
  have HY1 := Lib.hid hY
  have HB1 := Lib.hid hb
  clear hY hb YD
  have F1 := Lib.hid (Free_any g _ 5 _ _ _ w1 HY1.out.2)
  go_wp2_with fail
  refine F1.out.mono ?_; rintro e w2 ⟨vf, rfl, hof, b2⟩
  have HOf := Lib.hid hof
  have HB2 := Lib.hid b2
  have T2 := Lib.hid (Taken_any g _ 5 _ _ w2 (HY1.out.kept b2))
  clear hof b2 F1
  go_wp2_with fail
  refine T2.out.mono ?_; rintro e w3 ⟨vt, rfl, hot, b3⟩
  have hof3 := own_older HOf.out b3
  have hot3 : BOwn w3 w1.heap.size vt tk := hot.mono HB2.out.size
  have hb13 : Below w1.heap.size w1 w3 := HB2.out.trans (b3.mono HB2.out.size)
  have HY3 := Lib.hid (YS.rows2 HY1.out hb13 hof3 hot3)
  have HF3 := Lib.hid hof3
  have HT3 := Lib.hid hot3
  have HB3 := Lib.hid (HB1.out.trans (hb13.mono HB1.out.size))
  obtain ⟨B1, hB1⟩ : ∃ B1, B1 = w1.heap.size := ⟨_, rfl⟩
  rw [← hB1] at HF3 HT3
  clear hof3 hot3 hot b3 hb13 T2 HOf HY1 HB1 HB2 hB1
  go_wp2_with fail
  go_loopw [10, 11] (fun sv i wr => ∃ (k N : Nat) (tk' : List Bk) (S : List Nat) (sa : Option Addr) (sc : Nat), k ≤ os.length ∧ k ≤ 20 ∧ i = .int .i64 k ∧ sv = .slice sa N sc ∧ Hid (N = S.length ∧ N ≤ k) ∧ Hid (TookR 5 tk fl tk' S) ∧
      Hid (wr.ownsRow 0 3 1 (.slice sa N sc) N (natL S)) ∧ Hid (YS wr g (ownB w.heap.size vf vt (.slice sa N sc)) 5 tk' fl) ∧ Hid (BOwn wr B1 vf (freeL 5 (opn 5 tk fl)) ∧ BOwn wr B1 vt tk) ∧ Hid (∀ b, (Value.slice sa N sc).ownBlock = some b → vf.ownBlock ≠ some b ∧ vt.ownBlock ≠ some b) ∧ Hid (∀ b, (Value.slice sa N sc).ownBlock = some b → w.heap.size ≤ b) ∧ Hid (Below w.heap.size w wr)) (fun _ i _ => os.length - (RowKit.intOf i).toNat)
  case atStart => exact ⟨0, 0, tk, [], none, 0, Nat.zero_le _, by omega, rfl, rfl, ⟨rfl, Nat.le_refl _⟩, TookR.zero _ _ _, World.ownsRow_nil _ _ _ _, HY3, ⟨HF3.out, HT3.out⟩, fun b h => by (cases h), fun b h => by (cases h), HB3⟩
  case round =>
    obtain ⟨k, N, tk', S, sa, sc, hk, hk20, rfl, rfl, HN, HK, HS, HY, HR, HD, HL, HB⟩ := hrel
    by_cases hex : k < os.length ∧ (k : Int) < 20
    · obtain ⟨hlt, h20⟩ := hex
      have hlt' : decide (k < os.length) = true := decide_eq_true hlt
      have hlti : (k : Int) < (os.length : Int) := by omega
      have hd20 : decide ((k : Int) < 20) = true := decide_eq_true h20
      rcases HG.out with ⟨h0, _⟩ | ⟨bb, off, c, hv, hc⟩
      · rw [h0] at hlt; simp at hlt
      · have hga : ga = some ⟨bb, off, none⟩ := by injection hv
        subst hga
        have c0 := cell_next HB.out (hc k hlt)
        obtain ⟨x, hx⟩ : ∃ x, x = os.getD k 0 := ⟨_, rfl⟩
        rw [← hx] at c0
        have TK := Lib.hid (Take_any g _ 5 tk' fl x wr HY.out)
        clear hc hv hx
        go_wp2_with fail
        refine TK.out.mono ?_; rintro e w4 ⟨r, er, tk2, rfl, hR, hY4, hC4⟩
        have HR4 : Hid (BOwn w4 B1 vf (freeL 5 (opn 5 tk fl)) ∧ BOwn w4 B1 vt tk) := ⟨brow_chg HR.out.1 hC4 ownB_a, brow_chg HR.out.2 hC4 ownB_b⟩
        have HS4 := Lib.hid (own_chg HS.out hC4 ownB_c)
        have HB4 : Hid (Below w.heap.size w w4) := HB.out.trans (hC4.to_below HB.out.size ownB_lo)
        have HY4 := Lib.hid hY4
        have HRR := Lib.hid hR
        clear hR hY4 hC4
        by_cases her : er = 0
        · obtain ⟨o, kk, s, rr, hs0, hr, htk2⟩ : ∃ (o kk s : Nat) (rr : List Nat), frL 5 (opn 5 tk' fl) kk = s :: rr ∧ r = (s : Int) ∧ tk2 = insT tk' (s, o) := by
            have := HRR.out
            cases this with
            | arg h => cases her
            | full o hq ho h => cases her
            | ok o k' s r' hq ho hk' h hs => exact ⟨o, k', s, r', hs, rfl, rfl⟩
          subst hr
          subst her
          have HK2 : Hid (TookR 5 tk fl tk2 (S ++ [s])) := by unfold Hid; rw [htk2]; exact HK.out.step HY.out.1 hs0
          have HNEW : Hid (∀ q u, ([Value.int .i64 (s : Int)])[q]? = some u → (w4.alloc (.cells #[.int .i64 (s : Int)] 3)).cell? ((⟨w4.heap.size, 0, none⟩ : Addr).add q) = some u) := news_alloc w4 [.int .i64 (s : Int)] 3
          have HOA := Lib.hid (HS4.out.alloc (.cells #[.int .i64 (s : Int)] 3))
          have hN20 : N ≤ 20 := by have := HN.out.2; omega
          clear hs0 htk2
          go_wp2_with (at_builtin; refine wpList_append_own_at _ rfl _ _ 23 rfl 0 3 i0 _ 1 8 Try.underlying23 hi hz0 hz1 hz2 rfl (by decide) _ _ _ rfl HOA.out _ 1 1 [.int .i64 (s : Int)] rfl rfl HNEW.out (by intro u hu; simp at hu; subst hu; rfl) (by unfold maxLen; omega) (by omega) (Nat.zero_le _) ?_; intro v5 w5 hown5 hgrow5 hnil5 hat5; obtain ⟨a5, c5, rfl⟩ := own_slice hown5)
          go_roundw
          case measure => simp [RowKit.intOf]; omega
          case rel =>
            have hb4 : Below w4.heap.size w4 (w4.alloc (.cells #[.int .i64 (s : Int)] 3)) := (Below.refl _ _).alloc (Nat.le_refl _) _
            have hne : ∀ b, (Value.slice a5 (N + 1) c5).ownBlock = some b → (Value.slice sa N sc).ownBlock = some b ∨ b = w4.heap.size + 1 := fun b hb => by
              rcases hat5 with e | e
              · rw [e] at hb; exact .inl hb
              · rw [e] at hb; right; simp at hb; omega
            have hfl := HR4.out.1.lt
            have htl := HR4.out.2.lt
            have hY5 := (HY4.out.2.kept hb4).apartRow (v := .slice sa N sc) (v1 := .slice a5 (N + 1) c5) hgrow5 ownB_c hat5 (fun b hb => (hown5.lt b hb).2)
            refine ⟨k + 1, N + 1, tk2, S ++ [s], a5, c5, hlt, by omega, by go_num, rfl, ⟨?_, ?_⟩, HK2, ?_, ⟨HY4.out.1, hY5.wider fun b hb => ⟨hb.1.1, hb.1.2.1, hb.1.2.2.1, hb.2⟩⟩, ⟨?_, ?_⟩, fun b hb => ?_, fun b hb => ?_, ?_⟩
            · rw [List.length_append, ← HN.out.1]; rfl
            · have := HN.out.2; omega
            · unfold Hid; rw [natL_app]; exact hown5
            · refine (own_older HR4.out.1 hb4).kept hgrow5 ?_
              cases hvb : vf.ownBlock with
              | none => exact .inl rfl
              | some q => exact .inr fun e => (HD.out q e.symm).1 hvb
            · refine (own_older HR4.out.2 hb4).kept hgrow5 ?_
              cases hvb : vt.ownBlock with
              | none => exact .inl rfl
              | some q => exact .inr fun e => (HD.out q e.symm).2 hvb
            · rcases hne b hb with e | e
              · exact HD.out b e
              · exact ⟨fun h => by have := (hfl b h).2; omega, fun h => by have := (htl b h).2; omega⟩
            · rcases hne b hb with e | e
              · exact HL.out b e
              · have := HB4.out.size; omega
            · exact (HB4.out.alloc HB4.out.size _).grown hgrow5 (by simp; have := HB4.out.size; omega) HL.out
        · have hde : (er == 0) = false := beq_eq_false_iff_ne.2 her
          have htk2 : tk2 = tk' := by
            have := HRR.out
            cases this with
            | arg h => rfl
            | full o hq ho h => rfl
            | ok o k' s r' hq ho hk' h hs => exact absurd rfl her
          have HTK := Lib.hid htk2
          clear her htk2
          go_wp2_with fail
          go_roundw
          case measure => simp [RowKit.intOf]; omega
          case rel => exact ⟨k + 1, N, tk', S, sa, sc, hlt, by omega, by go_num, rfl, ⟨HN.out.1, by have := HN.out.2; omega⟩, HK, HS4, by rw [HTK.out] at HY4; exact HY4, HR4, HD, HL, HB4⟩
    · have hor : (decide (k < os.length) = true ∧ (k : Int) < (os.length : Int) ∧ decide ((k : Int) < 20) = false ∧ ¬ (k : Int) < 20) ∨ (decide (k < os.length) = false ∧ ¬ (k : Int) < (os.length : Int) ∧ True ∧ True) := by
        by_cases h : k < os.length
        · have h2 : ¬ (k : Int) < 20 := fun h' => hex ⟨h, h'⟩
          exact .inl ⟨decide_eq_true h, by omega, decide_eq_false h2, h2⟩
        · exact .inr ⟨decide_eq_false h, by omega, trivial, trivial⟩
      obtain ⟨U, T, hT⟩ : ∃ U T : Nat, 0 < N → IntKind.u64.wrap turn = (U : Int) ∧ (U : Int) % (N : Int) = (T : Int) ∧ T < N ∧ (U : Int).tmod (N : Int) = (T : Int) ∧ ¬ (N : Int) = 0 := by
        rcases Nat.eq_zero_or_pos N with h0 | h0
        · exact ⟨0, 0, fun h => by omega⟩
        · obtain ⟨U, K, h1, h2, h3, h4⟩ := pick_mod turn N h0 (by have := HN.out.2; omega)
          exact ⟨U, K, fun _ => ⟨h1, h2, h3, h4, by omega⟩⟩
      have HT := Lib.hid hT
      have hN20 : N ≤ 20 := by have := HN.out.2; omega
      have e1 := i64_n N (by omega)
      have e2 := u64_n N (by omega)
      have E1 := Lib.hid e1
      have E2 := Lib.hid e2
      have HY0 : Hid (YS wr g (ownB w.heap.size vf vt (.slice sa N sc)) 5 (dropS tk' (rotN S T 0)) fl) := by
        unfold Hid; rw [show rotN S T 0 = [] from rfl, dropS_nil]; exact HY.out
      clear hT hex e1 e2 HL HD
      rcases hor with ⟨hx1, hx2, hx3, hx4⟩ | ⟨hx1, hx2, hx3, hx4⟩ <;>
      · go_wp2_with fail
        clear hx1 hx2 hx3 hx4
        go_loopw [15] (fun i wq => ∃ j : Nat, j ≤ N ∧ i = .int .i64 j ∧ Hid (YS wq g (ownB w.heap.size vf vt (.slice sa N sc)) 5 (dropS tk' (rotN S T j)) fl) ∧ Hid (BOwn wq B1 vf (freeL 5 (opn 5 tk fl)) ∧ BOwn wq B1 vt tk) ∧ Hid (wq.ownsRow 0 3 1 (.slice sa N sc) N (natL S)) ∧ Hid (Below w.heap.size w wq)) (fun i _ => N - (RowKit.intOf i).toNat)
        case atStart => exact ⟨0, Nat.zero_le _, rfl, HY0, HR, HS, HB⟩
        case round =>
          obtain ⟨j, hj, rfl, HYj, HRj, HSj, HBj⟩ := hrel
          by_cases hlt : j < N
          · have hlt' : decide (j < N) = true := decide_eq_true hlt
            have hlti : (j : Int) < (N : Int) := by omega
            obtain ⟨hU, hUT, hTl, hUt, hn0⟩ := HT.out (by omega)
            obtain ⟨M, hM⟩ : ∃ M, M = (j + T) % N := ⟨_, rfl⟩
            have hMl : M < N := by rw [hM]; exact Nat.mod_lt _ (by omega)
            have hMi : ((j : Int) + (T : Int)) % (N : Int) = (M : Int) := by rw [hM]; simp
            have hMt : ((j : Int) + (T : Int)).tmod (N : Int) = (M : Int) := by rw [Int.tmod_eq_emod_of_nonneg (by omega)]; exact hMi
            have hMS : M < S.length := by rw [← HN.out.1]; exact hMl
            obtain ⟨q, hsa⟩ : ∃ q, sa = some ⟨q, 0, none⟩ := by
              rcases HSj.out.2 with ⟨e, h0⟩ | ⟨q, cap, cur, e, _⟩
              · omega
              · exact ⟨q, by injection e⟩
            have c0 : wr.cell? ⟨q, M, none⟩ = some (.int .i64 ((S.getD M 0 : Nat) : Int)) := by
              have h1 := HSj.out.cells (g := q) (by rw [hsa]; rfl) M (.int .i64 ((S.getD M 0 : Nat) : Int)) (by
                have := numsL_get (l := natI S) (i := M) (by rw [natI_len]; exact hMS)
                rw [natI_at hMS] at this
                rw [this, List.getD_eq_getElem?_getD, List.getElem?_eq_getElem hMS]; rfl)
              rw [Addr.add_lit, Nat.zero_add] at h1
              exact h1
            have HMM : Hid (M = (j + T) % S.length) := by unfold Hid; rw [hM, HN.out.1]
            have hjS : j < S.length := by rw [← HN.out.1]; exact hlt
            obtain ⟨X, hX⟩ : ∃ X, X = S.getD M 0 := ⟨_, rfl⟩
            rw [← hX] at c0
            have HXX : Hid (X = S.getD ((j + T) % S.length) 0) := by unfold Hid; rw [hX, HMM.out]
            have GV1 := Lib.hid (Give_any g _ 5 _ fl (X : Int) wr HYj.out)
            have e1 := E1.out
            have e2 := E2.out
            subst hsa
            clear hM hMS hX
            go_wp2_with fail
            refine GV1.out.mono ?_; rintro e w4 ⟨er, t4, rfl, hg1, hY4, hC4⟩
            rw [HXX.out] at hg1
            obtain ⟨rfl, rfl⟩ := give_next HK.out hjS hg1
            have HC4 := Lib.hid hC4
            have GV2 := Lib.hid (Give_any g _ 5 _ fl (X : Int) w4 hY4)
            clear hg1 hY4 hC4 GV1
            go_wp2_with fail
            refine GV2.out.mono ?_; rintro e w5 ⟨er, t5, rfl, hg2, hY5, hC5⟩
            rw [HXX.out] at hg2
            obtain ⟨rfl, rfl⟩ := give_twice hg2
            have HC5 := Lib.hid (HC4.out.trans hC5)
            have HY5 := Lib.hid hY5
            clear hg2 hY5 hC5 GV2
            go_wp2_with fail
            go_roundw
            case rel => exact ⟨j + 1, hlt, by go_num, HY5, ⟨brow_chg HRj.out.1 HC5.out ownB_a, brow_chg HRj.out.2 HC5.out ownB_b⟩, own_chg HSj.out HC5.out ownB_c, HBj.out.trans (HC5.out.to_below HBj.out.size ownB_lo)⟩
            case measure => simp [RowKit.intOf]; omega
          · have hlt' : decide (j < N) = false := decide_eq_false hlt
            have hlti : ¬ ((j : Int) < (N : Int)) := by omega
            have hjN : j = N := by omega
            have hback : dropS tk' (rotN S T j) = tk := by
              rw [hjN, HN.out.1]
              rcases Nat.eq_zero_or_pos N with h0 | h0
              · have hS : S = [] := List.eq_nil_of_length_eq_zero (by rw [← HN.out.1]; exact h0)
                rw [← HK.out.back, hS]; rfl
              · rw [dropS_congr (rot_all (by rw [← HN.out.1]; exact (HT.out h0).2.2.1)), HK.out.back]
            have HYe : Hid (YS wr g (ownB w.heap.size vf vt (.slice sa N sc)) 5 tk fl) := by have := HYj.out; rw [hback] at this; exact this
            have F6 := Lib.hid (Free_any g _ 5 _ _ _ wr HYe.out.2)
            clear hback hjN
            go_wp2_with fail
            refine F6.out.mono ?_; rintro e w6 ⟨vf2, rfl, hof, b6⟩
            have hfl := freeL_len (show 5 ≤ 10 by omega) (opn 5 tk fl)
            have S6 := Lib.hid (sameB_any vf2 vf _ _ w6 (by omega) (by omega) (brow_of_own hof) ((brow_of_own HRj.out.1).kept b6))
            rw [decide_eq_true rfl] at S6
            have HY6 := Lib.hid (HYe.out.kept b6)
            have HT6 := Lib.hid ((brow_of_own HRj.out.2).kept b6)
            have HB6 := Lib.hid (HBj.out.trans (b6.mono HBj.out.size))
            clear hof b6 F6 hfl
            go_wp2_with fail
            refine S6.out.mono ?_; rintro e w7 ⟨rfl, b7⟩
            have HY7 := Lib.hid (HY6.out.kept b7)
            have HT7 := Lib.hid (HT6.out.kept b7)
            have HB7 := Lib.hid (HB6.out.trans (b7.mono HB6.out.size))
            have T7 := Lib.hid (Taken_any g _ 5 _ _ w7 HY7.out)
            clear b7 S6
            go_wp2_with fail
            refine T7.out.mono ?_; rintro e w8 ⟨vt2, rfl, hot, b8⟩
            have htl := HY7.out.1.tlen
            have S8 := Lib.hid (sameB_any vt2 vt _ _ w8 (by omega) (by omega) (brow_of_own hot) (HT7.out.kept b8))
            rw [decide_eq_true rfl] at S8
            have HB8 := Lib.hid (HB7.out.trans (b8.mono HB7.out.size))
            clear hot b8 T7 htl
            go_wp2_with fail
            refine S8.out.mono ?_; rintro e w9 ⟨rfl, b9⟩
            have HB9 := Lib.hid (HB8.out.trans (b9.mono HB8.out.size))
            clear b9 S8
            go_wp2_with fail
            refine (K.out _).mono ?_; rintro e wa ⟨rfl, ba⟩
            have HBa := Lib.hid (HB9.out.trans (ba.mono HB9.out.size))
            clear ba
            go_wp2_with fail
            go_ret
            exact ⟨rfl, HBa.out⟩


set_option maxRecDepth 100000 in
theorem lifted (os : Os) (started : os.Started) (H : Type) (enc : TypeId × Value → H) :
    ReturnsInHanded {} Try.checked os 6 .any (Rows.buddyBackSpec.pre6 enc Try.prog Try.f6 Rows.buddyBackRow.domain false) (Rows.buddyBackSpec.post enc Try.prog Try.f6 false true false false) := by
  refine returnsInHanded_of_change (C := Try.checked) own started (by kernel_rfl) Try.func6
    (ChangeSpec.witness6 (enc := enc) (C := Try.checked) false ⟨#[], #[.slice none 0 0, .slice none 0 0, .int .i64 0], []⟩ 8 (by kernel_rfl) (by kernel_rfl) (by kernel_rfl) (by kernel_rfl)) ?_
  intro W base args ds gs before hval0 hW _ _
  have hval : ∀ (j : Nat) t v, Try.f6.params[j]? = some t → args[j]? = some v → Value.okWide Try.prog W .any base t v := hval0
  have hW' := hW
  obtain ⟨p, q, hA0, hV, rfl, hfz, hnd⟩ := hW
  have hA : DataW.TrodAll enc Try.prog W 0 (fun _ => true) true Try.f6.params.toList args.toList ds p := hA0
  rw [Try.params6] at hA hval
  obtain ⟨v0, vs0, d0, ds0, p0, q0, hargs, rfl, rfl, h0, r0⟩ := trodAll_cons hA
  obtain ⟨v1, vs1, d1, ds1, p1, q1, rfl, rfl, rfl, h1, r1⟩ := trodAll_cons r0
  obtain ⟨v2, vs2, d2, ds2, p2, q2, rfl, rfl, rfl, h2, r2⟩ := trodAll_cons r1
  obtain ⟨rfl, rfl, rfl⟩ := trodAll_nil r2
  obtain rfl : args = #[v0, v1, v2] := by cases args; simp_all
  obtain ⟨l, w0⟩ := open_acts_arg h0 (okWide_slice Try.underlying22 (hval 0 22 v0 rfl rfl))
  obtain ⟨orders, w1⟩ := open_ints_arg Try.underlying23 Try.underlying3 (by kernel_rfl) h1 (okWide_slice Try.underlying23 (hval 1 23 v1 rfl rfl))
  obtain ⟨turn, rfl, rfl, rfl, w2⟩ := open_int Try.underlying3 (hval 2 3 v2 rfl rfl) h2
  clear hA0 hval0
  refine (walk v0 l v1 orders turn W w0 w1 w2).mono fun e W' ⟨he, hb⟩ => ?_
  subst he
  exact ⟨_, rfl, law_post (by kernel_rfl) (by kernel_rfl) rfl Try.underlying4 rfl hW' rfl hb⟩

theorem over : Rows.buddyBackRow.holds Try.pinned (OpenSpec.ofChange Rows.buddyBackSpec) :=
  OpenClaim.holds_of_wide 6 Try.f6 rfl rfl rfl rfl rfl rfl rfl ⟨rfl, rfl, rfl, rfl, rfl⟩ rfl rfl rfl rfl rfl (by kernel_rfl) Try.func6 (by kernel_rfl)
    (of_decide_eq_true (by kernel_rfl)) (by unfold Func.isWrapper; first | (rw [if_pos (by decide +kernel)]; kernel_rfl) | (rw [if_neg (by decide +kernel)]; exact ⟨rfl, rfl⟩))
    (fun os started H enc _ => lifted os started H enc)

theorem proved : Rows.BuddyBackSaid :=
  over
#print axioms proved
end Go.Proofs.Ytcdlfhheolbhaaa.buddyBack
