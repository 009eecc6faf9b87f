/-
  BuddyMost: one by one just as many may be taken as are free; then nothing fits; given back, all are free again: so the law returns true for every input.
-/
import Derived.Test.YtcdlfhheolbhaaaYfC
import Derived.Test.YtcdlfhheolbhaaaRows
import Derived.Test.YtcdlfhheolbhaaaArgs2
namespace Go.Proofs.Ytcdlfhheolbhaaa.buddyMost
open Go.ChangeShapes Go.WideShapes Go.ChangeAt Go.RowKit
set_option linter.unusedVariables false

theorem own : ownKnob Try.prog.godebug = none := by kernel_rfl

open Go Go.ChangeShapes Go.WideShapes Go.ChangeAt Go.RowKit Go.Lib
set_option maxRecDepth 100000 in
set_option maxHeartbeats 2000000 in
theorem walk (v0 : Value) (l : List Ac) (w : World) (h0 : AArg w v0 l) :
    Calls Try.prog 9 #[v0] w fun e w' => e = .returned (.bool true) ∧ Below w.heap.size w w' := by
  have YD := Lib.hid (yard_any v0 l w h0.2 h0.1)
  have K : Hid (∀ w1, Calls Try.prog 11 #[] w1 fun e w' => e = .returned (.bool true) ∧ Below w1.heap.size w1 w') := known4_any
  obtain ⟨i0, hi, hz0, hz1, hz2⟩ := info_parts Try.infoNum
  clear h0
  go_enter Try.func9, Try.ntmps9
  go_wp2_with fail
  refine YD.out.mono ?_; rintro e w1 ⟨g, tk, fl, rfl, _, hY, hb⟩
  have HY1 := Lib.hid hY
  have HB1 := Lib.hid hb
  clear hY hb YD
  have F1 := Lib.hid (Free_any g _ 5 _ _ _ w1 HY1.out.2)
  go_wp2_with fail
  refine F1.out.mono ?_; rintro e w2 ⟨vf, rfl, hof, b2⟩
  have HY2 : Hid (YS w2 g (ownL w.heap.size [vf, .slice none 0 0]) 5 tk fl) := YS.rowsL HY1.out b2 (fun v hv k hk => by
    simp at hv
    rcases hv with rfl | rfl
    · exact hof.lt k hk
    · cases hk)
  have HF2 := Lib.hid (hof.mono (Nat.zero_le _))
  have HB2 := Lib.hid (HB1.out.trans (b2.mono HB1.out.size))
  have HFL := Lib.hid (freeL_len (show 5 ≤ 10 by omega) (opn 5 tk fl))
  have HSL : Hid (∀ k, sumB ((freeL 5 (opn 5 tk fl)).take k) ≤ 32) := fun k => sumB_le (n := 5) k
  have HSF := Lib.hid (sum_free 5 (opn 5 tk fl))
  have HIN : Hid (∀ b ∈ freeL 5 (opn 5 tk fl), b.2 ≤ 5) := fun b hb => (freeL_mem.1 hb).1
  clear hof b2 F1 HY1 HB1
  obtain ⟨F, hF⟩ : ∃ F, F = freeL 5 (opn 5 tk fl) := ⟨_, rfl⟩
  rw [← hF] at HF2 HFL HSL HSF HIN
  have HFF := Lib.hid hF
  clear hF
  obtain ⟨qa, qc, rfl⟩ := own_slice HF2.out
  have hFl := HFL.out
  obtain ⟨LF, hLF⟩ : ∃ LF, LF = F.length := ⟨_, rfl⟩
  obtain ⟨vF, hvF⟩ : ∃ vF, vF = Value.slice qa LF qc := ⟨_, rfl⟩
  have HLF := Lib.hid hLF
  have hLFm : LF ≤ 1024 := by omega
  have HCL : Hid (0 < LF → ∃ q, qa = some ⟨q, 0, none⟩ ∧ BCells w2 q 0 F) := fun h => by
    obtain ⟨q, cap, hqv, _, _, _, _, hcell⟩ := bown_parts HF2.out (by rw [← HLF.out]; exact h)
    exact ⟨q, by injection hqv, hcell⟩
  rw [← hLF, ← hvF] at HY2
  have HF3 : Hid (BOwn w2 0 vF F) := by unfold Hid; rw [hvF, hLF]; exact HF2.out
  have HVF := Lib.hid hvF
  rw [← hLF]
  clear hLF hFl hvF HF2
  go_wp2_with fail
  go_loop [5, 6] (fun nv i => ∃ k : Nat, k ≤ LF ∧ i = .int .i64 k ∧ nv = .int .i64 ((sumB (F.take k) : Nat) : Int)) (fun _ i => LF - (RowKit.intOf i).toNat)
  case atStart => exact ⟨0, Nat.zero_le _, rfl, rfl⟩
  case round =>
    obtain ⟨k, hk, rfl, rfl⟩ := hrel
    by_cases hlt : k < LF
    · have hlt' : decide (k < LF) = true := decide_eq_true hlt
      have hlti : (k : Int) < (LF : Int) := by omega
      have hkF : k < F.length := by rw [← HLF.out]; exact hlt
      obtain ⟨q, hqa, hcell⟩ := HCL.out (by omega)
      have HQA := Lib.hid hqa
      subst hqa
      have c1 := (hcell k hkF).2
      simp only [Nat.zero_add] at c1
      have hbo := HIN.out _ (List.getElem_mem hkF)
      have hs1 := sumB_take hkF
      have hs2 := HSL.out k
      obtain ⟨⟨bs, bo⟩, hb⟩ : ∃ b, b = F[k] := ⟨_, rfl⟩
      rw [← hb] at c1 hbo hs1
      dsimp only at c1 hbo hs1
      obtain ⟨P, hP, hP1, hP2, hPw⟩ := one_shl (show bo ≤ 10 by omega)
      rw [← hP] at hs1
      obtain ⟨S0, hS0⟩ : ∃ S0, S0 = sumB (F.take k) := ⟨_, rfl⟩
      rw [← hS0] at hs1 hs2
      rw [← hS0]
      have HS1 := Lib.hid hs1
      clear hb hcell hP hs1 hS0
      go_wp2_with fail
      go_round
      case rel => exact ⟨k + 1, hlt, by go_num, by rw [HS1.out]; go_num⟩
      case measure => simp [RowKit.intOf]; omega
    · have hlt' : decide (k < LF) = false := decide_eq_false hlt
      have hlti : ¬ ((k : Int) < (LF : Int)) := by omega
      have hkl : F.take k = F := List.take_of_length_le (by rw [← HLF.out]; omega)
      rw [hkl]
      obtain ⟨N0, hN0⟩ : ∃ N0, N0 = sumB F := ⟨_, rfl⟩
      have hN32 : N0 ≤ 32 := by have := HSL.out k; rw [hkl] at this; omega
      have HN0 : Hid ((opensL 5 (opn 5 tk fl)).length = N0) := by unfold Hid; rw [hN0]; exact HSF.out.symm
      rw [← hN0]
      clear hkl hN0 hlt hk
      go_wp2_with fail
      have HK0 : Hid (TookR 5 tk fl tk []) := TookR.zero _ _ _
      have HVN : Hid (Value.ownBlock (.slice none 0 0) = none) := rfl
      go_loopw [7, 8] (fun sv i wr => ∃ (k : Nat) (tk' : List Bk) (S : List Nat) (sa : Option Addr) (sc : Nat), k ≤ N0 ∧ i = .int .i64 k ∧ sv = .slice sa k sc ∧ Hid (k = S.length) ∧ Hid (TookR 5 tk fl tk' S) ∧ Hid ((opensL 5 (opn 5 tk' fl)).length + k = N0) ∧
        Hid (wr.ownsRow 0 3 1 (.slice sa k sc) k (natL S)) ∧ Hid (YS wr g (ownL w.heap.size [vF, .slice sa k sc]) 5 tk' fl) ∧ Hid (BOwn wr 0 vF F) ∧ Hid (∀ b, (Value.slice sa k sc).ownBlock = some b → vF.ownBlock ≠ some b ∧ w.heap.size ≤ b) ∧ Hid (Below w.heap.size w wr)) (fun _ i _ => N0 - (RowKit.intOf i).toNat)
      case atStart => exact ⟨0, tk, [], none, 0, Nat.zero_le _, rfl, rfl, rfl, HK0, HN0.out, World.ownsRow_nil _ _ _ _, HY2, HF3, fun b h => by (cases h), HB2⟩
      case round =>
        obtain ⟨k, tk', S, sa, sc, hk, rfl, rfl, HN, HK, HC, HS, HY, HR, HD, HB⟩ := hrel
        by_cases hlt : k < N0
        · have hlt' : decide (k < N0) = true := decide_eq_true hlt
          have hlti : (k : Int) < (N0 : Int) := by omega
          have TK := Lib.hid (Take_any g _ 5 tk' fl 0 wr HY.out)
          go_wp2_with fail
          refine TK.out.mono ?_; rintro e w4 ⟨r, er, tk2, rfl, hR, hY4, hC4⟩
          obtain ⟨kk, s, rr, hs0, rfl, rfl, htk2, hcnt⟩ := take_some rfl hR (by have := HC.out; omega)
          have HR4 := Lib.hid (brow_chg HR.out hC4 (ownL_out (by simp)))
          have HS4 := Lib.hid (own_chg HS.out hC4 (ownL_out (by simp)))
          have HB4 : Hid (Below w.heap.size w w4) := HB.out.trans (hC4.to_below HB.out.size ownL_lo)
          have HY4 := Lib.hid hY4
          have HK2 : Hid (TookR 5 tk fl tk2 (S ++ [s])) := by unfold Hid; rw [htk2]; exact HK.out.step HY.out.1 hs0
          have HC2 : Hid ((opensL 5 (opn 5 tk2 fl)).length + (k + 1) = N0) := by unfold Hid; have := HC.out; omega
          have HNEW : Hid (∀ q u, ([Value.int .i64 (s : Int)])[q]? = some u → (w4.alloc (.cells #[.int .i64 (s : Int)] 3)).cell? ((⟨w4.heap.size, 0, none⟩ : Addr).add q) = some u) := news_alloc w4 [.int .i64 (s : Int)] 3
          have HOA := Lib.hid (HS4.out.alloc (.cells #[.int .i64 (s : Int)] 3))
          clear hs0 htk2 hcnt hR hY4 hC4 TK
          go_wp2_with (at_builtin; refine wpList_append_own_at _ rfl _ _ 23 rfl 0 3 i0 _ 1 8 Try.underlying23 hi hz0 hz1 hz2 rfl (by decide) _ _ _ rfl HOA.out _ 1 1 [.int .i64 (s : Int)] rfl rfl HNEW.out (by intro u hu; simp at hu; subst hu; rfl) (by unfold maxLen; omega) (by omega) (Nat.zero_le _) ?_; intro v5 w5 hown5 hgrow5 hnil5 hat5; obtain ⟨a5, c5, rfl⟩ := own_slice hown5)
          go_roundw
          case measure => simp [RowKit.intOf]; omega
          case rel =>
            have hb4 : Below w4.heap.size w4 (w4.alloc (.cells #[.int .i64 (s : Int)] 3)) := (Below.refl _ _).alloc (Nat.le_refl _) _
            have hne : ∀ b, (Value.slice a5 (k + 1) c5).ownBlock = some b → (Value.slice sa k sc).ownBlock = some b ∨ b = w4.heap.size + 1 := fun b hb => by
              rcases hat5 with e | e
              · rw [e] at hb; exact .inl hb
              · rw [e] at hb; right; simp at hb; omega
            have hfl := HR4.out.lt
            have hY5 := (HY4.out.2.kept hb4).apartRow (v := .slice sa k sc) (v1 := .slice a5 (k + 1) c5) hgrow5 (ownL_out (by simp)) hat5 (fun b hb => (hown5.lt b hb).2)
            refine ⟨k + 1, tk2, S ++ [s], a5, c5, hlt, by go_num, rfl, ?_, HK2, HC2, ?_, ⟨HY4.out.1, hY5.wider fun b hb => ⟨hb.1.1, fun v hv => ?_⟩⟩, ?_, fun b hb => ?_, ?_⟩
            · unfold Hid; rw [List.length_append, ← HN.out]; rfl
            · unfold Hid; rw [natL_app]; exact hown5
            · simp at hv
              rcases hv with rfl | rfl
              · exact hb.1.2 _ (by simp)
              · exact hb.2
            · refine (own_older HR4.out hb4).kept hgrow5 ?_
              cases hvb : vF.ownBlock with
              | none => exact .inl rfl
              | some q => exact .inr fun e => (HD.out q e.symm).1 hvb
            · rcases hne b hb with e | e
              · exact HD.out b e
              · exact ⟨fun h => by have := (hfl b h).2; omega, by have := HB4.out.size; omega⟩
            · exact (HB4.out.alloc HB4.out.size _).grown hgrow5 (by simp; have := HB4.out.size; omega) (fun b hb => (HD.out b hb).2)
        · have hlt' : decide (k < N0) = false := decide_eq_false hlt
          have hlti : ¬ ((k : Int) < (N0 : Int)) := by omega
          obtain rfl : N0 = k := by omega
          have HC0 : Hid ((opensL 5 (opn 5 tk' fl)).length = 0) := by unfold Hid; have := HC.out; omega
          have TK := Lib.hid (Take_any g _ 5 tk' fl 0 wr HY.out)
          clear hlt
          go_wp2_with fail
          refine TK.out.mono ?_; rintro e w4 ⟨r, er, tk2, rfl, hR, hY4, hC4⟩
          obtain ⟨rfl, rfl, rfl⟩ := take_none rfl hR HC0.out
          have HR4 := Lib.hid (brow_chg HR.out hC4 (ownL_out (by simp)))
          have HS4 := Lib.hid (own_chg HS.out hC4 (ownL_out (by simp)))
          have HB4 : Hid (Below w.heap.size w w4) := HB.out.trans (hC4.to_below HB.out.size ownL_lo)
          have HY4 := Lib.hid hY4
          have F4 := Lib.hid (Free_any g _ 5 _ _ _ w4 HY4.out.2)
          clear hR hY4 hC4 TK
          go_wp2_with fail
          refine F4.out.mono ?_; rintro e w5 ⟨vf2, rfl, hof, b5⟩
          rw [opens_free HC0.out] at hof
          obtain ⟨fa, fc, rfl⟩ := own_slice hof
          have HR5 := Lib.hid (own_older HR4.out b5)
          have HS5 := Lib.hid (own_older HS4.out b5)
          have HB5 := Lib.hid (HB4.out.trans (b5.mono HB4.out.size))
          have HY5 := Lib.hid (HY4.out.kept b5)
          have FT := Lib.hid (Fits_any g _ 5 _ _ _ 0 w5 HY5.out.2)
          clear hof b5 F4
          go_wp2_with fail
          refine FT.out.mono ?_; rintro e w6 ⟨rf, rfl, hrf, b6⟩
          have hrf0 : rf = false := by
            cases rf
            · rfl
            · exact absurd (hrf.1 rfl) (no_fits HC0.out 0)
          subst hrf0
          have HR6 := Lib.hid (own_older HR5.out b6)
          have HS6 := Lib.hid (own_older HS5.out b6)
          have HB6 := Lib.hid (HB5.out.trans (b6.mono HB5.out.size))
          have HY6 : Hid (YS w6 g (ownL w.heap.size [vF, .slice sa N0 sc]) 5 (dropS tk2 (rotN S 0 0)) fl) := by
            unfold Hid; rw [show rotN S 0 0 = [] from rfl, dropS_nil]; exact HY5.out.kept b6
          clear hrf b6 FT
          go_wp2_with fail
          go_loopw [13] (fun i wq => ∃ j : Nat, j ≤ N0 ∧ i = .int .i64 j ∧ Hid (YS wq g (ownL w.heap.size [vF, .slice sa N0 sc]) 5 (dropS tk2 (rotN S 0 j)) fl) ∧ Hid (BOwn wq 0 vF F) ∧ Hid (wq.ownsRow 0 3 1 (.slice sa N0 sc) N0 (natL S)) ∧ Hid (Below w.heap.size w wq)) (fun i _ => N0 - (RowKit.intOf i).toNat)
          case atStart => exact ⟨0, Nat.zero_le _, rfl, HY6, HR6, HS6, HB6⟩
          case round =>
            obtain ⟨j, hj, rfl, HYj, HRj, HSj, HBj⟩ := hrel
            by_cases hlt : j < N0
            · have hlt' : decide (j < N0) = true := decide_eq_true hlt
              have hlti : (j : Int) < (N0 : Int) := by omega
              obtain ⟨q, hsa⟩ := own_addr HSj.out (by omega)
              subst hsa
              have hjS : j < S.length := by rw [← HN.out]; exact hlt
              have c0 := own_cell HSj.out hjS
              have hjm : (j + 0) % S.length = j := by rw [Nat.add_zero, Nat.mod_eq_of_lt hjS]
              obtain ⟨X, hX⟩ : ∃ X, X = S.getD j 0 := ⟨_, rfl⟩
              rw [← hX] at c0
              have HXX : Hid (X = S.getD ((j + 0) % S.length) 0) := by unfold Hid; rw [hjm]; exact hX
              have GV1 := Lib.hid (Give_any g _ 5 _ fl (X : Int) wr HYj.out)
              clear hX hjm
              go_wp2_with fail
              refine GV1.out.mono ?_; rintro e w7 ⟨er, t4, rfl, hg1, hY7, hC7⟩
              rw [HXX.out] at hg1
              obtain ⟨rfl, rfl⟩ := give_next HK.out hjS hg1
              have HC7 := Lib.hid hC7
              have HY7 := Lib.hid hY7
              clear hg1 hY7 hC7 GV1
              go_wp2_with fail
              go_roundw
              case rel => exact ⟨j + 1, hlt, by go_num, HY7, brow_chg HRj.out HC7.out (ownL_out (by simp)), own_chg HSj.out HC7.out (ownL_out (by simp)), HBj.out.trans (HC7.out.to_below HBj.out.size ownL_lo)⟩
              case measure => simp [RowKit.intOf]; omega
            · have hlt' : decide (j < N0) = false := decide_eq_false hlt
              have hlti : ¬ ((j : Int) < (N0 : Int)) := by omega
              have hjN : j = N0 := by omega
              have hback : dropS tk2 (rotN S 0 j) = tk := by
                rw [hjN, HN.out]
                rcases Nat.eq_zero_or_pos N0 with h0 | h0
                · have hS : S = [] := List.eq_nil_of_length_eq_zero (by rw [← HN.out]; exact h0)
                  rw [← HK.out.back, hS]; rfl
                · rw [dropS_congr (rot_all (by rw [← HN.out]; exact h0)), HK.out.back]
              have HYe : Hid (YS wr g (ownL w.heap.size [vF, .slice sa N0 sc]) 5 tk fl) := by have := HYj.out; rw [hback] at this; exact this
              have F6 := Lib.hid (Free_any g _ 5 _ _ _ wr HYe.out.2)
              clear hback hjN
              go_wp2_with fail
              refine F6.out.mono ?_; rintro e w7 ⟨vf3, rfl, hof, b7⟩
              have hfl := HFL.out
              rw [← HFF.out] at hof
              have S7 := Lib.hid (sameB_any vf3 vF _ _ w7 (by omega) (by omega) (brow_of_own hof) ((brow_of_own HRj.out).kept b7))
              rw [decide_eq_true rfl, HVF.out] at S7
              have HB7 := Lib.hid (HBj.out.trans (b7.mono HBj.out.size))
              clear hof b7 F6 hfl
              go_wp2_with fail
              refine S7.out.mono ?_; rintro e w8 ⟨rfl, b8⟩
              have HB8 := Lib.hid (HB7.out.trans (b8.mono HB7.out.size))
              clear b8 S7
              go_wp2_with fail
              refine (K.out _).mono ?_; rintro e w9 ⟨rfl, b9⟩
              have HB9 := Lib.hid (HB8.out.trans (b9.mono HB8.out.size))
              clear b9
              go_wp2_with fail
              go_ret
              exact ⟨rfl, HB9.out⟩


set_option maxRecDepth 100000 in
theorem lifted (os : Os) (started : os.Started) (H : Type) (enc : TypeId × Value → H) :
    ReturnsInHanded {} Try.checked os 9 .any (Rows.buddyMostSpec.pre6 enc Try.prog Try.f9 Rows.buddyMostRow.domain false) (Rows.buddyMostSpec.post enc Try.prog Try.f9 false true false false) := by
  refine returnsInHanded_of_change (C := Try.checked) own started (by kernel_rfl) Try.func9
    (ChangeSpec.witness6 (enc := enc) (C := Try.checked) false ⟨#[], #[.slice none 0 0], []⟩ 8 (by kernel_rfl) (by kernel_rfl) (by kernel_rfl) (by kernel_rfl)) ?_
  intro W base args ds gs before hval0 hW _ _
  have hval : ∀ (j : Nat) t v, Try.f9.params[j]? = some t → args[j]? = some v → Value.okWide Try.prog W .any base t v := hval0
  have hW' := hW
  obtain ⟨p, q, hA0, hV, rfl, hfz, hnd⟩ := hW
  have hA : DataW.TrodAll enc Try.prog W 0 (fun _ => true) true Try.f9.params.toList args.toList ds p := hA0
  rw [Try.params9] at hA hval
  obtain ⟨v0, vs0, d0, ds0, p0, q0, hargs, rfl, rfl, h0, r0⟩ := trodAll_cons hA
  obtain ⟨rfl, rfl, rfl⟩ := trodAll_nil r0
  obtain rfl : args = #[v0] := by cases args; simp_all
  obtain ⟨l, w0⟩ := open_acts_arg h0 (okWide_slice Try.underlying22 (hval 0 22 v0 rfl rfl))
  clear hA0 hval0
  refine (walk v0 l W w0).mono fun e W' ⟨he, hb⟩ => ?_
  subst he
  exact ⟨_, rfl, law_post (by kernel_rfl) (by kernel_rfl) rfl Try.underlying4 rfl hW' rfl hb⟩

theorem over : Rows.buddyMostRow.holds Try.pinned (OpenSpec.ofChange Rows.buddyMostSpec) :=
  OpenClaim.holds_of_wide 9 Try.f9 rfl rfl rfl rfl rfl rfl rfl ⟨rfl, rfl, rfl, rfl, rfl⟩ rfl rfl rfl rfl rfl (by kernel_rfl) Try.func9 (by kernel_rfl)
    (of_decide_eq_true (by kernel_rfl)) (by unfold Func.isWrapper; first | (rw [if_pos (by decide +kernel)]; kernel_rfl) | (rw [if_neg (by decide +kernel)]; exact ⟨rfl, rfl⟩))
    (fun os started H enc _ => lifted os started H enc)

theorem proved : Rows.BuddyMostSaid :=
  over
#print axioms proved
end Go.Proofs.Ytcdlfhheolbhaaa.buddyMost
