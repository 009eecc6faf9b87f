/-
  BuddyLeast: what is taken lies in a free block of the least order that is enough, the first of these, at its begin: so the law returns true for every input.
-/
import Derived.Test.YtcdlfhheolbhaaaYfC
import Derived.Test.YtcdlfhheolbhaaaRows
import Derived.Test.YtcdlfhheolbhaaaArgs2
namespace Go.Proofs.Ytcdlfhheolbhaaa.buddyLeast
open Go.ChangeShapes Go.WideShapes Go.ChangeAt Go.RowKit
set_option linter.unusedVariables false

theorem own : ownKnob Try.prog.godebug = none := by kernel_rfl

open Go Go.ChangeShapes Go.WideShapes Go.ChangeAt Go.RowKit Go.Lib
attribute [local go_sem ↓] blk_eql blk_neq blk_grd
set_option maxRecDepth 100000 in
set_option maxHeartbeats 2000000 in
theorem walk (v0 : Value) (l : List Ac) (order : Int) (w : World) (h0 : AArg w v0 l) (h1 : (Lit.int .i64 order).wf = true) :
    Calls Try.prog 5 #[v0, .int .i64 order] w fun e w' => e = .returned (.bool true) ∧ Below w.heap.size w w' := by
  have YD := Lib.hid (yard_any v0 l w h0.2 h0.1)
  have K : Hid (∀ w1, Calls Try.prog 11 #[] w1 fun e w' => e = .returned (.bool true) ∧ Below w1.heap.size w1 w') := known4_any
  obtain ⟨U, o, hU, hUo, ho6, hUt⟩ := pick6 order
  clear h0 h1
  go_enter Try.func5, Try.ntmps5
  go_wp2_with fail
  refine YD.out.mono ?_; rintro e w1 ⟨g, tk, fl, rfl, _, hY, hb⟩
  have HY1 := Lib.hid hY
  have HB1 := Lib.hid hb
  clear hY hb YD
  have F1 := Lib.hid (Free_any g _ 5 _ _ _ w1 HY1.out.2)
  go_wp2_with fail
  refine F1.out.mono ?_; rintro e w2 ⟨vf, rfl, hof, b2⟩
  have HY2 : Hid (YS w2 g (ownL w.heap.size [vf]) 5 tk fl) := YS.rowsL HY1.out b2 (fun v hv k hk => by
    simp at hv
    subst hv
    exact hof.lt k hk)
  have HF2 := Lib.hid (hof.mono (Nat.zero_le _))
  have HB2 := Lib.hid (HB1.out.trans (b2.mono HB1.out.size))
  have HFL := Lib.hid (freeL_len (show 5 ≤ 10 by omega) (opn 5 tk fl))
  clear hof b2 F1 HY1 HB1
  obtain ⟨F, hF⟩ : ∃ F, F = freeL 5 (opn 5 tk fl) := ⟨_, rfl⟩
  rw [← hF] at HF2 HFL
  have HFF := Lib.hid hF
  clear hF
  obtain ⟨qa, qc, rfl⟩ := own_slice HF2.out
  have hFl := HFL.out
  obtain ⟨LF, hLF⟩ : ∃ LF, LF = F.length := ⟨_, rfl⟩
  rw [← hLF]
  have hLFm : LF ≤ 1024 := by omega
  have HLF := Lib.hid hLF
  have HCL : Hid (0 < LF → ∃ q, qa = some ⟨q, 0, none⟩ ∧ BCells w2 q 0 F) := fun h => by
    obtain ⟨q, cap, hqv, _, _, _, _, hcell⟩ := bown_parts HF2.out (by rw [← HLF.out]; exact h)
    exact ⟨q, by injection hqv, hcell⟩
  clear hLF hFl
  go_wp2_with fail
  go_loopw [8, 9] (fun bv i wr => ∃ (k : Nat) (bi : Int), k ≤ LF ∧ i = .int .i64 k ∧ bv = .int .i64 bi ∧ Hid (BestR F o k bi) ∧ Hid (Below w2.heap.size w2 wr)) (fun _ i _ => LF - (RowKit.intOf i).toNat)
  case atStart => exact ⟨0, -1, Nat.zero_le _, rfl, rfl, BestR.zero _ _, Below.refl _ _⟩
  case round =>
    obtain ⟨k, bi, hk, rfl, rfl, HBE, HBr⟩ := hrel
    by_cases hlt : k < LF
    · have hlt' : decide (k < LF) = true := decide_eq_true hlt
      have hlti : (k : Int) < (LF : Int) := by omega
      have hkF : k < F.length := by rw [← HLF.out]; exact hlt
      obtain ⟨q, hqa, hcell⟩ := HCL.out (by omega)
      subst hqa
      have c1 := ((hcell.kept HBr.out) k hkF).2
      simp only [Nat.zero_add] at c1
      obtain ⟨⟨ks, ko⟩, hb⟩ : ∃ b, b = F[k] := ⟨_, rfl⟩
      rw [← hb] at c1
      dsimp only at c1
      have HB := Lib.hid hb
      have HC := Lib.hid hcell
      clear hb hcell
      by_cases hko : (ko : Int) < (o : Int)
      · have hd : decide ((o : Int) ≤ (ko : Int)) = false := decide_eq_false (by omega)
        have hdn : decide (o ≤ ko) = false := decide_eq_false (by omega)
        have HN := Lib.hid (HBE.out.skip hkF (by rw [← HB.out]; dsimp only; omega))
        clear hko
        go_wp2_with fail
        go_region
        go_wp2_with fail
        go_roundw
        case rel => exact ⟨k + 1, bi, hlt, by go_num, rfl, HN, by first | exact below_drewN HBr.out _ | exact HBr.out.drew⟩
        case measure => simp [RowKit.intOf]; omega
      · have hd : decide ((o : Int) ≤ (ko : Int)) = true := decide_eq_true (by omega)
        have hdn : decide (o ≤ ko) = true := decide_eq_true (by omega)
        have hok : o ≤ F[k].2 := by rw [← HB.out]; dsimp only; omega
        rcases HBE.out.bound with rfl | ⟨m, rfl, hmF, hmk⟩
        · have HN := Lib.hid (HBE.out.first hkF hok)
          clear hok hko
          go_wp2_with fail
          go_region
          go_wp2_with fail
          go_roundw
          case rel => exact ⟨k + 1, (k : Int), hlt, by go_num, rfl, HN, by first | exact below_drewN HBr.out _ | exact HBr.out.drew⟩
          case measure => simp [RowKit.intOf]; omega
        · have d1 := ((HC.out.kept HBr.out) m hmF).2
          simp only [Nat.zero_add] at d1
          obtain ⟨⟨ms, mo⟩, hbm⟩ : ∃ b, b = F[m] := ⟨_, rfl⟩
          rw [← hbm] at d1
          dsimp only at d1
          have HM := Lib.hid hbm
          have hmL : m < LF := by omega
          have hmi : (m : Int) < (LF : Int) := by omega
          have hm0 : decide ((m : Int) < 0) = false := decide_eq_false (by omega)
          have hmz : ¬ ((m : Int) < 0) := by omega
          clear hbm hko
          by_cases hlt2 : ko < mo
          · have hd2 : decide (ko < mo) = true := decide_eq_true hlt2
            have hd3 : (ko : Int) < (mo : Int) := by omega
            have HN := Lib.hid (HBE.out.better hkF hmF hok (by rw [← HB.out, ← HM.out]; exact hlt2))
            clear hok
            go_wp2_with fail
            go_region
            go_wp2_with fail
            go_roundw
            case rel => exact ⟨k + 1, (k : Int), hlt, by go_num, rfl, HN, by first | exact below_drewN HBr.out _ | exact HBr.out.drew⟩
            case measure => simp [RowKit.intOf]; omega
          · have hd2 : decide (ko < mo) = false := decide_eq_false hlt2
            have hd3 : ¬ ((ko : Int) < (mo : Int)) := by omega
            have HN := Lib.hid (HBE.out.worse hkF hmF (by rw [← HB.out, ← HM.out]; dsimp only; omega))
            clear hok hlt2
            go_wp2_with fail
            go_region
            go_wp2_with fail
            go_roundw
            case rel => exact ⟨k + 1, (m : Int), hlt, by go_num, rfl, HN, by first | exact below_drewN HBr.out _ | exact HBr.out.drew⟩
            case measure => simp [RowKit.intOf]; omega
    · have hlt' : decide (k < LF) = false := decide_eq_false hlt
      have hlti : ¬ ((k : Int) < (LF : Int)) := by omega
      obtain rfl : LF = k := by omega
      have HBF : Hid (BestR (freeL 5 (opn 5 tk fl)) o (freeL 5 (opn 5 tk fl)).length bi) := by
        unfold Hid
        rw [← HFF.out, ← HLF.out]; exact HBE.out
      have HYr := Lib.hid (HY2.out.kept HBr.out)
      have FT := Lib.hid (Fits_any g _ 5 _ _ _ (o : Int) wr HYr.out.2)
      have HBw := Lib.hid (HB2.out.trans (HBr.out.mono HB2.out.size))
      have HFr := Lib.hid (own_older HF2.out HBr.out)
      clear hlt
      go_wp2_with fail
      refine FT.out.mono ?_; rintro e w3 ⟨rf, rfl, hrf, b3⟩
      have HRF := Lib.hid hrf
      have HY3 := Lib.hid (HYr.out.kept b3)
      have HB3 := Lib.hid (HBw.out.trans (b3.mono HBw.out.size))
      have HF3 := Lib.hid (own_older HFr.out b3)
      have TK := Lib.hid (Take_any g _ 5 tk fl (o : Int) w3 HY3.out)
      clear hrf b3 FT
      go_wp2_with fail
      refine TK.out.mono ?_; rintro e w4 ⟨r, er, tk', rfl, hR, hY4, hC4⟩
      have HF4 := Lib.hid (own_chg HF3.out hC4 (ownL_out (by simp)))
      have HB4 := Lib.hid (HB3.out.trans (hC4.to_below HB3.out.size ownL_lo))
      have HY4 := Lib.hid hY4
      rcases take_best rfl hR (by omega) HBF.out with ⟨rfl, rfl, rfl, hnf⟩ | ⟨m, s, rfl, hm, ⟨kk, hF⟩, rfl, rfl, rfl, hf⟩
      · have hrf : rf = false := by
          cases rf
          · rfl
          · exact absurd (HRF.out.1 rfl) hnf
        subst hrf
        clear hR hY4 hC4 hnf TK
        go_wp2_with fail
        refine (K.out _).mono ?_; rintro e w5 ⟨rfl, b5⟩
        have HB5 := Lib.hid (HB4.out.trans (b5.mono HB4.out.size))
        clear b5
        go_wp2_with fail
        go_ret
        exact ⟨rfl, HB5.out⟩
      · have hrf : rf = true := HRF.out.2 hf
        subst hrf
        have HD := Lib.hid (Held_any g _ 5 _ _ _ (s : Int) w4 HY4.out.1.tlen HY4.out.1.small HY4.out.2)
        rw [← HFF.out, ← HLF.out] at hm
        rw [← HFF.out] at hF
        have HM := Lib.hid hm
        have HFM := Lib.hid hF
        clear hR hY4 hC4 hf TK hm hF
        go_wp2_with fail
        refine HD.out.mono ?_; rintro e w5 ⟨b, f, rfl, hH, b5⟩
        obtain ⟨rfl, rfl⟩ := held_taken HY4.out.1 (mem_insT.2 (.inl rfl)) hH
        have hb : (BOwn w5 0 (.slice qa F.length qc) F) := own_older HF4.out b5
        have hmF : m < F.length := by rw [← HLF.out]; exact HM.out
        have hml : m < LF := HM.out
        have hmi : (m : Int) < (LF : Int) := by have := HM.out; omega
        obtain ⟨q, cap, hqv, _, hqs, _, _, hcell⟩ := bown_parts hb (by omega)
        obtain rfl : qa = some ⟨q, 0, none⟩ := by injection hqv
        have c0 := (hcell m hmF).1
        have he : F[m] = (s, kk) := by have := HFM.out; rw [List.getElem?_eq_getElem hmF] at this; exact Option.some.inj this
        rw [he] at c0
        simp only [Nat.zero_add] at c0
        try dsimp only at c0
        have hmz : ¬ ((m : Int) < 0) := by omega
        have hm0 : decide ((m : Int) < 0) = false := decide_eq_false hmz
        have hbq : beqB (s : Int) (o : Int) (s : Int) (o : Int) = true := by rw [beqB_nat]; simp
        have HB5 := Lib.hid (HB4.out.trans (b5.mono HB4.out.size))
        unfold bkV
        clear hH b5 HD hb hqv hcell he
        go_wp2_with fail
        refine (K.out _).mono ?_; rintro e w6 ⟨rfl, b6⟩
        have HB6 : Hid (Below w.heap.size w w6) := (HB5.out.alloc HB5.out.size _).trans (b6.mono (by simp; have := HB5.out.size; omega))
        clear b6
        go_wp2_with fail
        go_ret
        exact ⟨rfl, HB6.out⟩


set_option maxRecDepth 100000 in
theorem lifted (os : Os) (started : os.Started) (H : Type) (enc : TypeId × Value → H) :
    ReturnsInHanded {} Try.checked os 5 .any (Rows.buddyLeastSpec.pre6 enc Try.prog Try.f5 Rows.buddyLeastRow.domain false) (Rows.buddyLeastSpec.post enc Try.prog Try.f5 false true false false) := by
  refine returnsInHanded_of_change (C := Try.checked) own started (by kernel_rfl) Try.func5
    (ChangeSpec.witness6 (enc := enc) (C := Try.checked) false ⟨#[], #[.slice none 0 0, .int .i64 0], []⟩ 8 (by kernel_rfl) (by kernel_rfl) (by kernel_rfl) (by kernel_rfl)) ?_
  intro W base args ds gs before hval0 hW _ _
  have hval : ∀ (j : Nat) t v, Try.f5.params[j]? = some t → args[j]? = some v → Value.okWide Try.prog W .any base t v := hval0
  have hW' := hW
  obtain ⟨p, q, hA0, hV, rfl, hfz, hnd⟩ := hW
  have hA : DataW.TrodAll enc Try.prog W 0 (fun _ => true) true Try.f5.params.toList args.toList ds p := hA0
  rw [Try.params5] at hA hval
  obtain ⟨v0, vs0, d0, ds0, p0, q0, hargs, rfl, rfl, h0, r0⟩ := trodAll_cons hA
  obtain ⟨v1, vs1, d1, ds1, p1, q1, rfl, rfl, rfl, h1, r1⟩ := trodAll_cons r0
  obtain ⟨rfl, rfl, rfl⟩ := trodAll_nil r1
  obtain rfl : args = #[v0, v1] := by cases args; simp_all
  obtain ⟨l, w0⟩ := open_acts_arg h0 (okWide_slice Try.underlying22 (hval 0 22 v0 rfl rfl))
  obtain ⟨order, rfl, rfl, rfl, w1⟩ := open_int Try.underlying3 (hval 1 3 v1 rfl rfl) h1
  clear hA0 hval0
  refine (walk v0 l order W w0 w1).mono fun e W' ⟨he, hb⟩ => ?_
  subst he
  exact ⟨_, rfl, law_post (by kernel_rfl) (by kernel_rfl) rfl Try.underlying4 rfl hW' rfl hb⟩

theorem over : Rows.buddyLeastRow.holds Try.pinned (OpenSpec.ofChange Rows.buddyLeastSpec) :=
  OpenClaim.holds_of_wide 5 Try.f5 rfl rfl rfl rfl rfl rfl rfl ⟨rfl, rfl, rfl, rfl, rfl⟩ rfl rfl rfl rfl rfl (by kernel_rfl) Try.func5 (by kernel_rfl)
    (of_decide_eq_true (by kernel_rfl)) (by unfold Func.isWrapper; first | (rw [if_pos (by decide +kernel)]; kernel_rfl) | (rw [if_neg (by decide +kernel)]; exact ⟨rfl, rfl⟩))
    (fun os started H enc _ => lifted os started H enc)

theorem proved : Rows.BuddyLeastSaid :=
  over
#print axioms proved
end Go.Proofs.Ytcdlfhheolbhaaa.buddyLeast
