/-
  conf.areAccounts: at any accounts.
-/
import Derived.Test.YtbnlmeegepgioaaDoorCfB
namespace Go.Proofs.YtbnlmeegepgioaaDoor
open Go Go.RowKit Go.Lib Go.Maps Go.WideShapes
set_option linter.unusedVariables false

theorem strE (s : ByteArray) : s.toList.isEmpty = true ↔ s = ByteArray.empty := by
  rw [ByteArray.toList_eq, List.isEmpty_iff]
  constructor
  · intro h
    have h1 : s.data = #[] := Array.toList_eq_nil_iff.1 h
    cases s with
    | mk d => dsimp only at h1; subst h1; rfl
  · rintro rfl; rfl
set_option maxRecDepth 100000 in
set_option maxHeartbeats 4000000 in
theorem areAccounts_any (v : Value) (l : List AcT) (w : World) (hv : AcRow w v l) (hs : ∀ p ∈ l, Short p.1 ∧ Short p.2.1) (hT : U8W w) :
    Calls Tryd.prog 58 #[v] w fun e w' => BoolPost (AccOk l) w e w' := by
  have hmm := @run_makeMap Tryd.prog
  obtain ⟨va, vc, rfl⟩ := hv.slice
  have WI : Hid (∀ n lo hi w, Calls Tryd.prog 54 #[.int .i64 n, .int .i64 lo, .int .i64 hi] w fun e w' => e = .returned (.bool (inR n lo hi)) ∧ w' = w) := within_any
  have HV := Lib.hid hv
  have HS := Lib.hid hs
  have HT := Lib.hid hT
  obtain ⟨LN, hLN⟩ : ∃ LN, LN = l.length := ⟨_, rfl⟩
  have HLN := Lib.hid hLN
  rw [← hLN]
  have HV2 : Hid (AcRow w (.slice va LN vc) l) := by unfold Hid; rw [hLN]; exact hv
  obtain ⟨rl, hrl⟩ : ∃ rl, rl = inR (LN : Int) 1 50 := ⟨_, rfl⟩
  have HRL := Lib.hid hrl
  clear hv hs hT hLN hrl
  go_enter Tryd.func58, Tryd.ntmps58
  go_wp2_with fail
  refine (WI.out _ _ _ _).mono ?_; rintro e w1 ⟨rfl, hw⟩; replace hw := hw.symm; subst hw
  rw [← HRL.out]
  have hrlr : rl = true ↔ 1 ≤ LN ∧ LN ≤ 50 := by rw [HRL.out]; exact inR_len (lo := 1) (hi := 50)
  have HRR := Lib.hid hrlr
  clear hrlr
  cases rl with
  | false =>
    go_wp2_with fail
    go_ret
    exact ⟨false, rfl, ⟨fun h => (by cases h), fun h => by have := HRR.out.2 (by rw [HLN.out]; exact ⟨h.1, h.2.1⟩); cases this⟩, Below.refl _ _⟩
  | true =>
    have hlr : 1 ≤ LN ∧ LN ≤ 50 := by simpa using HRR.out
    obtain ⟨hl1, hl8⟩ := hlr
    have HS0 := Lib.hid (SetIs.made w)
    have HB0 : Hid (Below w.heap.size w (w.alloc (.map #[] 0))) := (Below.refl _ _).alloc (Nat.le_refl _) _
    obtain ⟨bm, hbm⟩ : ∃ bm, bm = w.heap.size := ⟨_, rfl⟩
    have HBM := Lib.hid hbm
    rw [← hbm] at HS0
    go_wp2_with fail
    rw [← hbm]
    clear hbm
    go_loopw [15] (fun i wr => ∃ k : Nat, k ≤ LN ∧ i = .int .i64 k ∧ Hid (RowOk (·.1) acOk l k ∧ ParOk l k) ∧ Hid (SetIs wr bm k ((l.take k).map (·.1))) ∧ Hid (Below w.heap.size w wr)) (fun i _ => LN - (RowKit.intOf i).toNat)
    case atStart => exact ⟨0, Nat.zero_le _, rfl, ⟨RowOk.zero _ _ _, ParOk.zero _⟩, HS0, HB0⟩
    case round =>
      obtain ⟨k, hk, rfl, HK, HSk, HB⟩ := hrel
      by_cases hlt : k < LN
      · have hd : decide (k < LN) = true := decide_eq_true hlt
        have hki : (k : Int) < (LN : Int) := by omega
        have hkl : k < l.length := by rw [← HLN.out]; exact hlt
        obtain ⟨b, off, hva, hcell⟩ := HV2.out.at hkl
        subst hva
        have hse := HS.out _ (List.getElem_mem hkl)
        have htn := take_names (·.1) hkl
        obtain ⟨⟨nm, pn, x2⟩, hx⟩ : ∃ x, x = l[k] := ⟨_, rfl⟩
        rw [← hx] at hcell hse htn
        have c0 := hcell wr HB.out 0 _ rfl
        have c1 := hcell wr HB.out 1 _ rfl
        have c2 := hcell wr HB.out 2 _ rfl
        dsimp only at c0 c1 c2 hse htn
        simp only [Nat.add_zero] at c0
        have HX := Lib.hid hx
        have HTN := Lib.hid htn
        obtain ⟨wA, hwA⟩ : ∃ wA, wA = wr.alloc (.cells #[.string nm, .string pn, .int .i64 x2] 37) := ⟨_, rfl⟩
        have hbA : Below wr.heap.size wr wA := by rw [hwA]; exact (Below.refl _ _).alloc (Nat.le_refl _) _
        obtain ⟨gE, hgE⟩ : ∃ gE, gE = wr.heap.size := ⟨_, rfl⟩
        have HE : Hid (Blk wA gE #[.string nm, .string pn, .int .i64 x2] 37) := by unfold Hid; rw [hwA, hgE]; exact Blk.new _ _ _
        have HEB : Hid (gE ≠ bm) := by unfold Hid; have := HSk.out.lt; omega
        have HBA := Lib.hid (HB.out.trans (hbA.mono HB.out.size))
        obtain ⟨D, hown, hD, hhas⟩ := HSk.out.kept hbA
        have hsp : pn.size ≤ maxLen := by have h := hse.2; unfold Short at h; unfold maxLen; omega
        have hkey : keyOf Tryd.prog 9 (.string pn) = some (.string pn.data.toList) := Go.WideMaps.keyOf_string_mk Tryd.underlying9 hsp
        obtain ⟨hp, hhp⟩ : ∃ hp, hp = Maps.has D (.string pn.data.toList) := ⟨_, rfl⟩
        have HHP : Hid (hp = true ↔ pn ∈ (l.take k).map (·.1)) := by unfold Hid; rw [hhp]; exact hhas pn hsp
        have HOWN : Hid ((wr.alloc (.cells #[.string nm, .string pn, .int .i64 x2] 37)).ownsMap Tryd.prog 9 unitElem bm k D) := by unfold Hid; rw [← hwA]; exact hown
        have HKEY := Lib.hid hkey
        have HHPE := Lib.hid hhp
        obtain ⟨wB, hwB⟩ : ∃ wB, wB = wA.alloc (.cells #[] 99) := ⟨_, rfl⟩
        have hbB : Below wA.heap.size wA wB := by rw [hwB]; exact (Below.refl _ _).alloc (Nat.le_refl _) _
        have HEb := Lib.hid (HE.out.kept hbB)
        have HBb := Lib.hid (HBA.out.trans (hbB.mono HBA.out.size))
        have e0 := HEb.out.cell 0
        have e1 := HEb.out.cell 1
        have e2 := HEb.out.cell 2
        simp at e0 e1 e2
        have NW := Lib.hid (isNew_any bm k _ nm w wB hse.1 HT.out HBb.out (by rw [HBM.out]; exact Nat.le_refl _) (by omega) ((HSk.out.kept hbA).kept hbB))
        clear hcell hse htn hx hbA hown hD hhas hkey hhp hbB hsp
        go_wp2_with (first
          | (at_lookup; refine wpList_lookup_own_unit _ rfl _ _ 97 rfl 9 99 Tryd.keyS Tryd.underlying97 (Tryd.zeroU _) bm k D rfl HOWN.out _ _ rfl HKEY.out ?_; rw [← HHPE.out]))
        · rename_i h1 h2 h3
          have hno : ¬ AccOk l := fun hA => by
            rcases hA.2.2.2 k hkl hkl with ⟨q1, q2⟩ | ⟨q1, q2⟩
            · rw [← HX.out] at q2
              rw [(strE pn).2 q2] at h3; cases h3
            · omega
          go_ret
          exact ⟨false, rfl, ⟨fun h => (by cases h), fun h => absurd h hno⟩, by first | exact HBb.out | (rw [← hwA, ← hwB]; exact HBb.out)⟩
        · rename hp = decide (0 < k) => h1
          rename k = 0 => h2
          rename (!pn.toList.isEmpty) = false => h3
          have HPAR : Hid ((k = 0 ∧ pn = ByteArray.empty) ∨ (0 < k ∧ pn ∈ (l.take k).map (·.1))) := .inl ⟨h2, (strE pn).1 (by simpa using h3)⟩
          rw [← hwA, ← hgE, ← hwB]
          have HK0 := Lib.hid h2
          clear h1 h2 h3 hwA hgE hwB
          refine NW.out.mono ?_; rintro e w4 ⟨r, rfl, hr, hS4, hC4⟩
          have HR := Lib.hid hr
          have HB4 := Lib.hid (below_one HBb.out (by rw [HBM.out]; exact Nat.le_refl _) hC4)
          have HE4 : Hid (Blk w4 gE #[.string nm, .string pn, .int .i64 x2] 37) := by
            have h1 := HEb.out
            have h2 := HEb.out.lt
            have h3 := HEB.out
            unfold Blk at h1
            unfold Hid Blk
            rw [hC4.block gE h2 h3]; exact h1
          have e2 := HE4.out.cell 2
          simp at e2
          have HNO : Hid (∀ (h : ¬ (r = true ∧ inR x2 1 1048576 = true)), ¬ AccOk l) := fun h hp => by
            have hb := hp.2.2.1.back hkl hkl
            rw [← HX.out] at hb
            unfold acOk at hb
            simp only [Bool.and_eq_true] at hb
            exact h ⟨HR.out.2 ⟨hb.2, hb.1.1⟩, hb.1.2⟩
          have HYES : Hid (r = true → inR x2 1 1048576 = true → RowOk (·.1) acOk l (k + 1) ∧ ParOk l (k + 1)) := fun h1 h2 => by
            refine ⟨HK.out.1.step hkl ?_ ?_, HK.out.2.step hkl (by rw [← HX.out]; exact HPAR.out)⟩
            · rw [← HX.out]; unfold acOk; rw [(HR.out.1 h1).2, h2]; rfl
            · rw [← HX.out]; exact (HR.out.1 h1).1
          have HSN : Hid (SetIs w4 bm (k + 1) ((l.take (k + 1)).map (·.1))) := by unfold Hid; rw [HTN.out]; exact hS4
          clear hr hS4 hC4 NW HR
          obtain ⟨y2, hy2⟩ : ∃ y, y = inR x2 1 1048576 := ⟨_, rfl⟩
          rw [← hy2] at HNO HYES
          have HY2 := Lib.hid hy2
          clear hy2
          cases r with
          | false =>
            go_wp2_with fail
            go_ret
            exact ⟨false, rfl, ⟨fun h => (by cases h), fun h => absurd h (HNO.out (by simp))⟩, HB4.out⟩
          | true =>
            go_wp2_with fail
            refine (WI.out _ _ _ _).mono ?_; rintro e w1 ⟨rfl, hw⟩; replace hw := hw.symm; subst hw
            rw [← HY2.out]
            cases y2 with
            | false =>
              go_wp2_with fail
              go_ret
              exact ⟨false, rfl, ⟨fun h => (by cases h), fun h => absurd h (HNO.out (by simp))⟩, HB4.out⟩
            | true =>
              have HYY : Hid (RowOk (·.1) acOk l (k + 1) ∧ ParOk l (k + 1)) := by unfold Hid; simpa using HYES.out
              go_wp2_with fail
              go_roundw
              case rel => exact ⟨k + 1, hlt, by first | go_num | (rw [HK0.out]; rfl), HYY, HSN, HB4⟩
              case measure => have := HK0.out; simp [RowKit.intOf]; omega
        · rename hp = decide (0 < k) => h1
          rename ¬ k = 0 => h2
          have HPAR : Hid ((k = 0 ∧ pn = ByteArray.empty) ∨ (0 < k ∧ pn ∈ (l.take k).map (·.1))) := .inr ⟨Nat.pos_of_ne_zero h2, HHP.out.1 (h1.trans (decide_eq_true (Nat.pos_of_ne_zero h2)))⟩
          rw [← hwA, ← hgE, ← hwB]
          clear h1 h2 hwA hgE hwB
          refine NW.out.mono ?_; rintro e w4 ⟨r, rfl, hr, hS4, hC4⟩
          have HR := Lib.hid hr
          have HB4 := Lib.hid (below_one HBb.out (by rw [HBM.out]; exact Nat.le_refl _) hC4)
          have HE4 : Hid (Blk w4 gE #[.string nm, .string pn, .int .i64 x2] 37) := by
            have h1 := HEb.out
            have h2 := HEb.out.lt
            have h3 := HEB.out
            unfold Blk at h1
            unfold Hid Blk
            rw [hC4.block gE h2 h3]; exact h1
          have e2 := HE4.out.cell 2
          simp at e2
          have HNO : Hid (∀ (h : ¬ (r = true ∧ inR x2 1 1048576 = true)), ¬ AccOk l) := fun h hp => by
            have hb := hp.2.2.1.back hkl hkl
            rw [← HX.out] at hb
            unfold acOk at hb
            simp only [Bool.and_eq_true] at hb
            exact h ⟨HR.out.2 ⟨hb.2, hb.1.1⟩, hb.1.2⟩
          have HYES : Hid (r = true → inR x2 1 1048576 = true → RowOk (·.1) acOk l (k + 1) ∧ ParOk l (k + 1)) := fun h1 h2 => by
            refine ⟨HK.out.1.step hkl ?_ ?_, HK.out.2.step hkl (by rw [← HX.out]; exact HPAR.out)⟩
            · rw [← HX.out]; unfold acOk; rw [(HR.out.1 h1).2, h2]; rfl
            · rw [← HX.out]; exact (HR.out.1 h1).1
          have HSN : Hid (SetIs w4 bm (k + 1) ((l.take (k + 1)).map (·.1))) := by unfold Hid; rw [HTN.out]; exact hS4
          clear hr hS4 hC4 NW HR
          obtain ⟨y2, hy2⟩ : ∃ y, y = inR x2 1 1048576 := ⟨_, rfl⟩
          rw [← hy2] at HNO HYES
          have HY2 := Lib.hid hy2
          clear hy2
          cases r with
          | false =>
            go_wp2_with fail
            go_ret
            exact ⟨false, rfl, ⟨fun h => (by cases h), fun h => absurd h (HNO.out (by simp))⟩, HB4.out⟩
          | true =>
            go_wp2_with fail
            refine (WI.out _ _ _ _).mono ?_; rintro e w1 ⟨rfl, hw⟩; replace hw := hw.symm; subst hw
            rw [← HY2.out]
            cases y2 with
            | false =>
              go_wp2_with fail
              go_ret
              exact ⟨false, rfl, ⟨fun h => (by cases h), fun h => absurd h (HNO.out (by simp))⟩, HB4.out⟩
            | true =>
              have HYY : Hid (RowOk (·.1) acOk l (k + 1) ∧ ParOk l (k + 1)) := by unfold Hid; simpa using HYES.out
              go_wp2_with fail
              go_roundw
              case rel => exact ⟨k + 1, hlt, by go_num, HYY, HSN, HB4⟩
              case measure => simp [RowKit.intOf]; omega
        · rename_i h1
          have hno : ¬ AccOk l := fun hA => by
            rcases hA.2.2.2 k hkl hkl with ⟨q1, q2⟩ | ⟨q1, q2⟩
            · refine h1 ?_
              have : ¬ hp = true := fun h => by
                have hm := HHP.out.1 h
                rw [q1] at hm; simp at hm
              rw [decide_eq_false (show ¬ 0 < k by omega)]
              cases hp
              · rfl
              · exact absurd rfl this
            · refine h1 ?_
              rw [decide_eq_true q1]
              rw [← HX.out] at q2
              exact HHP.out.2 q2
          go_ret
          exact ⟨false, rfl, ⟨fun h => (by cases h), fun h => absurd h hno⟩, by first | exact HBb.out | (rw [← hwA, ← hwB]; exact HBb.out)⟩
      · have hd : decide (k < LN) = false := decide_eq_false hlt
        have hki : ¬ (k : Int) < (LN : Int) := by omega
        have hkl : k = l.length := by rw [← HLN.out]; omega
        have HFIN : Hid (AccOk l) := ⟨by rw [← HLN.out]; exact hl1, by rw [← HLN.out]; exact hl8, by rw [← hkl]; exact HK.out.1, by rw [← hkl]; exact HK.out.2⟩
        clear hkl hlt hk
        go_wp2_with fail
        go_ret
        exact ⟨true, rfl, ⟨fun _ => HFIN.out, fun _ => rfl⟩, HB.out⟩
end Go.Proofs.YtbnlmeegepgioaaDoor
