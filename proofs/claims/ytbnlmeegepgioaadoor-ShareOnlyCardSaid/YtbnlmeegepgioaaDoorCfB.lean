/-
  conf.areParts, areClasses, areAccounts: at any rows.
-/
import Derived.Test.YtbnlmeegepgioaaDoorCfA
namespace Go.Proofs.YtbnlmeegepgioaaDoor
open Go Go.RowKit Go.Lib Go.Maps
set_option linter.unusedVariables false

def encP (p : PaT) : List Value := [.string p.1, .int .i64 p.2.1, .int .i64 p.2.2.1, .int .i64 p.2.2.2]
def encQ (p : ClT) : List Value := [.string p.1, .int .i64 p.2.1, .int .i64 p.2.2]
def encAc (p : AcT) : List Value := [.string p.1, .string p.2.1, .int .i64 p.2.2]
abbrev PRow := RowG 4 encP
abbrev QRow := RowG 3 encQ
abbrev AcRow := RowG 3 encAc
/-- No string longer than a machine may have. -/
def Short (s : ByteArray) : Prop := s.size ≤ 4611686018427387904
def BoolPost (P : Prop) (w : World) (e : Ending) (w' : World) : Prop := ∃ r : Bool, e = .returned (.bool r) ∧ (r = true ↔ P) ∧ Below w.heap.size w w'
theorem inR_len {n lo hi : Nat} : inR (n : Int) (lo : Int) (hi : Int) = true ↔ lo ≤ n ∧ n ≤ hi := by rw [inR_iff]; omega
theorem below_one {w0 w w' : World} {b : Nat} (h : Below w0.heap.size w0 w) (hb : w0.heap.size ≤ b) (hc : Chg (One b) w w') : Below w0.heap.size w0 w' := h.trans (hc.to_below h.size fun k hk e => by have : k = b := e; omega)

set_option maxRecDepth 100000 in
set_option maxHeartbeats 4000000 in
theorem areParts_any (v : Value) (l : List PaT) (w : World) (hv : PRow w v l) (hs : ∀ p ∈ l, Short p.1) (hT : U8W w) :
    Calls Tryd.prog 56 #[v] w fun e w' => BoolPost (PartsOk l) w e w' := by
  have hmm := @run_makeMap Tryd.prog
  obtain ⟨va, vc, rfl⟩ := hv.slice
  have WI : Hid (∀ n lo hi w, Calls Tryd.prog 54 #[.int .i64 n, .int .i64 lo, .int .i64 hi] w fun e w' => e = .returned (.bool (inR n lo hi)) ∧ w' = w) := within_any
  have HV := Lib.hid hv
  have HS := Lib.hid hs
  have HT := Lib.hid hT
  obtain ⟨LN, hLN⟩ : ∃ LN, LN = l.length := ⟨_, rfl⟩
  have HLN := Lib.hid hLN
  rw [← hLN]
  have HV2 : Hid (PRow w (.slice va LN vc) l) := by unfold Hid; rw [hLN]; exact hv
  obtain ⟨rl, hrl⟩ : ∃ rl, rl = inR (LN : Int) 1 8 := ⟨_, rfl⟩
  have HRL := Lib.hid hrl
  clear hv hs hT hLN hrl
  go_enter Tryd.func56, Tryd.ntmps56
  go_wp2_with fail
  refine (WI.out _ _ _ _).mono ?_; rintro e w1 ⟨rfl, hw⟩; replace hw := hw.symm; subst hw
  rw [← HRL.out]
  have hrlr : rl = true ↔ 1 ≤ LN ∧ LN ≤ 8 := by rw [HRL.out]; exact inR_len (lo := 1) (hi := 8)
  have HRR := Lib.hid hrlr
  clear hrlr
  cases rl with
  | false =>
    go_wp2_with fail
    go_ret
    exact ⟨false, rfl, ⟨fun h => (by cases h), fun h => by have := HRR.out.2 (by rw [HLN.out]; exact ⟨h.1, h.2.1⟩); cases this⟩, Below.refl _ _⟩
  | true =>
    have hlr : 1 ≤ LN ∧ LN ≤ 8 := by simpa using HRR.out
    obtain ⟨hl1, hl8⟩ := hlr
    have HS0 := Lib.hid (SetIs.made w)
    have HB0 : Hid (Below w.heap.size w (w.alloc (.map #[] 0))) := (Below.refl _ _).alloc (Nat.le_refl _) _
    obtain ⟨bm, hbm⟩ : ∃ bm, bm = w.heap.size := ⟨_, rfl⟩
    have HBM := Lib.hid hbm
    rw [← hbm] at HS0
    go_wp2_with fail
    rw [← hbm]
    clear hbm
    go_loopw [13] (fun i wr => ∃ k : Nat, k ≤ LN ∧ i = .int .i64 k ∧ Hid (RowOk (·.1) paOk l k) ∧ Hid (SetIs wr bm k ((l.take k).map (·.1))) ∧ Hid (Below w.heap.size w wr)) (fun i _ => LN - (RowKit.intOf i).toNat)
    case atStart => exact ⟨0, Nat.zero_le _, rfl, RowOk.zero _ _ _, HS0, HB0⟩
    case round =>
      obtain ⟨k, hk, rfl, HK, HSk, HB⟩ := hrel
      by_cases hlt : k < LN
      · have hd : decide (k < LN) = true := decide_eq_true hlt
        have hki : (k : Int) < (LN : Int) := by omega
        have hkl : k < l.length := by rw [← HLN.out]; exact hlt
        obtain ⟨b, off, hva, hcell⟩ := HV2.out.at hkl
        subst hva
        have hse := HS.out _ (List.getElem_mem hkl)
        have htn := take_names (·.1) hkl
        obtain ⟨⟨nm, x1, x2, x3⟩, hx⟩ : ∃ x, x = l[k] := ⟨_, rfl⟩
        rw [← hx] at hcell hse htn
        have c0 := hcell wr HB.out 0 _ rfl
        have c1 := hcell wr HB.out 1 _ rfl
        have c2 := hcell wr HB.out 2 _ rfl
        have c3 := hcell wr HB.out 3 _ rfl
        dsimp only at c0 c1 c2 c3 hse htn
        simp only [Nat.add_zero] at c0
        have HX := Lib.hid hx
        have HTN := Lib.hid htn
        obtain ⟨wA, hwA⟩ : ∃ wA, wA = wr.alloc (.cells #[.string nm, .int .i64 x1, .int .i64 x2, .int .i64 x3] 67) := ⟨_, rfl⟩
        have hbA : Below wr.heap.size wr wA := by rw [hwA]; exact (Below.refl _ _).alloc (Nat.le_refl _) _
        obtain ⟨gE, hgE⟩ : ∃ gE, gE = wr.heap.size := ⟨_, rfl⟩
        have HE : Hid (Blk wA gE #[.string nm, .int .i64 x1, .int .i64 x2, .int .i64 x3] 67) := by unfold Hid; rw [hwA, hgE]; exact Blk.new _ _ _
        have HEB : Hid (gE ≠ bm) := by unfold Hid; have := HSk.out.lt; omega
        have HBA := Lib.hid (HB.out.trans (hbA.mono HB.out.size))
        have NW := Lib.hid (isNew_any bm k _ nm w wA hse HT.out HBA.out (by rw [HBM.out]; exact Nat.le_refl _) (by omega) (HSk.out.kept hbA))
        clear hcell hse htn hx hbA
        go_wp2_with fail
        rw [← hwA, ← hgE]
        clear hwA hgE
        refine NW.out.mono ?_; rintro e w4 ⟨r, rfl, hr, hS4, hC4⟩
        have HR := Lib.hid hr
        have HS4 := Lib.hid hS4
        have HB4 := Lib.hid (below_one HBA.out (by rw [HBM.out]; exact Nat.le_refl _) hC4)
        have HE4 : Hid (Blk w4 gE #[.string nm, .int .i64 x1, .int .i64 x2, .int .i64 x3] 67) := by
          have h1 := HE.out
          have h2 := HE.out.lt
          have h3 := HEB.out
          unfold Blk at h1
          unfold Hid Blk
          rw [hC4.block gE h2 h3]; exact h1
        have e1 := HE4.out.cell 1
        have e2 := HE4.out.cell 2
        have e3 := HE4.out.cell 3
        simp at e1 e2 e3
        have HNO : Hid (∀ (h : ¬ (r = true ∧ inR x1 0 10 = true ∧ inR x2 0 1048576 = true ∧ inR x3 1 1073741824 = true)), ¬ PartsOk l) := fun h hp => by
          have hb := hp.2.2.back hkl hkl
          rw [← HX.out] at hb
          unfold paOk at hb
          simp only [Bool.and_eq_true] at hb
          exact h ⟨HR.out.2 ⟨hb.2, hb.1.1.1.1⟩, hb.1.1.1.2, hb.1.1.2, hb.1.2⟩
        have HYES : Hid (r = true → inR x1 0 10 = true → inR x2 0 1048576 = true → inR x3 1 1073741824 = true → RowOk (·.1) paOk l (k + 1)) := fun h1 h2 h3 h4 => by
          refine HK.out.step hkl ?_ ?_
          · rw [← HX.out]; unfold paOk; rw [(HR.out.1 h1).2, h2, h3, h4]; rfl
          · rw [← HX.out]; exact (HR.out.1 h1).1
        have HSN : Hid (SetIs w4 bm (k + 1) ((l.take (k + 1)).map (·.1))) := by unfold Hid; rw [HTN.out]; exact HS4.out
        clear hr hS4 hC4 NW HS4 HR
        obtain ⟨y1, hy1⟩ : ∃ y, y = inR x1 0 10 := ⟨_, rfl⟩
        obtain ⟨y2, hy2⟩ : ∃ y, y = inR x2 0 1048576 := ⟨_, rfl⟩
        obtain ⟨y3, hy3⟩ : ∃ y, y = inR x3 1 1073741824 := ⟨_, rfl⟩
        rw [← hy1, ← hy2, ← hy3] at HNO HYES
        have HY1 := Lib.hid hy1
        have HY2 := Lib.hid hy2
        have HY3 := Lib.hid hy3
        clear hy1 hy2 hy3
        cases r with
        | false =>
          go_wp2_with fail
          go_ret
          exact ⟨false, rfl, ⟨fun h => (by cases h), fun h => absurd h (HNO.out (by simp))⟩, HB4.out⟩
        | true =>
          go_wp2_with fail
          refine (WI.out _ _ _ _).mono ?_; rintro e w1 ⟨rfl, hw⟩; replace hw := hw.symm; subst hw
          rw [← HY1.out]
          cases y1 with
          | false =>
            go_wp2_with fail
            go_ret
            exact ⟨false, rfl, ⟨fun h => (by cases h), fun h => absurd h (HNO.out (by simp))⟩, HB4.out⟩
          | true =>
            go_wp2_with fail
            refine (WI.out _ _ _ _).mono ?_; rintro e w1 ⟨rfl, hw⟩; replace hw := hw.symm; subst hw
            rw [← HY2.out]
            cases y2 with
            | false =>
              go_wp2_with fail
              go_ret
              exact ⟨false, rfl, ⟨fun h => (by cases h), fun h => absurd h (HNO.out (by simp))⟩, HB4.out⟩
            | true =>
              go_wp2_with fail
              refine (WI.out _ _ _ _).mono ?_; rintro e w1 ⟨rfl, hw⟩; replace hw := hw.symm; subst hw
              rw [← HY3.out]
              cases y3 with
              | false =>
                go_wp2_with fail
                go_ret
                exact ⟨false, rfl, ⟨fun h => (by cases h), fun h => absurd h (HNO.out (by simp))⟩, HB4.out⟩
              | true =>
                have HYY : Hid (RowOk (·.1) paOk l (k + 1)) := by unfold Hid; simpa using HYES.out
                go_wp2_with fail
                go_roundw
                case rel => exact ⟨k + 1, hlt, by go_num, HYY, HSN, HB4⟩
                case measure => simp [RowKit.intOf]; omega
      · have hd : decide (k < LN) = false := decide_eq_false hlt
        have hki : ¬ (k : Int) < (LN : Int) := by omega
        have hkl : k = l.length := by rw [← HLN.out]; omega
        have HFIN : Hid (PartsOk l) := ⟨by rw [← HLN.out]; exact hl1, by rw [← HLN.out]; exact hl8, by rw [← hkl]; exact HK.out⟩
        clear hkl hlt hk
        go_wp2_with fail
        go_ret
        exact ⟨true, rfl, ⟨fun _ => HFIN.out, fun _ => rfl⟩, HB.out⟩
set_option maxRecDepth 100000 in
set_option maxHeartbeats 4000000 in
theorem areClasses_any (v : Value) (l : List ClT) (w : World) (hv : QRow w v l) (hs : ∀ p ∈ l, Short p.1) (hT : U8W w) :
    Calls Tryd.prog 57 #[v] w fun e w' => BoolPost (ClassesOk l) w e w' := by
  have hmm := @run_makeMap Tryd.prog
  obtain ⟨va, vc, rfl⟩ := hv.slice
  have WI : Hid (∀ n lo hi w, Calls Tryd.prog 54 #[.int .i64 n, .int .i64 lo, .int .i64 hi] w fun e w' => e = .returned (.bool (inR n lo hi)) ∧ w' = w) := within_any
  have HV := Lib.hid hv
  have HS := Lib.hid hs
  have HT := Lib.hid hT
  obtain ⟨LN, hLN⟩ : ∃ LN, LN = l.length := ⟨_, rfl⟩
  have HLN := Lib.hid hLN
  rw [← hLN]
  have HV2 : Hid (QRow w (.slice va LN vc) l) := by unfold Hid; rw [hLN]; exact hv
  obtain ⟨rl, hrl⟩ : ∃ rl, rl = inR (LN : Int) 1 8 := ⟨_, rfl⟩
  have HRL := Lib.hid hrl
  clear hv hs hT hLN hrl
  go_enter Tryd.func57, Tryd.ntmps57
  go_wp2_with fail
  refine (WI.out _ _ _ _).mono ?_; rintro e w1 ⟨rfl, hw⟩; replace hw := hw.symm; subst hw
  rw [← HRL.out]
  have hrlr : rl = true ↔ 1 ≤ LN ∧ LN ≤ 8 := by rw [HRL.out]; exact inR_len (lo := 1) (hi := 8)
  have HRR := Lib.hid hrlr
  clear hrlr
  cases rl with
  | false =>
    go_wp2_with fail
    go_ret
    exact ⟨false, rfl, ⟨fun h => (by cases h), fun h => by have := HRR.out.2 (by rw [HLN.out]; exact ⟨h.1, h.2.1⟩); cases this⟩, Below.refl _ _⟩
  | true =>
    have hlr : 1 ≤ LN ∧ LN ≤ 8 := by simpa using HRR.out
    obtain ⟨hl1, hl8⟩ := hlr
    have HS0 := Lib.hid (SetIs.made w)
    have HB0 : Hid (Below w.heap.size w (w.alloc (.map #[] 0))) := (Below.refl _ _).alloc (Nat.le_refl _) _
    obtain ⟨bm, hbm⟩ : ∃ bm, bm = w.heap.size := ⟨_, rfl⟩
    have HBM := Lib.hid hbm
    rw [← hbm] at HS0
    go_wp2_with fail
    rw [← hbm]
    clear hbm
    go_loopw [13] (fun i wr => ∃ k : Nat, k ≤ LN ∧ i = .int .i64 k ∧ Hid (RowOk (·.1) clOk l k) ∧ Hid (SetIs wr bm k ((l.take k).map (·.1))) ∧ Hid (Below w.heap.size w wr)) (fun i _ => LN - (RowKit.intOf i).toNat)
    case atStart => exact ⟨0, Nat.zero_le _, rfl, RowOk.zero _ _ _, HS0, HB0⟩
    case round =>
      obtain ⟨k, hk, rfl, HK, HSk, HB⟩ := hrel
      by_cases hlt : k < LN
      · have hd : decide (k < LN) = true := decide_eq_true hlt
        have hki : (k : Int) < (LN : Int) := by omega
        have hkl : k < l.length := by rw [← HLN.out]; exact hlt
        obtain ⟨b, off, hva, hcell⟩ := HV2.out.at hkl
        subst hva
        have hse := HS.out _ (List.getElem_mem hkl)
        have htn := take_names (·.1) hkl
        obtain ⟨⟨nm, x1, x2⟩, hx⟩ : ∃ x, x = l[k] := ⟨_, rfl⟩
        rw [← hx] at hcell hse htn
        have c0 := hcell wr HB.out 0 _ rfl
        have c1 := hcell wr HB.out 1 _ rfl
        have c2 := hcell wr HB.out 2 _ rfl
        dsimp only at c0 c1 c2 hse htn
        simp only [Nat.add_zero] at c0
        have HX := Lib.hid hx
        have HTN := Lib.hid htn
        obtain ⟨wA, hwA⟩ : ∃ wA, wA = wr.alloc (.cells #[.string nm, .int .i64 x1, .int .i64 x2] 69) := ⟨_, rfl⟩
        have hbA : Below wr.heap.size wr wA := by rw [hwA]; exact (Below.refl _ _).alloc (Nat.le_refl _) _
        obtain ⟨gE, hgE⟩ : ∃ gE, gE = wr.heap.size := ⟨_, rfl⟩
        have HE : Hid (Blk wA gE #[.string nm, .int .i64 x1, .int .i64 x2] 69) := by unfold Hid; rw [hwA, hgE]; exact Blk.new _ _ _
        have HEB : Hid (gE ≠ bm) := by unfold Hid; have := HSk.out.lt; omega
        have HBA := Lib.hid (HB.out.trans (hbA.mono HB.out.size))
        have NW := Lib.hid (isNew_any bm k _ nm w wA hse HT.out HBA.out (by rw [HBM.out]; exact Nat.le_refl _) (by omega) (HSk.out.kept hbA))
        clear hcell hse htn hx hbA
        go_wp2_with fail
        rw [← hwA, ← hgE]
        clear hwA hgE
        refine NW.out.mono ?_; rintro e w4 ⟨r, rfl, hr, hS4, hC4⟩
        have HR := Lib.hid hr
        have HS4 := Lib.hid hS4
        have HB4 := Lib.hid (below_one HBA.out (by rw [HBM.out]; exact Nat.le_refl _) hC4)
        have HE4 : Hid (Blk w4 gE #[.string nm, .int .i64 x1, .int .i64 x2] 69) := by
          have h1 := HE.out
          have h2 := HE.out.lt
          have h3 := HEB.out
          unfold Blk at h1
          unfold Hid Blk
          rw [hC4.block gE h2 h3]; exact h1
        have e1 := HE4.out.cell 1
        have e2 := HE4.out.cell 2
        simp at e1 e2
        have HNO : Hid (∀ (h : ¬ (r = true ∧ inR x1 0 1048576 = true ∧ inR x2 1 1048576 = true)), ¬ ClassesOk l) := fun h hp => by
          have hb := hp.2.2.back hkl hkl
          rw [← HX.out] at hb
          unfold clOk at hb
          simp only [Bool.and_eq_true] at hb
          exact h ⟨HR.out.2 ⟨hb.2, hb.1.1.1⟩, hb.1.1.2, hb.1.2⟩
        have HYES : Hid (r = true → inR x1 0 1048576 = true → inR x2 1 1048576 = true → RowOk (·.1) clOk l (k + 1)) := fun h1 h2 h3 => by
          refine HK.out.step hkl ?_ ?_
          · rw [← HX.out]; unfold clOk; rw [(HR.out.1 h1).2, h2, h3]; rfl
          · rw [← HX.out]; exact (HR.out.1 h1).1
        have HSN : Hid (SetIs w4 bm (k + 1) ((l.take (k + 1)).map (·.1))) := by unfold Hid; rw [HTN.out]; exact HS4.out
        clear hr hS4 hC4 NW HS4 HR
        obtain ⟨y1, hy1⟩ : ∃ y, y = inR x1 0 1048576 := ⟨_, rfl⟩
        obtain ⟨y2, hy2⟩ : ∃ y, y = inR x2 1 1048576 := ⟨_, rfl⟩
        rw [← hy1, ← hy2] at HNO HYES
        have HY1 := Lib.hid hy1
        have HY2 := Lib.hid hy2
        clear hy1 hy2
        cases r with
        | false =>
          go_wp2_with fail
          go_ret
          exact ⟨false, rfl, ⟨fun h => (by cases h), fun h => absurd h (HNO.out (by simp))⟩, HB4.out⟩
        | true =>
          go_wp2_with fail
          refine (WI.out _ _ _ _).mono ?_; rintro e w1 ⟨rfl, hw⟩; replace hw := hw.symm; subst hw
          rw [← HY1.out]
          cases y1 with
          | false =>
            go_wp2_with fail
            go_ret
            exact ⟨false, rfl, ⟨fun h => (by cases h), fun h => absurd h (HNO.out (by simp))⟩, HB4.out⟩
          | true =>
            go_wp2_with fail
            refine (WI.out _ _ _ _).mono ?_; rintro e w1 ⟨rfl, hw⟩; replace hw := hw.symm; subst hw
            rw [← HY2.out]
            cases y2 with
            | false =>
              go_wp2_with fail
              go_ret
              exact ⟨false, rfl, ⟨fun h => (by cases h), fun h => absurd h (HNO.out (by simp))⟩, HB4.out⟩
            | true =>
              have HYY : Hid (RowOk (·.1) clOk l (k + 1)) := by unfold Hid; simpa using HYES.out
              go_wp2_with fail
              go_roundw
              case rel => exact ⟨k + 1, hlt, by go_num, HYY, HSN, HB4⟩
              case measure => simp [RowKit.intOf]; omega
      · have hd : decide (k < LN) = false := decide_eq_false hlt
        have hki : ¬ (k : Int) < (LN : Int) := by omega
        have hkl : k = l.length := by rw [← HLN.out]; omega
        have HFIN : Hid (ClassesOk l) := ⟨by rw [← HLN.out]; exact hl1, by rw [← HLN.out]; exact hl8, by rw [← hkl]; exact HK.out⟩
        clear hkl hlt hk
        go_wp2_with fail
        go_ret
        exact ⟨true, rfl, ⟨fun _ => HFIN.out, fun _ => rfl⟩, HB.out⟩
end Go.Proofs.YtbnlmeegepgioaaDoor
