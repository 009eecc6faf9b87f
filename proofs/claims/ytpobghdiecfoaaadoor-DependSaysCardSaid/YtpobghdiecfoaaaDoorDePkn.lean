/-
  depend.kindOf.
  depend.parseNeed.
-/
import Derived.Test.YtpobghdiecfoaaaDoorDePQS
import Derived.Test.YtpobghdiecfoaaaDoorSRw
import Derived.Test.YtpobghdiecfoaaaDoorStr
import Derived.Handy
import Derived.Test.YtpobghdiecfoaaaDoorDeJJ
import Derived.Test.YtpobghdiecfoaaaDoorSpN
import Derived.Test.YtpobghdiecfoaaaDoorDgA
import Derived.Test.YtpobghdiecfoaaaDoorChg
import Derived.Deep.RegionLaw
import Derived.Deep.CutBlock
import Derived.Deep.DeepCutAuto
import Derived.Deep.AppendLies
namespace Go.Proofs.YtpobghdiecfoaaaDoor
set_option linter.unusedVariables false

section
open Go Go.RowKit Go.Lib
theorem strB_toList (t : Bs) : (strB t).toList = t := by rw [ByteArray.toList_eq]; exact strB_list t
theorem kindOf_any (t : Bs) (w : World) : Calls Tryd.prog 55 #[.string (strB t)] w fun e w' => e = .returned (.int .i64 (kindW t)) ∧ w' = w := by
  obtain ⟨K, hK⟩ : ∃ k, k = kindW t := ⟨_, rfl⟩
  have HK := Lib.hid hK
  rw [← hK]
  clear hK
  go_enter Tryd.func55, Tryd.ntmps55
  go_wp2_with fail
  all_goals
    go_returns
    refine ⟨?_, rfl⟩
    rw [HK.out]
    simp only [strB_toList, beq_iff_eq, beq_eq_false_iff_ne, ne_eq] at *
    simp [kindW, kindT, *]
end

section
open Go Go.RowKit Go.Lib
theorem cutS_any (s : Bs) (c : UInt8) (m : Int) (w : World) (hs : s.length < 4294967281) (hm : w.cell? ⟨1, 0, none⟩ = some (.int .i64 m)) :
    Calls Tryd.prog 34 #[.string (strB s), .string ⟨#[c]⟩] w fun e w' => e = .returned (.tuple #[.string (strB (cutV c s).1), .string (strB (cutV c s).2.1), .bool (cutV c s).2.2]) ∧ Below w.heap.size w w' := by
  have h := cut_any (strB s) c m w (by rw [strB_size]; exact hs) hm
  rw [strB_list] at h
  exact h
theorem plainS_any (s : Bs) (most : Nat) (w : World) (hs : s.length ≤ 9223372036854775807) (h18 : most ≤ 18) :
    Calls Tryd.prog 56 #[.string (strB s), .int .i64 most] w fun e w' => e = .returned (numR (plainG most s)) ∧ Below w.heap.size w w' := by
  have h := plain_any (strB s) most w (by rw [strB_size]; exact hs) h18
  rw [strB_list] at h
  exact h
/-- Is it no need, by its word alone? -/
def badW (K : Int) (m : Bool) : Bool := (K == 0) || (m == (K == 5))
theorem needA_bad {t : Bs} (h : badW (kindW (cutV 58 t).1) (cutV 58 t).2.2 = true) : needA t = none := by
  unfold badW at h
  unfold cutV at h
  unfold needA
  cases hc : cut1 58 t with
  | none =>
    rw [hc] at h
    dsimp only at h ⊢
    rw [if_neg]
    intro e
    rw [e] at h
    cases h
  | some p =>
    obtain ⟨a, r⟩ := p
    rw [hc] at h
    dsimp only at h ⊢
    rw [if_pos]
    simpa using h
theorem needA_good {t : Bs} (h : badW (kindW (cutV 58 t).1) (cutV 58 t).2.2 = false) :
    needA t = if (cutV 58 t).2.2 = true then (jobsA (cutV 58 t).2.1).map fun l => (kindW (cutV 58 t).1, l) else some (kindW (cutV 58 t).1, []) := by
  unfold badW at h
  unfold cutV at h
  unfold needA cutV
  cases hc : cut1 58 t with
  | none =>
    rw [hc] at h
    dsimp only at h ⊢
    simp at h
    rw [if_pos h.2, h.2]; rfl
  | some p =>
    obtain ⟨a, r⟩ := p
    rw [hc] at h
    dsimp only at h ⊢
    simp at h
    rw [if_neg (by omega)]; rfl
theorem jobsA_cut (s : Bs) : jobsA s = match numJ (cutV 58 s).1 with | none => none | some n => if (cutV 58 s).2.2 = true then (jobsA (cutV 58 s).2.1).map fun l => n :: l else some [n] := by
  unfold cutV
  cases hc : cut1 58 s with
  | none =>
    rw [jobsA_none hc]
    dsimp only
    cases numJ s <;> rfl
  | some p =>
    obtain ⟨a, r⟩ := p
    rw [jobsA_some hc]
    dsimp only
    cases numJ a <;> rfl
/-- What is still to be read, behind jobs that were. -/
def JRest (r0 : Bs) (m : Bool) (r : Bs) (js : List Nat) : Prop := jobsA r0 = if m = true then (jobsA r).map fun l => js ++ l else some js
theorem JRest.next {r0 r : Bs} {js : List Nat} (h : JRest r0 true r js) {n : Nat} (hn : numJ (cutV 58 r).1 = some n) : JRest r0 (cutV 58 r).2.2 (cutV 58 r).2.1 (js ++ [n]) := by
  unfold JRest at *
  rw [h, if_pos rfl, jobsA_cut r, hn]
  dsimp only
  cases (cutV 58 r).2.2
  · rfl
  · rw [if_pos rfl, if_pos rfl, Option.map_map]
    congr 1
    funext l
    simp
theorem JRest.bad {r0 r : Bs} {js : List Nat} (h : JRest r0 true r js) (hn : numJ (cutV 58 r).1 = none) : jobsA r0 = none := by
  unfold JRest at h
  rw [h, if_pos rfl, jobsA_cut r, hn]; rfl
/-- How many steps are left at most. -/
def leftJ (m : Bool) (r : Bs) : Nat := if m = true then r.length + 1 else 0
theorem leftJ_next (r : Bs) : leftJ (cutV 58 r).2.2 (cutV 58 r).2.1 + 1 ≤ leftJ true r := by
  unfold cutV
  cases hc : cut1 58 r with
  | none => simp [leftJ]
  | some p =>
    obtain ⟨a, b⟩ := p
    have := cut1_short hc
    simp [leftJ]; omega
theorem numJ_plain (s : Bs) : numJ s = match plainG 10 s with | some n => if n ≤ 4294967295 then some n else none | none => none := rfl
/-- A need that was read: its jobs' row is the reader's own. -/
def NeedTo (o : Option Nd) (base : Nat) (e : Ending) (w : World) : Prop := match o with
  | none => e = .returned (.tuple #[.agg #[.int .i64 0, .slice none 0 0], .bool false])
  | some n => ∃ pv, e = .returned (.tuple #[.agg #[.int .i64 n.1, pv], .bool true]) ∧ UOwn w base pv n.2
def meaJ (rv mv : Value) : Nat := match mv with | .bool true => (match rv with | .string s => s.size + 1 | _ => 0) | _ => 0
theorem blk_grown8 {w w' : World} {b : Nat} {cs : Array Value} {t : TypeId} {k : Option Nat} (h : Blk w b cs t) (hg : w.grownBy w' k) (hne : some b ≠ k) : Blk w' b cs t := by
  have hl := h.lt
  unfold Blk at *
  rw [hg.block b hl hne]; exact h
theorem end2 {w w1 : World} {n g : Nat} {x0 y0 : Value} {t : TypeId} (h : Blk w1 g #[x0, y0] t) (hB : Below n w w1) (hn : n ≤ w1.heap.size) (hg : n ≤ g) (x1 y1 : Value) :
    ∃ W, (w1.setCell ⟨g, 0, none⟩ x1).setCell ⟨g, 1, none⟩ y1 = W ∧ W.cell? ⟨g, 0, none⟩ = some x1 ∧ W.cell? ⟨g, 1, none⟩ = some y1 ∧ Blk W g #[x1, y1] t ∧ Below n w W ∧ Chg (One g) w1 W := by
  have hk : Blk ((w1.setCell ⟨g, 0, none⟩ x1).setCell ⟨g, 1, none⟩ y1) g #[x1, y1] t := (h.set 0 x1).set 1 y1
  have hc : Chg (One g) w1 ((w1.setCell ⟨g, 0, none⟩ x1).setCell ⟨g, 1, none⟩ y1) := (Chg.setCell (own := One g) 0 x1 rfl).trans (Chg.setCell (own := One g) 1 y1 rfl)
  refine ⟨_, rfl, ?_, ?_, hk, ?_, hc⟩
  · have := hk.cell 0; simpa using this
  · have := hk.cell 1; simpa using this
  · exact hB.trans (hc.to_below (B := n) hn fun k hk e => by have : k = g := e; omega)
set_option maxRecDepth 100000 in
set_option maxHeartbeats 4000000 in
theorem parseNeed_any (t : Bs) (m : Int) (w : World) (hs : t.length ≤ 1000000) (hm : w.cell? ⟨1, 0, none⟩ = some (.int .i64 m)) :
    Calls Tryd.prog 35 #[.string (strB t)] w fun e w' => NeedTo (needA t) w.heap.size e w' ∧ Below w.heap.size w w' := by
  have HM : Hid (∀ w', Below w.heap.size w w' → w'.cell? ⟨1, 0, none⟩ = some (.int .i64 m)) := fun w' hb => cell_next hb hm
  obtain ⟨G2, hG2⟩ : ∃ g, g = w.heap.size := ⟨_, rfl⟩
  have HG2 := Lib.hid hG2
  obtain ⟨X, hX⟩ : ∃ X, X = w.alloc (.cells #[.int .i64 0, .slice none 0 0] 46) := ⟨_, rfl⟩
  have HXX := Lib.hid hX
  have HBX : Hid (Below w.heap.size w X) := by unfold Hid; rw [hX]; exact (Below.refl _ _).alloc (Nat.le_refl _) _
  have HBK : Hid (Blk X G2 #[.int .i64 0, .slice none 0 0] 46) := by unfold Hid; rw [hX, hG2]; exact Blk.new w _ _
  have CU := Lib.hid (cutS_any t 58 m X (by omega) (HM.out X HBX.out))
  have HBAD := Lib.hid (@needA_bad t)
  have HGOOD := Lib.hid (@needA_good t)
  have hcl := cutV_len 58 t
  obtain ⟨a, ha⟩ : ∃ a, a = (cutV 58 t).1 := ⟨_, rfl⟩
  obtain ⟨r, hr⟩ : ∃ a, a = (cutV 58 t).2.1 := ⟨_, rfl⟩
  obtain ⟨mo, hmo⟩ : ∃ a, a = (cutV 58 t).2.2 := ⟨_, rfl⟩
  rw [← ha, ← hr, ← hmo] at CU HGOOD
  rw [← ha, ← hmo] at HBAD
  rw [← ha, ← hr] at hcl
  have hrl : r.length ≤ 1000000 := by omega
  have HKO : Hid (∀ w', Calls Tryd.prog 55 #[.string (strB a)] w' fun e w2 => e = .returned (.int .i64 (kindW a)) ∧ w2 = w') := fun w' => kindOf_any a w'
  have hkl := kindW_le a
  obtain ⟨K, hK⟩ : ∃ k, k = kindW a := ⟨_, rfl⟩
  rw [← hK] at HBAD HGOOD HKO hkl
  obtain ⟨O, hO⟩ : ∃ o, o = needA t := ⟨_, rfl⟩
  rw [← hO] at HBAD HGOOD ⊢
  obtain ⟨SA, hSA⟩ : ∃ o, o = strB a := ⟨_, rfl⟩
  obtain ⟨SR, hSR⟩ : ∃ o, o = strB r := ⟨_, rfl⟩
  obtain ⟨ST, hST⟩ : ∃ o, o = strB t := ⟨_, rfl⟩
  rw [← hSA] at CU HKO
  rw [← hSR] at CU
  rw [← hST] at CU ⊢
  have HSR := Lib.hid hSR
  clear hm hX hG2 ha hr hmo hK hO hSA hSR hST hcl hs
  go_enter Tryd.func35, Tryd.ntmps35
  go_upto_region 1 with fail
  rw [← HG2.out, ← HXX.out]
  go_wp2_with fail
  refine CU.out.mono ?_; rintro e w2 ⟨rfl, b2⟩
  have HB2 := Lib.hid (below_next b2 HBX.out)
  have HK2 := Lib.hid (HBK.out.kept b2)
  clear b2 CU HBK
  go_wp2_with fail
  refine (HKO.out _).mono ?_; rintro e w3 ⟨rfl, hw3⟩
  subst hw3
  clear HKO
  cases hbad : badW K mo with
  | true =>
    have HN : Hid (O = none) := HBAD.out hbad
    clear HBAD HGOOD
    unfold badW at hbad
    have hk2 := HK2.out
    have g0 := hk2.cell 0
    have g1 := hk2.cell 1
    simp at g0 g1
    have f0 := hk2.free 0
    have f1 := hk2.free 1
    have hgw : w.heap.size ≤ G2 := by rw [HG2.out]; exact Nat.le_refl _
    obtain ⟨W6, e6, z0, z1, _, hend⟩ := end2 hk2 HB2.out HB2.out.size hgw (.int .i64 0) (.slice none 0 0)
    have E6 := Lib.hid e6
    have HEND := Lib.hid hend.1
    clear e6 hend hk2 hgw
    cases h0 : (K == 0) with
    | true =>
      clear hbad
      go_wp2_with fail
      rw [E6.out]
      refine bodyPost_ret (v := .tuple #[.agg #[.int .i64 0, .slice none 0 0], .bool false]) (by simp [results, Tryd.results35, go_sem, z0, z1]) rfl ⟨?_, HEND.out⟩
      rw [HN.out]; rfl
    | false =>
      rw [h0, Bool.false_or] at hbad
      cases mo with
      | true =>
        have h5 : (K == 5) = true := by simpa using hbad
        clear hbad
        go_wp2_with fail
        rw [E6.out]
        refine bodyPost_ret (v := .tuple #[.agg #[.int .i64 0, .slice none 0 0], .bool false]) (by simp [results, Tryd.results35, go_sem, z0, z1]) rfl ⟨?_, HEND.out⟩
        rw [HN.out]; rfl
      | false =>
        have h5 : (K == 5) = false := by simpa using hbad
        clear hbad
        go_wp2_with fail
        rw [E6.out]
        refine bodyPost_ret (v := .tuple #[.agg #[.int .i64 0, .slice none 0 0], .bool false]) (by simp [results, Tryd.results35, go_sem, z0, z1]) rfl ⟨?_, HEND.out⟩
        rw [HN.out]; rfl
  | false =>
    clear HBAD
    have HGD := Lib.hid (HGOOD.out hbad)
    clear HGOOD
    unfold badW at hbad
    have h0 : (K == 0) = false := by
      cases h : (K == 0) with
      | false => rfl
      | true => rw [h] at hbad; cases hbad
    rw [h0, Bool.false_or] at hbad
    go_upto_region 3 with fail
    go_cut [27] from 20 to 27 (fun bv wx => bv = .bool false ∧ Hid (w3 = wx))
    case first =>
      cases mo with
      | true =>
        have h5 : (K == 5) = false := by simpa using hbad
        clear hbad
        go_wp2_with fail
        go_meet
        exact ⟨rfl, rfl⟩
      | false =>
        have h5 : (K == 5) = true := by simpa using hbad
        clear hbad
        go_wp2_with fail
        go_meet
        exact ⟨rfl, rfl⟩
    case rest =>
    obtain ⟨rfl, hw⟩ := hcut
    replace hw := hw.out
    subst hw
    clear hbad h0
    obtain ⟨G8, hG8⟩ : ∃ g, g = w3.heap.size := ⟨_, rfl⟩
    obtain ⟨Y, hY⟩ : ∃ Y, Y = w3.alloc (.cells #[.int .i64 K, .slice none 0 0] 46) := ⟨_, rfl⟩
    have hbY : Below w3.heap.size w3 Y := by rw [hY]; exact (Below.refl _ _).alloc (Nat.le_refl _) _
    have HK8 : Hid (Blk Y G8 #[.int .i64 K, .slice none 0 0] 46) := by unfold Hid; rw [hY, hG8]; exact Blk.new _ _ _
    have HGG : Hid (w.heap.size ≤ G2 ∧ G2 < G8 ∧ G8 < Y.heap.size) := by
      refine ⟨Nat.le_of_eq HG2.out.symm, ?_, ?_⟩
      · rw [hG8]; exact HK2.out.lt
      · exact HK8.out.lt
    have HB8 := Lib.hid (below_next hbY HB2.out)
    have HK2Y := Lib.hid (HK2.out.kept hbY)
    have HG8 := Lib.hid hG8
    clear hG8 hbY HB2 HK2
    go_upto_region 6 with fail
    rw [← HG8.out, ← hY]
    clear hY
    obtain ⟨i0, hi0, hz0, hz1, hz2⟩ := info_parts Tryd.infoJob
    have HI := Lib.hid (And.intro hi0 (And.intro hz0 (And.intro hz1 hz2)))
    clear hi0 hz0 hz1 hz2
    obtain ⟨BJ, hBJ⟩ : ∃ g, g = Y.heap.size := ⟨_, rfl⟩
    have HBJ := Lib.hid hBJ
    have hJ : jobsA r = if true = true then (jobsA r).map fun l => [] ++ l else some [] := by simp
    go_loopw [5, 6] (fun rv mv wr => ∃ (r' : Bs) (mo' : Bool) (js : List Nat) (pv : Value), rv = .string (strB r') ∧ mv = .bool mo' ∧ r'.length ≤ 1000000 ∧ Hid (js.length + leftJ mo' r' ≤ 1000001) ∧ Hid (mo = true → JRest r mo' r' js) ∧ Hid (mo = false → js = [] ∧ mo' = false) ∧ Hid (Blk wr G8 #[.int .i64 K, pv] 46) ∧ Hid (Blk wr G2 #[.int .i64 0, .slice none 0 0] 46) ∧ Hid (UOwn wr BJ pv js) ∧ Hid (Below w.heap.size w wr) ∧ Hid (BJ ≤ wr.heap.size)) (fun rv mv _ => meaJ rv mv)
    case atStart => exact ⟨r, mo, [], .slice none 0 0, by rw [HSR.out], rfl, hrl, by unfold Hid leftJ; split <;> simp <;> omega, fun h => by subst h; exact hJ, fun h => ⟨rfl, h⟩, HK8.out, HK2Y.out, ⟨rfl, .inl ⟨rfl, rfl⟩⟩, HB8.out, Nat.le_of_eq hBJ⟩
    case round =>
      obtain ⟨r', mo', js, pv, rfl, rfl, hr', HLJ, HJR, HMF, HK8, HK2, HOJ, HB, HBJr⟩ := hrel
      cases mo' with
      | true =>
        have CU := Lib.hid (cutS_any r' 58 m wr (by omega) (HM.out wr HB.out))
        have hcl := cutV_len 58 r'
        have HLN := Lib.hid (leftJ_next r')
        have HMT : Hid (mo = true) := by
          cases hm : mo with
          | true => rfl
          | false => have := (HMF.out hm).2; cases this
        have HNX : Hid (∀ n, numJ (cutV 58 r').1 = some n → JRest r (cutV 58 r').2.2 (cutV 58 r').2.1 (js ++ [n])) := fun n hn => (HJR.out HMT.out).next hn
        have HBD : Hid (numJ (cutV 58 r').1 = none → O = none) := fun hn => by
          have h1 := HGD.out
          rw [if_pos HMT.out, (HJR.out HMT.out).bad hn] at h1
          exact h1
        obtain ⟨a', ha⟩ : ∃ a, a = (cutV 58 r').1 := ⟨_, rfl⟩
        obtain ⟨r'', hr⟩ : ∃ a, a = (cutV 58 r').2.1 := ⟨_, rfl⟩
        obtain ⟨m'', hm⟩ : ∃ a, a = (cutV 58 r').2.2 := ⟨_, rfl⟩
        rw [← ha, ← hr, ← hm] at CU HNX
        rw [← ha] at HBD
        rw [← hr, ← hm] at HLN
        rw [← ha, ← hr] at hcl
        have PL : Hid (∀ w', Calls Tryd.prog 56 #[.string (strB a'), .int .i64 10] w' fun e w2 => e = .returned (numR (plainG 10 a')) ∧ Below w'.heap.size w' w2) := fun w' => plainS_any a' 10 w' (by omega) (by omega)
        have HNJ := Lib.hid (numJ_plain a')
        have hr2 : r''.length ≤ 1000000 := by omega
        obtain ⟨SA', hSA⟩ : ∃ o, o = strB a' := ⟨_, rfl⟩
        obtain ⟨SR', hSR2⟩ : ∃ o, o = strB r' := ⟨_, rfl⟩
        obtain ⟨SR'', hSR3⟩ : ∃ o, o = strB r'' := ⟨_, rfl⟩
        rw [← hSA] at PL CU
        rw [← hSR2] at CU
        rw [← hSR3] at CU
        rw [← hSR2]
        have HS2 := Lib.hid hSR2
        have HS3 := Lib.hid hSR3
        clear ha hr hm hcl HJR HMF hSA hSR2 hSR3
        obtain ⟨w9, hw9⟩ : ∃ x, x = wr := ⟨_, rfl⟩
        subst hw9
        go_wp2_with fail
        refine CU.out.mono ?_; rintro e w4 ⟨rfl, b4⟩
        have HB4 := Lib.hid b4
        clear b4 CU
        go_wp2_with fail
        refine (PL.out _).mono ?_; rintro e w5 ⟨rfl, b5⟩
        have HB5 := Lib.hid (below_next b5 HB4.out)
        clear b5 HB4 PL
        have HK8' := Lib.hid (HK8.out.kept HB5.out)
        have HK2' := Lib.hid (HK2.out.kept HB5.out)
        have HOJ' := Lib.hid (own_older HOJ.out HB5.out)
        have HBW := Lib.hid (below_next HB5.out HB.out)
        have HBJ' := Lib.hid (Nat.le_trans HBJr.out HB5.out.size)
        clear HK8 HK2 HOJ HB HB5 HBJr
        cases hpl : plainG 10 a' with
        | none =>
          have HN : Hid (O = none) := HBD.out (by rw [HNJ.out, hpl])
          clear HBD HNX HNJ hpl
          have hk2 := HK2'.out
          have g0 := hk2.cell 0
          have g1 := hk2.cell 1
          simp at g0 g1
          have f0 := hk2.free 0
          have f1 := hk2.free 1
          obtain ⟨W6, e6, z0, z1, _, hend⟩ := end2 hk2 HBW.out HBW.out.size HGG.out.1 (.int .i64 0) (.slice none 0 0)
          have E6 := Lib.hid e6
          have HEND := Lib.hid hend.1
          clear e6 hend hk2
          unfold numR
          go_wp2_with fail
          rw [E6.out]
          refine bodyPost_ret (v := .tuple #[.agg #[.int .i64 0, .slice none 0 0], .bool false]) (by simp [results, Tryd.results35, go_sem, z0, z1]) rfl ⟨?_, HEND.out⟩
          rw [HN.out]; rfl
        | some n =>
          by_cases hn : n ≤ 4294967295
          · have q1 : decide ((n : Int) > 4294967295) = false := decide_eq_false (by omega)
            have q2 : decide (4294967295 < n) = false := decide_eq_false (by omega)
            have HJ2 : Hid (JRest r m'' r'' (js ++ [n])) := HNX.out n (by rw [HNJ.out, hpl]; exact if_pos hn)
            clear HBD HNX HNJ hpl
            obtain ⟨ja, jc, rfl⟩ := own_slice HOJ'.out
            obtain ⟨LJ, hLJ⟩ : ∃ L, L = js.length := ⟨_, rfl⟩
            have HOJ2 : Hid (w5.ownsRow BJ 38 1 (.slice ja LJ jc) LJ (uL js)) := by unfold Hid; rw [hLJ]; exact HOJ'.out
            rw [← hLJ] at HK8'
            have hk8 := HK8'.out
            have k0 := hk8.cell 0
            have k1 := hk8.cell 1
            simp at k0 k1
            have hLb : LJ ≤ 1000001 := by have := HLJ.out; omega
            have HLL := Lib.hid hLJ
            have hBJ5 := HBJ'.out
            have HNO : Hid (∀ g, g = G8 ∨ g = G2 → some g ≠ (Value.slice ja LJ jc).ownBlock) := fun g hg e => by
              have := (HOJ2.out.lt g e.symm).1
              have := HGG.out
              have := HBJ.out
              omega
            have HNX8 : Hid (∀ w8 o, (w5.alloc o).grownBy w8 (Value.slice ja LJ jc).ownBlock → Blk w8 G8 #[.int .i64 K, .slice ja LJ jc] 46 ∧ Blk w8 G2 #[.int .i64 0, .slice none 0 0] 46 ∧ Below w.heap.size w w8 ∧ BJ ≤ w8.heap.size) := fun w8 o hg =>
              ⟨blk_grown8 (HK8'.out.old o) hg (HNO.out _ (.inl rfl)), blk_grown8 (HK2'.out.old o) hg (HNO.out _ (.inr rfl)), (HBW.out.alloc HBW.out.size o).grown hg (by have := HBW.out.size; simp; omega) (fun q hq => by have := (HOJ2.out.lt q hq).1; have := HBJ.out; have := HGG.out; omega), Nat.le_trans (Nat.le_trans hBJ5 (by simp)) hg.size⟩
            obtain ⟨hi0, hz0, hz1, hz2⟩ := HI.out
            clear hk8 hLJ HOJ' HNO
            unfold numR
            go_wp2_with (first | (at_builtin; refine wpList_app rfl _ _ 34 rfl BJ 38 i0 _ 1 4 Tryd.underlying34 hi0 hz0 hz1 hz2 rfl (by decide) _ LJ _ rfl (HOJ2.out.alloc _) _ 1 [.int .u32 (n : Nat)] rfl ⟨rfl, .inr ⟨_, _, rfl, news_alloc w5 [.int .u32 (n : Nat)] _⟩⟩ (uL_one8 n) (by unfold maxLen; omega) (by omega) (by simp; omega) ?_; intro v8 w8 hown8 hgrow8 hat8; obtain ⟨hk8, hk2, hb8, hj8⟩ := HNX8.out w8 _ hgrow8; have y1 := hk8.cell 1; have f1 := hk8.free 1; simp at y1; have HK9 := Lib.hid hk8; have HK29 := Lib.hid hk2; have HB9 := Lib.hid hb8; have HJ9 := Lib.hid hj8; have HO9 := Lib.hid hown8; obtain ⟨a8, c8, rfl⟩ := own_slice hown8; clear hk8 hk2 hb8 hj8 hown8 hgrow8 hat8))
            have HKN : Hid (Blk (w8.setCell ⟨G8, 1, none⟩ (.slice a8 (LJ + 1) c8)) G8 #[.int .i64 K, .slice a8 (LJ + 1) c8] 46) := HK9.out.set 1 _
            have HK2N : Hid (Blk (w8.setCell ⟨G8, 1, none⟩ (.slice a8 (LJ + 1) c8)) G2 #[.int .i64 0, .slice none 0 0] 46) := HK29.out.other (by show G2 ≠ G8; have := HGG.out; omega) _
            have hcs : Chg (One G8) w8 (w8.setCell ⟨G8, 1, none⟩ (.slice a8 (LJ + 1) c8)) := Chg.setCell (own := One G8) 1 _ rfl
            have HBN : Hid (Below w.heap.size w (w8.setCell ⟨G8, 1, none⟩ (.slice a8 (LJ + 1) c8))) := HB9.out.trans (hcs.to_below HB9.out.size fun k hk e => by have : k = G8 := e; have := HGG.out; omega)
            have HJN : Hid (BJ ≤ (w8.setCell ⟨G8, 1, none⟩ (.slice a8 (LJ + 1) c8)).heap.size) := Nat.le_trans HJ9.out hcs.size
            have HON : Hid (UOwn (w8.setCell ⟨G8, 1, none⟩ (.slice a8 (LJ + 1) c8)) BJ (.slice a8 (LJ + 1) c8) (js ++ [n])) := by
              unfold Hid UOwn
              rw [List.length_append, ← HLL.out, uL_app]
              refine own_one HO9.out hcs ?_
              intro e
              have := (HO9.out.lt _ e).1
              have := HGG.out
              have := HBJ.out
              omega
            clear hcs
            go_wp2_with fail
            go_roundw
            case rel =>
              refine ⟨r'', m'', js ++ [n], _, by rw [HS3.out], rfl, hr2, ?_, fun _ => HJ2.out, (fun h => absurd (HMT.out.symm.trans h) (by decide)), HKN.out, HK2N.out, HON.out, HBN.out, HJN.out⟩
              have h1 := HLN.out
              have h2 := HLJ.out
              unfold Hid
              rw [List.length_append, List.length_singleton]
              omega
            case measure =>
              have h1 := HLN.out
              have h2 : SR'.size = r'.length := by rw [HS2.out, strB_size]
              have h3 : SR''.size = r''.length := by rw [HS3.out, strB_size]
              unfold leftJ at h1
              cases m''
              · simp [meaJ]
              · simp [meaJ] at h1 ⊢; omega
          · have q1 : decide ((n : Int) > 4294967295) = true := decide_eq_true (by omega)
            have q2 : decide (4294967295 < n) = true := decide_eq_true (by omega)
            have HN : Hid (O = none) := HBD.out (by rw [HNJ.out, hpl]; exact if_neg hn)
            clear HBD HNX HNJ hpl
            have hk2 := HK2'.out
            have g0 := hk2.cell 0
            have g1 := hk2.cell 1
            simp at g0 g1
            have f0 := hk2.free 0
            have f1 := hk2.free 1
            obtain ⟨W6, e6, z0, z1, _, hend⟩ := end2 hk2 HBW.out HBW.out.size HGG.out.1 (.int .i64 0) (.slice none 0 0)
            have E6 := Lib.hid e6
            have HEND := Lib.hid hend.1
            clear e6 hend hk2
            unfold numR
            go_wp2_with fail
            rw [E6.out]
            refine bodyPost_ret (v := .tuple #[.agg #[.int .i64 0, .slice none 0 0], .bool false]) (by simp [results, Tryd.results35, go_sem, z0, z1]) rfl ⟨?_, HEND.out⟩
            rw [HN.out]; rfl
      | false =>
        have HOS : Hid (O = some (K, js)) := by
          have h1 := HGD.out
          cases hm : mo with
          | true =>
            have h2 := HJR.out hm
            unfold JRest at h2
            rw [if_neg (by decide)] at h2
            rw [if_pos hm, h2] at h1
            exact h1
          | false =>
            rw [if_neg (by rw [hm]; decide)] at h1
            rw [(HMF.out hm).1]
            exact h1
        clear HJR HMF HLJ
        obtain ⟨pa, pc, rfl⟩ := own_slice HOJ.out
        obtain ⟨LJ, hLJ⟩ : ∃ L, L = js.length := ⟨_, rfl⟩
        rw [← hLJ] at HK8 HOJ
        clear hLJ
        have hk2 := HK2.out
        have g0 := hk2.cell 0
        have g1 := hk2.cell 1
        simp at g0 g1
        have f0 := hk2.free 0
        have f1 := hk2.free 1
        have k0 := HK8.out.cell 0
        have k1 := HK8.out.cell 1
        simp at k0 k1
        obtain ⟨W6, e6, z0, z1, _, hend⟩ := end2 hk2 HB.out HB.out.size HGG.out.1 (.int .i64 K) (.slice pa LJ pc)
        have HO6 : Hid (UOwn W6 w.heap.size (.slice pa LJ pc) js) := by
          refine UOwn.lower (own_one HOJ.out hend.2 ?_) (by have := HBJ.out; have := HGG.out; omega)
          intro e
          have := (HOJ.out.lt _ e).1
          have := HBJ.out
          have := HGG.out
          omega
        have E6 := Lib.hid e6
        have HEND := Lib.hid hend.1
        clear e6 hend hk2
        go_wp2_with fail
        rw [E6.out]
        refine bodyPost_ret (v := .tuple #[.agg #[.int .i64 K, .slice pa LJ pc], .bool true]) (by simp [results, Tryd.results35, go_sem, z0, z1]) rfl ⟨?_, HEND.out⟩
        rw [HOS.out]
        exact ⟨_, rfl, HO6.out⟩
end

end Go.Proofs.YtpobghdiecfoaaaDoor
