/-
  gangerref08.next, gangerref08.number: at any text.
  gangerref08.Parse: at any text.
-/
import Derived.Test.YtpobghdiecfoaaaDoorDePkn
import Derived.Test.YtpobghdiecfoaaaDoorClkA
import Derived.Test.YtpobghdiecfoaaaDoorDePp
import Derived.Test.YtpobghdiecfoaaaDoorDeRp
import Derived.Deep.CutBlock
import Derived.Deep.DeepCutAuto
namespace Go.Proofs.YtpobghdiecfoaaaDoor
set_option linter.unusedVariables false

section
open Go Go.RowKit Go.Lib
/-- Where the next sign stands. -/
def endB (t : Bs) (at_ : Nat) : Nat := at_ + (nextB (t.drop at_)).1.length
theorem nextB_app (s : Bs) : (nextB s).1 ++ (nextB s).2 = s := by unfold nextB; exact List.takeWhile_append_dropWhile
theorem endB_drop (t : Bs) (a : Nat) : (nextB (t.drop a)).2 = t.drop (endB t a) := by
  unfold endB
  rw [← List.drop_drop]
  generalize t.drop a = x
  have h := nextB_app x
  conv => rhs; arg 2; rw [← h]
  rw [List.drop_left]
theorem endB_le {t : Bs} {a : Nat} (h : a ≤ t.length) : a ≤ endB t a ∧ endB t a ≤ t.length := by
  have h2 := congrArg List.length (nextB_app (t.drop a))
  rw [List.length_append, List.length_drop] at h2
  unfold endB
  omega
theorem nextB_of {t : Bs} {a i : Nat} (ha : a ≤ i) (hi : i ≤ t.length) (hno : ∀ j (h : j < t.length), a ≤ j → j < i → isS t[j] = false) (hst : ∀ h : i < t.length, isS t[i] = true) : (nextB (t.drop a)).1 = (t.drop a).take (i - a) ∧ endB t a = i := by
  have h1 : t.drop a = (t.drop a).take (i - a) ++ t.drop i := by
    conv => lhs; rw [← List.take_append_drop (i - a) (t.drop a)]
    rw [List.drop_drop, show a + (i - a) = i by omega]
  have h2 : nextB (t.drop a) = ((t.drop a).take (i - a), t.drop i) := by
    conv => lhs; rw [h1]
    refine next_app (fun c hc => ?_) ?_
    · obtain ⟨q, hq, rfl⟩ := List.getElem_of_mem hc
      rw [List.length_take, List.length_drop] at hq
      rw [List.getElem_take, List.getElem_drop]
      exact hno (a + q) (by omega) (by omega) (by omega)
    · by_cases e : i < t.length
      · exact .inr ⟨t[i], t.drop (i + 1), List.drop_eq_getElem_cons e, hst e⟩
      · exact .inl (List.drop_eq_nil_of_le (by omega))
  refine ⟨by rw [h2], ?_⟩
  unfold endB
  rw [h2]
  dsimp only
  rw [List.length_take, List.length_drop]
  omega
theorem strB_at {t : Bs} {i : Nat} (h : i < t.length) : (strB t)[i]'(by rw [strB_size]; exact h) = t[i] := by
  show (t.toArray)[i]'(by simpa using h) = t[i]
  simp
set_option maxRecDepth 100000 in
set_option maxHeartbeats 2000000 in
theorem next_any (t : Bs) (a : Nat) (w : World) (ha : a ≤ t.length) (hl : t.length ≤ 1000000) :
    Calls Tryd.prog 36 #[.string (strB t), .int .i64 a] w fun e w' => e = .returned (.tuple #[.string (strB (nextB (t.drop a)).1), .int .i64 (endB t a)]) ∧ w' = w := by
  obtain ⟨s, hs⟩ : ∃ s, s = strB t := ⟨_, rfl⟩
  have hss : s.size = t.length := by rw [hs, strB_size]
  have HAT : Hid (∀ i (h : i < s.size) (h2 : i < t.length), s[i]'h = t[i]'h2) := fun i h h2 => by subst hs; exact strB_at h2
  have HEND : Hid (∀ i, a ≤ i → i ≤ t.length → (∀ j (h : j < t.length), a ≤ j → j < i → isS t[j] = false) → (∀ h : i < t.length, isS t[i] = true) → s.extract a i = strB (nextB (t.drop a)).1 ∧ endB t a = i) := fun i h1 h2 h3 h4 => by
    obtain ⟨e1, e2⟩ := nextB_of h1 h2 h3 h4
    refine ⟨?_, e2⟩
    rw [e1, hs]
    apply ByteArray.ext; apply Array.toList_inj.1
    rw [Lib.extract_data, strB_list, strB_list]
  obtain ⟨R, hR⟩ : ∃ r, r = strB (nextB (t.drop a)).1 := ⟨_, rfl⟩
  obtain ⟨E, hE⟩ : ∃ r, r = endB t a := ⟨_, rfl⟩
  rw [← hR, ← hE] at HEND
  rw [← hs, ← hR, ← hE]
  rw [← hss] at ha hl
  have HSS := Lib.hid hss
  clear hs hR hE hss
  go_enter Tryd.func36, Tryd.ntmps36
  go_wp2_with fail
  go_loopw [6] (fun iv wr => ∃ i : Nat, iv = .int .i64 (i : Nat) ∧ a ≤ i ∧ i ≤ s.size ∧ wr = w ∧ Hid (∀ j (h : j < t.length), a ≤ j → j < i → isS t[j] = false)) (fun iv _ => s.size - (RowKit.intOf iv).toNat)
  case atStart => exact ⟨a, rfl, Nat.le_refl _, ha, rfl, fun j _ h1 h2 => by omega⟩
  case round =>
    obtain ⟨i, rfl, hai, his, rfl, HNO⟩ := hrel
    have hfin : Hid ((∀ h : i < t.length, isS t[i] = true) → s.extract a i = R ∧ E = i) := fun h => HEND.out i hai (by rw [← HSS.out]; exact his) HNO.out h
    by_cases hlt : i < s.size
    · have d1 : decide (i < s.size) = true := decide_eq_true hlt
      have d2 : decide ((i : Int) < (s.size : Int)) = true := decide_eq_true (by omega)
      have hit : i < t.length := by rw [← HSS.out]; exact hlt
      have HC := Lib.hid (HAT.out i hlt hit)
      have HSG : Hid (isS t[i] = ((s[i]'hlt) == 44 || (s[i]'hlt) == 63 || (s[i]'hlt) == 58)) := by unfold Hid; rw [← HC.out]; rfl
      have HU : Hid (∀ k : UInt8, ((s[i]'hlt).toNat : Int) = (k.toNat : Int) → (s[i]'hlt) = k) := fun k h => UInt8.toNat_inj.1 (by omega)
      have hii : (i : Int) < (s.size : Int) := by omega
      by_cases k1 : ((s[i]'hlt).toNat : Int) = 44
      · obtain ⟨h1, h2⟩ := hfin.out (fun h => by rw [HSG.out, HU.out 44 k1]; rfl)
        have H1 := Lib.hid h1
        have H2 := Lib.hid h2
        clear h1 h2 hfin HSG
        go_wp2_with fail
        go_ret2
        exact ⟨by rw [← H1.out, H2.out]; rfl, rfl⟩
      · by_cases k2 : ((s[i]'hlt).toNat : Int) = 63
        · obtain ⟨h1, h2⟩ := hfin.out (fun h => by rw [HSG.out, HU.out 63 k2]; rfl)
          have H1 := Lib.hid h1
          have H2 := Lib.hid h2
          clear h1 h2 hfin HSG
          go_wp2_with fail
          go_ret2
          exact ⟨by rw [← H1.out, H2.out]; rfl, rfl⟩
        · by_cases k3 : ((s[i]'hlt).toNat : Int) = 58
          · obtain ⟨h1, h2⟩ := hfin.out (fun h => by rw [HSG.out, HU.out 58 k3]; rfl)
            have H1 := Lib.hid h1
            have H2 := Lib.hid h2
            have q1 : (((s[i]'hlt).toNat : Int) != 44) = true := by simp; omega
            have q2 : (((s[i]'hlt).toNat : Int) != 63) = true := by simp; omega
            have q3 : (((s[i]'hlt).toNat : Int) != 58) = false := by simp; omega
            clear h1 h2 hfin HSG k1 k2 k3
            go_wp2_with fail
            go_ret2
            exact ⟨by rw [← H1.out, H2.out]; rfl, rfl⟩
          · have q1 : (((s[i]'hlt).toNat : Int) != 44) = true := by simp; omega
            have q2 : (((s[i]'hlt).toNat : Int) != 63) = true := by simp; omega
            have q3 : (((s[i]'hlt).toNat : Int) != 58) = true := by simp; omega
            have HN2 : Hid (∀ j (h : j < t.length), a ≤ j → j < i + 1 → isS t[j] = false) := fun j h h1 h2 => by
              by_cases e : j = i
              · subst e
                rw [HSG.out]
                simp only [Bool.or_eq_false_iff, beq_eq_false_iff_ne, ne_eq]
                exact ⟨⟨fun e => k1 (by rw [e]; rfl), fun e => k2 (by rw [e]; rfl)⟩, fun e => k3 (by rw [e]; rfl)⟩
              · exact HNO.out j h h1 (by omega)
            clear hfin HSG HNO k1 k2 k3
            go_wp2_with fail
            go_roundw
            case rel => exact ⟨i + 1, by go_num, by omega, hlt, trivial, HN2.out⟩
            case measure => simp [RowKit.intOf]; omega
    · have d1 : decide (i < s.size) = false := decide_eq_false hlt
      have d2 : decide ((i : Int) < (s.size : Int)) = false := decide_eq_false (by omega)
      obtain ⟨h1, h2⟩ := hfin.out (fun h => by have := HSS.out; omega)
      have H1 := Lib.hid h1
      have H2 := Lib.hid h2
      clear h1 h2 hfin
      go_wp2_with fail
      go_ret2
      exact ⟨by rw [← H1.out, H2.out]; rfl, rfl⟩
theorem lead_iff {s : ByteArray} (h : 1 < s.size) : leadB s.data.toList = decide ((s[0]'(by omega)).toNat = 48) := by
  have hlen : s.data.toList.length = s.size := Array.length_toList
  have e0 : s.data.toList = (s[0]'(by omega)) :: s.data.toList.drop 1 := by
    cases h : s.data.toList with
    | nil => rw [h] at hlen; simp at hlen; omega
    | cons x r =>
      have := at_list (s := s) (pos := 0) (by omega)
      rw [h] at this
      simp at this
      rw [this]; rfl
  rw [e0]
  have hd : (s.data.toList.drop 1) ≠ [] := by intro e; have := congrArg List.length e; simp at this; omega
  obtain ⟨y, r, hy⟩ := List.exists_cons_of_ne_nil hd
  rw [hy]
  unfold leadB
  split
  · rename_i h; simp only [List.cons.injEq] at h; rw [h.1]; rfl
  · rename_i h
    rw [eq_comm, decide_eq_false_iff_not]
    intro q
    exact h y r (by rw [show s[0] = 48 from UInt8.toNat_inj.1 q])
theorem lead_short {s : ByteArray} (h : ¬ 1 < s.size) : leadB s.data.toList = false := by
  have hlen : s.data.toList.length = s.size := Array.length_toList
  unfold leadB
  split
  · rename_i h; rw [h] at hlen; simp at hlen; omega
  · rfl
theorem numJ_no {s : Bs} (h : plainG 10 s = none) : numJ s = none := by unfold numJ; rw [h]
/-- What gangerref08.number answers. -/
def NumTo (J : Option Nat) (e : Ending) : Prop := ∃ x : Nat, e = .returned (.tuple #[.int .u32 (x : Nat), .bool J.isSome]) ∧ ∀ n, J = some n → x = n
theorem NumTo.no {J : Option Nat} {e : Ending} (h : J = none) (he : e = .returned (.tuple #[.int .u32 0, .bool false])) : NumTo J e := ⟨0, by rw [h]; exact he, fun n hn => by rw [h] at hn; cases hn⟩
set_option maxRecDepth 100000 in
set_option maxHeartbeats 2000000 in
theorem number8_any (s : ByteArray) (w : World) (hs : s.size ≤ 1000000) :
    Calls Tryd.prog 37 #[.string s] w fun e w' => NumTo (numJ s.data.toList) e ∧ w' = w := by
  have hlen : s.data.toList.length = s.size := Array.length_toList
  by_cases h0 : s.size < 1
  · have HN : Hid (numJ s.data.toList = none) := numJ_no (by
      have hnil : s.data.toList = [] := List.eq_nil_of_length_eq_zero (by omega)
      unfold plainG; rw [hnil]; rfl)
    have hs1 : decide ((s.size : Int) < 1) = true := decide_eq_true (by omega)
    have hs3 : decide (s.size < 1) = true := decide_eq_true h0
    clear hlen h0
    go_enter Tryd.func37, Tryd.ntmps37
    go_wp2_with fail
    go_ret2
    exact ⟨NumTo.no HN.out rfl, rfl⟩
  · have hs1 : decide ((s.size : Int) < 1) = false := decide_eq_false (by omega)
    have hs3 : decide (s.size < 1) = false := decide_eq_false h0
    by_cases h10 : 10 < s.size
    · have HN : Hid (numJ s.data.toList = none) := numJ_no (by
        unfold plainG
        split
        · rfl
        · rw [if_neg (by rw [hlen]; omega)])
      have hs2 : decide ((s.size : Int) > 10) = true := decide_eq_true (by omega)
      have hs4 : decide (10 < s.size) = true := decide_eq_true h10
      clear hlen h0 h10
      go_enter Tryd.func37, Tryd.ntmps37
      go_wp2_with fail
      go_ret2
      exact ⟨NumTo.no HN.out rfl, rfl⟩
    · have hs2 : decide ((s.size : Int) > 10) = false := decide_eq_false (by omega)
      have hs4 : decide (10 < s.size) = false := decide_eq_false h10
      have h1 : 0 < s.size := by omega
      have hat0 : s.data.toList[0]? = some (s[0]'h1) := at_list h1
      by_cases hld : leadB s.data.toList = true
      · have HN : Hid (numJ s.data.toList = none) := numJ_no (by unfold plainG; rw [if_pos hld])
        have h2 : 1 < s.size := Classical.byContradiction fun h => by rw [lead_short h] at hld; cases hld
        have h48 : (s[0]'h1).toNat = 48 := by have := lead_iff h2; rw [hld] at this; exact of_decide_eq_true this.symm
        have hs5 : decide ((s.size : Int) > 1) = true := decide_eq_true (by omega)
        have hs6 : decide (1 < s.size) = true := decide_eq_true h2
        have k1 : ((s[0]'h1).toNat : Int) = 48 := by omega
        clear hlen h0 h10 hld hat0 h48
        go_enter Tryd.func37, Tryd.ntmps37
        go_wp2_with fail
        go_ret2
        exact ⟨NumTo.no HN.out rfl, rfl⟩
      · have hldf : leadB s.data.toList = false := by simpa using hld
        have HY : Hid (s.data.toList.all isDig = true → numJ s.data.toList = if valD s.data.toList ≤ 4294967295 then some (valD s.data.toList) else none) := fun ha => by
          unfold numJ plainG
          rw [if_neg hld, if_pos ⟨fun e => by rw [e] at hlen; simp at hlen; omega, by rw [hlen]; omega, ha⟩]
        have HNN : Hid (s.data.toList.all isDig = false → numJ s.data.toList = none) := fun ha => numJ_no (by
          unfold plainG
          rw [if_neg hld, if_neg (by rw [ha]; simp)])
        have HFR : Hid (∃ β : Bool, decide ((s.size : Int) > 1) = β ∧ decide (1 < s.size) = β ∧ (β = true → (((s[0]'h1).toNat : Int) == 48) = false)) := by
          refine ⟨decide (1 < s.size), ?_, rfl, fun hb => ?_⟩
          · apply decide_eq_decide.2; omega
          · have h2 := of_decide_eq_true hb
            have := lead_iff h2
            rw [hldf] at this
            have := of_decide_eq_false this.symm
            simp; omega
        obtain ⟨β, hs5, hs6, hb⟩ := HFR.out
        obtain ⟨J, hJ⟩ : ∃ j, j = numJ s.data.toList := ⟨_, rfl⟩
        rw [← hJ] at HY HNN ⊢
        have HS10 : Hid (s.size ≤ 10) := by unfold Hid; omega
        clear hJ h0 h10 hld hldf hat0
        go_enter Tryd.func37, Tryd.ntmps37
        go_upto_region 1 with fail
        go_cut [23] from 6 to 23 (fun bv wx => bv = .bool false ∧ Hid (w = wx))
        case first =>
          cases β with
          | true =>
            have k1 := hb rfl
            clear hb
            go_wp2_with fail
            go_meet
            exact ⟨rfl, rfl⟩
          | false =>
            clear hb
            go_wp2_with fail
            go_meet
            exact ⟨rfl, rfl⟩
        case rest =>
        obtain ⟨rfl, hw⟩ := hcut
        replace hw := hw.out
        subst hw
        clear hb hs5 hs6
        go_wp2_with fail
        go_loopw [4, 5] (fun nv iv wr => ∃ pos : Nat, pos ≤ s.size ∧ iv = .int .i64 pos ∧ nv = .int .i64 (valD (s.data.toList.take pos) : Nat) ∧ wr = w ∧ Hid ((s.data.toList.take pos).all isDig = true)) (fun _ iv _ => s.size - (RowKit.intOf iv).toNat)
        case atStart => exact ⟨0, Nat.zero_le _, rfl, rfl, rfl, rfl⟩
        case round =>
          obtain ⟨pos, hps, rfl, rfl, rfl, hd⟩ := hrel
          have hp10 : pos ≤ 10 := Nat.le_trans hps HS10.out
          have hv := valD_lt s.data.toList pos (by omega) (by omega) hd.out
          by_cases hp : pos < s.size
          · have hp' : decide (pos < s.size) = true := decide_eq_true hp
            have hp2 : decide ((pos : Int) < (s.size : Int)) = true := decide_eq_true (by omega)
            have hpi : (pos : Int) < s.size := by omega
            have hc := at_list hp
            have h17 : (10 : Nat) ^ pos ≤ 10 ^ 10 := Nat.pow_le_pow_right (by decide) (by omega)
            have hcb : (s[pos]'hp).toNat < 256 := (s[pos]'hp).toNat_lt
            cases hdg : isDig (s[pos]'hp)
            · have hend := Lib.hid (HNN.out (all_not hc hdg))
              have hno := dig_no hdg
              generalize valD (s.data.toList.take pos) = N at *
              clear HY HNN hd hv
              rcases hno with h48 | h57
              · have t1 : decide (((s[pos]'hp).toNat : Int) < 48) = true := decide_eq_true (by omega)
                go_wp2_with fail
                go_ret2
                exact ⟨NumTo.no hend.out rfl, rfl⟩
              · have t1 : decide (((s[pos]'hp).toNat : Int) < 48) = false := decide_eq_false (by omega)
                have t2 : decide (57 < ((s[pos]'hp).toNat : Int)) = true := decide_eq_true (by omega)
                go_wp2_with fail
                go_ret2
                exact ⟨NumTo.no hend.out rfl, rfl⟩
            · have hb := dig_bd hdg
              have hts := take_snoc hc
              have hv1 : valD (s.data.toList.take (pos + 1)) = valD (s.data.toList.take pos) * 10 + ((s[pos]'hp).toNat - 48) := by rw [hts, valD_snoc]
              have hd2 : Hid ((s.data.toList.take (pos + 1)).all isDig = true) := by unfold Hid; rw [hts, List.all_append, hd.out]; simp [hdg]
              have HV1 := Lib.hid hv1
              clear hts hv1 HY HNN
              generalize valD (s.data.toList.take pos) = N at *
              have hN17 : N < 10000000000 := Nat.lt_of_lt_of_le hv h17
              have t1 : decide (((s[pos]'hp).toNat : Int) < 48) = false := decide_eq_false (by omega)
              have t2 : decide (57 < ((s[pos]'hp).toNat : Int)) = false := decide_eq_false (by omega)
              clear hv h17
              go_wp2_with fail
              go_roundw
              case rel =>
                refine ⟨pos + 1, by omega, by go_num, ?_, trivial, hd2⟩
                rw [HV1.out]; congr 1; omega
              case measure => simp [RowKit.intOf]; omega
          · have hpe : pos = s.size := by omega
            have hp' : decide (pos < s.size) = false := decide_eq_false hp
            have hp2 : decide ((pos : Int) < (s.size : Int)) = false := decide_eq_false (by omega)
            have htk : s.data.toList.take pos = s.data.toList := by rw [hpe, ← hlen, List.take_length]
            have hd' := hd.out
            have h17 : (10 : Nat) ^ pos ≤ 10 ^ 10 := Nat.pow_le_pow_right (by decide) (by omega)
            have hN17 : valD (s.data.toList.take pos) < 10000000000 := Nat.lt_of_lt_of_le hv h17
            rw [htk] at hd' hN17 ⊢
            have hend := Lib.hid (HY.out hd')
            generalize valD s.data.toList = N at *
            clear HY HNN hd hd' hv h17 htk hpe
            have hle : Hid (decide ((N : Int) ≤ 4294967295) = J.isSome ∧ ∀ n, J = some n → N % 4294967296 = n) := by
              refine ⟨?_, fun n hn => ?_⟩
              · rw [hend.out]
                by_cases h : N ≤ 4294967295
                · rw [if_pos h]; exact decide_eq_true (by omega)
                · rw [if_neg h]; exact decide_eq_false (by omega)
              · rw [hend.out] at hn
                split at hn
                · cases hn; omega
                · cases hn
            go_wp2_with fail
            go_ret2
            exact ⟨⟨N % 4294967296, by rw [← hle.out.1]; simp, hle.out.2⟩, rfl⟩
theorem numberS_any (s : Bs) (w : World) (hs : s.length ≤ 1000000) :
    Calls Tryd.prog 37 #[.string (strB s)] w fun e w' => NumTo (numJ s) e ∧ w' = w := by
  have h := number8_any (strB s) w (by rw [strB_size]; exact hs)
  rw [strB_list] at h
  exact h
end

section
open Go Go.RowKit Go.Lib
theorem kindW_is {s : Bs} {k : Nat} (h : 1 ≤ k ∧ k ≤ 5) : (s = kindT k ↔ kindW s = k) := by
  constructor
  · intro e; rw [e]; exact kindW_T (by omega)
  · intro e
    have h0 : kindW s ≠ 0 := by omega
    have := (kindW_some h0).1
    rw [e] at this
    exact this.symm
def JRestB (t : Bs) (e0 en : Nat) (js : List Nat) : Prop := jobsB (t.drop e0) = (jobsB (t.drop en)).map fun p => (js ++ p.1, p.2)
theorem JRestB.start (t : Bs) (e0 : Nat) : JRestB t e0 e0 [] := by
  unfold JRestB
  cases jobsB (t.drop e0) <;> rfl
theorem drop_at {t : Bs} {en : Nat} (h : en < t.length) {c : UInt8} (hc : t[en] = c) : t.drop en = c :: t.drop (en + 1) := by rw [List.drop_eq_getElem_cons h, hc]
theorem JRestB.next {t : Bs} {e0 en : Nat} {js : List Nat} (h : JRestB t e0 en js) (hl : en < t.length) (hc : t[en] = 58) {n : Nat} (hn : numJ (nextB (t.drop (en + 1))).1 = some n) : JRestB t e0 (endB t (en + 1)) (js ++ [n]) := by
  unfold JRestB at *
  rw [h, drop_at hl hc, jobsB_go, hn, endB_drop]
  dsimp only
  cases jobsB (t.drop (endB t (en + 1))) with
  | none => rfl
  | some p => simp
theorem JRestB.bad {t : Bs} {e0 en : Nat} {js : List Nat} (h : JRestB t e0 en js) (hl : en < t.length) (hc : t[en] = 58) (hn : numJ (nextB (t.drop (en + 1))).1 = none) : jobsB (t.drop e0) = none := by
  unfold JRestB at *
  rw [h, drop_at hl hc, jobsB_go, hn]; rfl
theorem JRestB.done {t : Bs} {e0 en : Nat} {js : List Nat} (h : JRestB t e0 en js) (hc : ∀ h : en < t.length, t[en] ≠ 58) : jobsB (t.drop e0) = some (js, t.drop en) := by
  unfold JRestB at h
  rw [h, jobsB_stop]
  · simp
  · intro r e
    by_cases hl : en < t.length
    · rw [List.drop_eq_getElem_cons hl] at e
      injection e with e1 _
      exact hc hl e1
    · rw [List.drop_eq_nil_of_le (by omega)] at e
      cases e
def badK (K : Int) (n : Nat) : Bool := (K == 0) || (K == 5 && decide (0 < n)) || (decide (K < 5) && n == 0)
theorem needB_of {t : Bs} {a en : Nat} {js : List Nat} (h : jobsB (t.drop (endB t a)) = some (js, t.drop en)) :
    needB (t.drop a) = if badK (kindW (nextB (t.drop a)).1) js.length = true then none else some ((kindW (nextB (t.drop a)).1, js), t.drop en) := by
  unfold needB
  rw [endB_drop, h]
  dsimp only
  congr 1
  unfold badK
  simp [List.length_pos_iff, List.length_eq_zero_iff, or_assoc]
theorem needB_no {t : Bs} {a : Nat} (h : jobsB (t.drop (endB t a)) = none) : needB (t.drop a) = none := by
  unfold needB
  rw [endB_drop, h]
def NRestB (t : Bs) (sg : UInt8) (a : Nat) (l : List Nd) : Prop := needsB 0 t = (needsB sg (t.drop a)).map fun p => (l ++ p.1, p.2)
theorem NRestB.start (t : Bs) : NRestB t 0 0 [] := by
  unfold NRestB
  rw [List.drop_zero]
  cases needsB 0 t <;> rfl
theorem NRestB.none {t : Bs} {sg : UInt8} {a : Nat} {l : List Nd} (h : NRestB t sg a l) (hn : needB (t.drop a) = none) : needsB 0 t = none := by
  unfold NRestB at h; rw [h, needsB_none hn]; rfl
theorem NRestB.done {t : Bs} {sg : UInt8} {a : Nat} {l : List Nd} {n : Nd} (h : NRestB t sg a l) (hn : needB (t.drop a) = some (n, [])) : needsB 0 t = some (l ++ [n], sg) := by
  unfold NRestB at h; rw [h, needsB_end hn]; rfl
theorem NRestB.bad {t : Bs} {sg c : UInt8} {a : Nat} {l : List Nd} {n : Nd} {r : Bs} (h : NRestB t sg a l) (hn : needB (t.drop a) = some (n, c :: r)) (hb : sg ≠ 0 ∧ sg ≠ c) : needsB 0 t = Option.none := by
  unfold NRestB at h; rw [h, needsB_go hn, if_pos hb]; rfl
theorem NRestB.next {t : Bs} {sg : UInt8} {a en : Nat} {l : List Nd} {n : Nd} (h : NRestB t sg a l) (hl : en < t.length) (hn : needB (t.drop a) = some (n, t.drop en)) (hb : ¬ (sg ≠ 0 ∧ sg ≠ t[en])) : NRestB t t[en] (en + 1) (l ++ [n]) := by
  rw [List.drop_eq_getElem_cons hl] at hn
  unfold NRestB at *
  rw [h, needsB_go hn, if_neg hb]
  cases needsB t[en] (t.drop (en + 1)) with
  | none => rfl
  | some p => simp
def fin8 (t : Bs) (o : Option (List Nd × UInt8)) : Bool × List Nd × Int := match o with | none => (false, [], 60) | some (l, sg) => endD (decide (sg = 63)) l
theorem parseB8_fin {t : Bs} (h : t ≠ []) : parseB8 t = fin8 t (needsB 0 t) := by
  unfold parseB8 fin8
  rw [if_neg h]
  cases needsB 0 t <;> rfl
set_option maxRecDepth 100000 in
set_option maxHeartbeats 4000000 in
theorem rparse8_any (t : Bs) (w : World) (hs : t.length ≤ 1000000) :
    Calls Tryd.prog 22 #[.string (strB t)] w fun e w' => DepTo (parseB8 t) w.heap.size e w' ∧ Below w.heap.size w w' := by
  obtain ⟨G2, hG2⟩ : ∃ g, g = w.heap.size := ⟨_, rfl⟩
  have HG2 := Lib.hid hG2
  obtain ⟨X, hX⟩ : ∃ X, X = w.alloc (.cells #[.bool false, .slice none 0 0] 24) := ⟨_, rfl⟩
  have HXX := Lib.hid hX
  have hbX : Below w.heap.size w X := by rw [hX]; exact (Below.refl _ _).alloc (Nat.le_refl _) _
  have hbk : Blk X G2 #[.bool false, .slice none 0 0] 24 := by rw [hX, hG2]; exact Blk.new w _ _
  obtain ⟨G4, hG4⟩ : ∃ g, g = X.heap.size := ⟨_, rfl⟩
  have HG4 : Hid (G4 = G2 + 1) := by unfold Hid; rw [hG4, hX, hG2]; simp
  obtain ⟨Y, hY⟩ : ∃ Y, Y = X.alloc (.cells #[.bool false, .slice none 0 0] 24) := ⟨_, rfl⟩
  have HYY := Lib.hid hY
  have hbY : Below X.heap.size X Y := by rw [hY]; exact (Below.refl _ _).alloc (Nat.le_refl _) _
  have HK2Y : Hid (Blk Y G2 #[.bool false, .slice none 0 0] 24) := hbk.kept hbY
  have HK4 : Hid (Blk Y G4 #[.bool false, .slice none 0 0] 24) := by unfold Hid; rw [hY, hG4]; exact Blk.new _ _ _
  have HBY := Lib.hid (below_next hbY hbX)
  have HGG : Hid (w.heap.size ≤ G2 ∧ G2 < G4 ∧ G4 < Y.heap.size) := ⟨Nat.le_of_eq hG2.symm, by rw [hG4]; exact hbk.lt, HK4.out.lt⟩
  clear hX hG2 hbX hbk hG4 hY hbY
  by_cases he : t = []
  · have HP : Hid (parseB8 t = (false, [], 0)) := if_pos he
    rw [HP.out]
    subst he
    have hk2 := HK2Y.out
    have g0 := hk2.cell 0
    have g1 := hk2.cell 1
    simp at g0 g1
    have f0 := hk2.free 0
    have f1 := hk2.free 1
    have d0 := HK4.out.cell 0
    have d1 := HK4.out.cell 1
    simp at d0 d1
    obtain ⟨W6, e6, z0, z1, _, hend⟩ := end2 hk2 HBY.out HBY.out.size HGG.out.1 (.bool false) (.slice none 0 0)
    have E6 := Lib.hid e6
    have HEND := Lib.hid hend.1
    have qe : (strB []).toList.isEmpty = true := by rw [strB_toList]; rfl
    clear e6 hend hk2
    go_enter Tryd.func22, Tryd.ntmps22
    go_upto_region 2 with fail
    rw [← HG2.out, ← HXX.out, ← HG4.out, ← HYY.out]
    go_wp2_with fail
    rw [E6.out]
    refine bodyPost_ret (v := .tuple #[.agg #[.bool false, .slice none 0 0], .int .i64 0]) (by simp [results, Tryd.results22, go_sem, z0, z1]) rfl ⟨?_, HEND.out⟩
    exact DepTo.none rfl
  · have q1 : ((strB t).toList == []) = false := by rw [strB_toList]; simp; exact he
    have HRR := Lib.hid (parseB8_fin he)
    have HST0 := Lib.hid (NRestB.start t)
    obtain ⟨ST, hST⟩ : ∃ o, o = strB t := ⟨_, rfl⟩
    have hss : ST.size = t.length := by rw [hST, strB_size]
    have HSS := Lib.hid hss
    have HAT : Hid (∀ i (h : i < ST.size) (h2 : i < t.length), ST[i]'h = t[i]'h2) := fun i h h2 => by subst hST; exact strB_at h2
    have HNX : Hid (∀ a w', a ≤ t.length → Calls Tryd.prog 36 #[.string ST, .int .i64 a] w' fun e w2 => e = .returned (.tuple #[.string (strB (nextB (t.drop a)).1), .int .i64 (endB t a)]) ∧ w2 = w') := fun a w' ha => by rw [hST]; exact next_any t a w' ha hs
    rw [← hST] at q1 ⊢
    obtain ⟨R, hR⟩ : ∃ r, r = parseB8 t := ⟨_, rfl⟩
    rw [← hR] at HRR ⊢
    obtain ⟨i0, hi0, hz0, hz1, hz2⟩ := info_parts Tryd.infoNeed8
    have HI := Lib.hid (And.intro hi0 (And.intro hz0 (And.intro hz1 hz2)))
    obtain ⟨i1, hi1, hy0, hy1, hy2⟩ := info_parts Tryd.infoJob
    have HI1 := Lib.hid (And.intro hi1 (And.intro hy0 (And.intro hy1 hy2)))
    rw [← hss] at hs
    obtain ⟨BN, hBN⟩ : ∃ g, g = Y.heap.size := ⟨_, rfl⟩
    have HBN := Lib.hid hBN
    clear hST he hR hi0 hz0 hz1 hz2 hi1 hy0 hy1 hy2 hss hBN
    go_enter Tryd.func22, Tryd.ntmps22
    go_upto_region 2 with fail
    rw [← HG2.out, ← HXX.out, ← HG4.out, ← HYY.out]
    go_wp2_with fail
    go_loopw [5, 6] (fun sv av wr => ∃ (sg : UInt8) (a : Nat) (l : List NdM) (v : Value), sv = .int .u8 (sg.toNat : Nat) ∧ av = .int .i64 (a : Nat) ∧ a ≤ ST.size ∧ Hid (l.length ≤ a) ∧ Hid (NRestB t sg a (ndsOf l)) ∧ Hid (Blk wr G4 #[.bool false, v] 24) ∧ Hid (Blk wr G2 #[.bool false, .slice none 0 0] 24) ∧ Hid (NdOwn wr BN v l) ∧ Hid (∀ p ∈ l, p.2.2.length ≤ 1000001 ∧ ∀ j ∈ p.2.2, j < 4294967296) ∧ Hid (Below w.heap.size w wr) ∧ Hid (BN ≤ wr.heap.size)) (fun _ av _ => ST.size - (RowKit.intOf av).toNat)
    case atStart => exact ⟨0, 0, [], .slice none 0 0, rfl, rfl, Nat.zero_le _, Nat.zero_le _, HST0.out, HK4.out, HK2Y.out, NdOwn.nil _ _, fun p hp => (nomatch hp), HBY.out, Nat.le_of_eq HBN.out⟩
    case round =>
      clear HK2Y HK4 HBY HST0
      obtain ⟨sg, a, l, v, rfl, rfl, ha, HLA, HNR, HK4, HK2, HOJ, HSM, HB, HBJr⟩ := hrel
      have ha' : a ≤ t.length := by rw [← HSS.out]; exact ha
      have NX := Lib.hid (HNX.out a wr ha')
      have HE0 := endB_le ha'
      obtain ⟨nm, hnm⟩ : ∃ x, x = (nextB (t.drop a)).1 := ⟨_, rfl⟩
      obtain ⟨e0, he0⟩ : ∃ x, x = endB t a := ⟨_, rfl⟩
      have HNB : Hid (∀ js en, jobsB (t.drop e0) = some (js, t.drop en) → needB (t.drop a) = if badK (kindW nm) js.length = true then none else some ((kindW nm, js), t.drop en)) := fun js en h => by
        rw [hnm]; rw [he0] at h; exact needB_of h
      have HNN : Hid (jobsB (t.drop e0) = none → needB (t.drop a) = none) := fun h => by rw [he0] at h; exact needB_no h
      rw [← hnm, ← he0] at NX
      rw [← he0, ← HSS.out] at HE0
      have hKW : Hid (∀ k : Nat, 1 ≤ k ∧ k ≤ 5 → (nm = kindT k ↔ kindW nm = k)) := fun k hk => kindW_is hk
      have hkl := kindW_le nm
      obtain ⟨K, hK⟩ : ∃ k, k = kindW nm := ⟨_, rfl⟩
      rw [← hK] at HNB hKW hkl
      obtain ⟨SN, hSN⟩ : ∃ s, s = strB nm := ⟨_, rfl⟩
      rw [← hSN] at NX
      have HEQ : Hid (∀ k : Nat, 1 ≤ k ∧ k ≤ 5 → (SN.toList == (strB (kindT k)).toList) = decide (K = k)) := fun k hk => by
        rw [hSN, strB_toList, strB_toList, Bool.eq_iff_iff, beq_iff_eq, decide_eq_true_eq]
        exact hKW.out k hk
      clear hnm he0 hK hSN hKW
      obtain ⟨w9, hw9⟩ : ∃ x, x = wr := ⟨_, rfl⟩
      subst hw9
      go_wp2_with fail
      refine NX.out.mono ?_; rintro e w3 ⟨rfl, hw3⟩
      subst hw3
      obtain ⟨G9, hG9⟩ : ∃ g, g = w3.heap.size := ⟨_, rfl⟩
      obtain ⟨W9, hW9⟩ : ∃ x, x = w3.alloc (.cells #[.int .i64 0, .slice none 0 0] 46) := ⟨_, rfl⟩
      have HB9 : Hid (Below w3.heap.size w3 W9) := by unfold Hid; rw [hW9]; exact (Below.refl _ _).alloc (Nat.le_refl _) _
      have HK9 : Hid (Blk W9 G9 #[.int .i64 0, .slice none 0 0] 46) := by unfold Hid; rw [hW9, hG9]; exact Blk.new _ _ _
      have HG9 := Lib.hid hG9
      have HW9 := Lib.hid hW9
      clear hG9 hW9 NX
      go_upto_region 8 with fail
      rw [← HG9.out, ← HW9.out]
      clear HW9
      go_wp2_with fail
      go_loopw [10] (fun kv wr => ∃ k : Nat, kv = .int .i64 (k : Nat) ∧ 1 ≤ k ∧ k ≤ 6 ∧ Hid (Blk wr G9 #[.int .i64 (if K < k then K else 0), .slice none 0 0] 46) ∧ Hid (Below w3.heap.size w3 wr)) (fun kv _ => 6 - (RowKit.intOf kv).toNat)
      case atStart =>
        refine ⟨1, rfl, by omega, by omega, ?_, HB9.out⟩
        have e : (if K < ((1 : Nat) : Int) then K else 0) = 0 := by split <;> omega
        rw [e]; exact HK9.out
      case round =>
        clear HK9 HB9
        obtain ⟨k, rfl, hk1, hk6, HK9, HB9⟩ := hrel
        have hk9 := HK9.out
        have k0 := hk9.cell 0
        have k1 := hk9.cell 1
        simp at k0 k1
        have f0 := hk9.free 0
        by_cases hle : k ≤ 5
        · have d1 : decide ((k : Int) ≤ 5) = true := decide_eq_true (by omega)
          have d2 : decide (k ≤ 5) = true := decide_eq_true hle
          have WD := Lib.hid (word_any k wr)
          have HQ := HEQ.out k ⟨hk1, hle⟩
          obtain ⟨SK, hSK⟩ : ∃ s, s = strB (kindT k) := ⟨_, rfl⟩
          rw [← hSK] at WD HQ
          clear hSK hk9
          by_cases hkk : K = k
          · have q2 : (SN.toList == SK.toList) = true := by rw [HQ]; exact decide_eq_true hkk
            have HKN : Hid (Blk (wr.setCell ⟨G9, 0, none⟩ (.int .i64 (k : Nat))) G9 #[.int .i64 (if K < ((k + 1 : Nat) : Int) then K else 0), .slice none 0 0] 46) := by
              have e : (if K < ((k + 1 : Nat) : Int) then K else 0) = (k : Int) := by rw [if_pos (by omega)]; exact hkk
              unfold Hid
              rw [e]
              exact HK9.out.set 0 _
            have HBN2 : Hid (Below w3.heap.size w3 (wr.setCell ⟨G9, 0, none⟩ (.int .i64 (k : Nat)))) := HB9.out.trans ((Chg.setCell (own := One G9) 0 _ rfl).to_below HB9.out.size fun q hq e => by have : q = G9 := e; have := HG9.out; omega)
            clear HQ hkk
            go_wp2_with fail
            refine WD.out.mono ?_; rintro e w5 ⟨rfl, hw5⟩
            subst hw5
            go_wp2_with fail
            go_roundw
            case rel => exact ⟨k + 1, by go_num, by omega, by omega, HKN.out, HBN2.out⟩
            case measure => simp [RowKit.intOf]; omega
          · have q2 : (SN.toList == SK.toList) = false := by rw [HQ]; exact decide_eq_false hkk
            have HKN : Hid (Blk wr G9 #[.int .i64 (if K < ((k + 1 : Nat) : Int) then K else 0), .slice none 0 0] 46) := by
              have e : (if K < ((k + 1 : Nat) : Int) then K else 0) = (if K < (k : Int) then K else 0) := by
                by_cases h : K < (k : Int)
                · rw [if_pos h, if_pos (by omega)]
                · rw [if_neg h, if_neg (by omega)]
              unfold Hid
              rw [e]
              exact HK9.out
            clear HQ hkk
            go_wp2_with fail
            refine WD.out.mono ?_; rintro e w5 ⟨rfl, hw5⟩
            subst hw5
            go_wp2_with fail
            go_roundw
            case rel => exact ⟨k + 1, by go_num, by omega, by omega, HKN.out, HB9.out⟩
            case measure => simp [RowKit.intOf]; omega
        · have d1 : decide ((k : Int) ≤ 5) = false := decide_eq_false (by omega)
          have d2 : decide (k ≤ 5) = false := decide_eq_false hle
          have HK9' : Hid (Blk wr G9 #[.int .i64 K, .slice none 0 0] 46) := by
            have e : (if K < (k : Int) then K else 0) = K := if_pos (by omega)
            have h := HK9.out
            rw [e] at h
            exact h
          have HJ0 := Lib.hid (JRestB.start t e0)
          obtain ⟨BJ, hBJ⟩ : ∃ b, b = wr.heap.size := ⟨_, rfl⟩
          have HGB : Hid (G9 < BJ ∧ BN ≤ BJ) := ⟨by rw [hBJ]; exact hk9.lt, by rw [hBJ]; exact Nat.le_trans HBJr.out HB9.out.size⟩
          have HBJ := Lib.hid hBJ
          clear HK9 HEQ hk9 k0 k1 f0 hBJ
          go_wp2_with fail
          go_loopw [8] (fun ev wr => ∃ (en : Nat) (js : List Nat) (pv : Value), ev = .int .i64 (en : Nat) ∧ en ≤ ST.size ∧ a ≤ en ∧ Hid (js.length ≤ en) ∧ Hid (JRestB t e0 en js) ∧ Hid (∀ j ∈ js, j < 4294967296) ∧ Hid (Blk wr G9 #[.int .i64 K, pv] 46) ∧ Hid (UOwn wr BJ pv js) ∧ Hid (Below w3.heap.size w3 wr) ∧ Hid (BJ ≤ wr.heap.size)) (fun ev _ => ST.size - (RowKit.intOf ev).toNat)
          case atStart => exact ⟨e0, [], .slice none 0 0, rfl, HE0.2, HE0.1, Nat.zero_le _, HJ0.out, fun j hj => (nomatch hj), HK9'.out, ⟨rfl, .inl ⟨rfl, rfl⟩⟩, HB9.out, Nat.le_of_eq HBJ.out⟩
          case round =>
            clear HK9' HJ0 HB9
            obtain ⟨en, js, pv, rfl, hen, hae, HJL, HJR, HJS, HK9, HU, HB9, HBJ9⟩ := hrel
            obtain ⟨pa, pc, rfl⟩ := own_slice HU.out
            obtain ⟨LJ, hLJ⟩ : ∃ L, L = js.length := ⟨_, rfl⟩
            have HLJ := Lib.hid hLJ
            have HUO : Hid (wr.ownsRow BJ 38 1 (.slice pa LJ pc) LJ (uL js)) := by unfold Hid; rw [hLJ]; exact HU.out
            rw [← hLJ] at HK9 HJL
            clear hLJ HU
            have hk9 := HK9.out
            have k0 := hk9.cell 0
            have k1 := hk9.cell 1
            simp at k0 k1
            clear hk9
            obtain ⟨wq, hwq⟩ : ∃ x, x = wr := ⟨_, rfl⟩
            subst hwq
            go_upto_region 13 with fail
            go_cut [46] from 37 to 46 (fun bv wx => ∃ β : Bool, bv = .bool β ∧ Hid (β = true → ∃ h : en < t.length, t[en] = 58) ∧ Hid (β = false → ∀ h : en < t.length, t[en] ≠ 58) ∧ Hid (wq = wx))
            case first =>
              by_cases hlt : en < ST.size
              · have e1 : decide (en < ST.size) = true := decide_eq_true hlt
                have e2 : decide ((en : Int) < (ST.size : Int)) = true := decide_eq_true (by omega)
                have hii : (en : Int) < (ST.size : Int) := by omega
                have hit : en < t.length := by rw [← HSS.out]; exact hlt
                have HC := Lib.hid (HAT.out en hlt hit)
                have HB1 : Hid ((((ST[en]'hlt).toNat : Int) == 58) = true → ∃ h : en < t.length, t[en] = 58) := fun h => ⟨hit, by rw [← HC.out]; exact UInt8.toNat_inj.1 (by simp at h; show _ = 58; omega)⟩
                have HB2 : Hid ((((ST[en]'hlt).toNat : Int) == 58) = false → ∀ h : en < t.length, t[en] ≠ 58) := fun h _ e => by
                  rw [HC.out, e] at h; cases h
                generalize hβ : (((ST[en]'hlt).toNat : Int) == 58) = β at *
                go_wp2_with fail
                go_meet
                exact ⟨β, rfl, HB1.out, HB2.out, rfl⟩
              · have e1 : decide (en < ST.size) = false := decide_eq_false hlt
                have e2 : decide ((en : Int) < (ST.size : Int)) = false := decide_eq_false (by omega)
                have HB2 : Hid (∀ h : en < t.length, t[en] ≠ 58) := fun h => absurd (HSS.out ▸ h) hlt
                go_wp2_with fail
                go_meet
                exact ⟨false, rfl, (fun h => nomatch h), fun _ => HB2.out, rfl⟩
            case rest =>
            obtain ⟨β, rfl, HT1, HT2, hw⟩ := hcut
            replace hw := hw.out
            subst hw
            cases β with
            | true =>
              obtain ⟨hit, h58⟩ := HT1.out rfl
              have HH : Hid (en < t.length) := hit
              have NX2 := HNX.out (en + 1) wq hit
              have HE1 := endB_le (t := t) (a := en + 1) hit
              have HJN : Hid (∀ n, numJ (nextB (t.drop (en + 1))).1 = some n → JRestB t e0 (endB t (en + 1)) (js ++ [n])) := fun n hn => HJR.out.next hit h58 hn
              have HJB : Hid (numJ (nextB (t.drop (en + 1))).1 = none → R = (false, [], 60)) := fun hn => by
                rw [HRR.out, HNR.out.none (HNN.out (HJR.out.bad hit h58 hn))]; rfl
              obtain ⟨x, hx⟩ : ∃ x, x = (nextB (t.drop (en + 1))).1 := ⟨_, rfl⟩
              obtain ⟨e1, he1⟩ : ∃ x, x = endB t (en + 1) := ⟨_, rfl⟩
              rw [← hx, ← he1] at NX2 HJN
              rw [← hx] at HJB
              rw [← he1, ← HSS.out] at HE1
              have hxl : x.length ≤ 1000000 := by
                have h1 := congrArg List.length (nextB_app (t.drop (en + 1)))
                rw [← hx, List.length_append, List.length_drop] at h1
                have := HSS.out
                omega
              have NB := Lib.hid (numberS_any x wq hxl)
              have HNJ : Hid (∀ n, numJ x = some n → n < 4294967296) := fun n hn => (numJ_some hn).2
              obtain ⟨J, hJ⟩ : ∃ j, j = numJ x := ⟨_, rfl⟩
              rw [← hJ] at NB HJN HJB HNJ
              obtain ⟨SX, hSX⟩ : ∃ s, s = strB x := ⟨_, rfl⟩
              rw [← hSX] at NX2 NB
              have ec : ((en + 1 : Nat) : Int) = (en : Int) + 1 := by omega
              rw [ec] at NX2
              have HNX2 := Lib.hid NX2
              clear hx he1 hJ hSX hit h58 NX2 ec HT1 HT2 HJR hxl
              go_wp2_with fail
              refine HNX2.out.mono ?_; rintro e w5 ⟨rfl, hw5⟩
              replace hw5 := hw5.symm
              subst hw5
              go_wp2_with fail
              refine NB.out.mono ?_; rintro e w5 ⟨⟨nj, rfl, hnj⟩, hw5⟩
              replace hw5 := hw5.symm
              subst hw5
              have HK2' := Lib.hid (HK2.out.kept HB9.out)
              have HBW := Lib.hid (below_next HB9.out HB.out)
              cases J with
              | none =>
                have HN := Lib.hid (HJB.out rfl)
                have hk2 := HK2'.out
                have g0 := hk2.cell 0
                have g1 := hk2.cell 1
                simp at g0 g1
                have f0 := hk2.free 0
                have f1 := hk2.free 1
                obtain ⟨W6, e6, z0, z1, _, hend⟩ := end2 hk2 HBW.out HBW.out.size HGG.out.1 (.bool false) (.slice none 0 0)
                have E6 := Lib.hid e6
                have HEND := Lib.hid hend.1
                clear e6 hend hk2 HJN HJB hnj NB HNX2
                go_wp2_with fail
                rw [E6.out]
                refine bodyPost_ret (v := .tuple #[.agg #[.bool false, .slice none 0 0], .int .i64 60]) (by simp [results, Tryd.results22, go_sem, z0, z1]) rfl ⟨?_, HEND.out⟩
                rw [HN.out]; exact DepTo.none rfl
              | some n =>
                have hnn : nj = n := hnj n rfl
                subst hnn
                have HJ2 := Lib.hid (HJN.out nj rfl)
                have HN32 := Lib.hid (HNJ.out nj rfl)
                have f1 := HK9.out.free 1
                have hLb : LJ ≤ 1000001 := by have := HJL.out; omega
                have hBJ9 := HBJ9.out
                have HNO : Hid (∀ g, g = G9 → some g ≠ (Value.slice pa LJ pc).ownBlock) := fun g hg e => by
                  have := (HUO.out.lt g e.symm).1
                  have := HGB.out
                  omega
                have HNX8 : Hid (∀ w8 o, (wq.alloc o).grownBy w8 (Value.slice pa LJ pc).ownBlock → Blk w8 G9 #[.int .i64 K, .slice pa LJ pc] 46 ∧ Below w3.heap.size w3 w8 ∧ BJ ≤ w8.heap.size) := fun w8 o hg =>
                  ⟨blk_grown8 (HK9.out.old o) hg (HNO.out _ rfl), (HB9.out.alloc HB9.out.size o).grown hg (by have := HB9.out.size; simp; omega) (fun q hq => by have := (HUO.out.lt q hq).1; have := HGB.out; have := HG9.out; omega), Nat.le_trans (Nat.le_trans hBJ9 (by simp)) hg.size⟩
                obtain ⟨hi0, hz0, hz1, hz2⟩ := HI1.out
                clear HNO HJN HJB hnj NB HNX2 HNJ HBW HK2'
                go_wp2_with (first | (at_builtin; refine wpList_app rfl _ _ 34 rfl BJ 38 i1 _ 1 4 Tryd.underlying34 hi0 hz0 hz1 hz2 rfl (by decide) _ LJ _ rfl (HUO.out.alloc _) _ 1 [.int .u32 (nj : Nat)] rfl ⟨rfl, .inr ⟨_, _, rfl, news_alloc wq [.int .u32 (nj : Nat)] _⟩⟩ (uL_one8 nj) (by unfold maxLen; omega) (by omega) (by simp; omega) ?_; intro v8 w8 hown8 hgrow8 hat8; obtain ⟨hk8, hb8, hj8⟩ := HNX8.out w8 _ hgrow8; have y1 := hk8.cell 1; have f1 := hk8.free 1; simp at y1; have HK99 := Lib.hid hk8; have HB99 := Lib.hid hb8; have HJ9 := Lib.hid hj8; have HO9 := Lib.hid hown8; obtain ⟨a8, c8, rfl⟩ := own_slice hown8; clear hk8 hb8 hj8 hown8 hgrow8 hat8))
                have HKN : Hid (Blk (w8.setCell ⟨G9, 1, none⟩ (.slice a8 (LJ + 1) c8)) G9 #[.int .i64 K, .slice a8 (LJ + 1) c8] 46) := HK99.out.set 1 _
                have hcs : Chg (One G9) w8 (w8.setCell ⟨G9, 1, none⟩ (.slice a8 (LJ + 1) c8)) := Chg.setCell (own := One G9) 1 _ rfl
                have HBN2 : Hid (Below w3.heap.size w3 (w8.setCell ⟨G9, 1, none⟩ (.slice a8 (LJ + 1) c8))) := HB99.out.trans (hcs.to_below HB99.out.size fun k hk e => by have : k = G9 := e; have := HG9.out; omega)
                have HJN2 : Hid (BJ ≤ (w8.setCell ⟨G9, 1, none⟩ (.slice a8 (LJ + 1) c8)).heap.size) := Nat.le_trans HJ9.out hcs.size
                have HON : Hid (UOwn (w8.setCell ⟨G9, 1, none⟩ (.slice a8 (LJ + 1) c8)) BJ (.slice a8 (LJ + 1) c8) (js ++ [nj])) := by
                  unfold Hid UOwn
                  rw [List.length_append, ← HLJ.out, uL_app]
                  refine own_one HO9.out hcs ?_
                  intro e
                  have := (HO9.out.lt _ e).1
                  have := HGB.out
                  omega
                clear hcs
                go_wp2_with fail
                go_roundw
                case rel =>
                  refine ⟨e1, js ++ [nj], _, rfl, HE1.2, by omega, ?_, HJ2.out, ?_, HKN.out, HON.out, HBN2.out, HJN2.out⟩
                  · unfold Hid
                    rw [List.length_append, List.length_singleton, ← HLJ.out]
                    have := HJL.out
                    omega
                  · intro j hj
                    rcases List.mem_append.1 hj with hj | hj
                    · exact HJS.out j hj
                    · rw [List.mem_singleton.1 hj]; exact HN32.out
                case measure => simp [RowKit.intOf]; have := HH.out; have := HSS.out; omega
            | false =>
              have HJD := Lib.hid (HJR.out.done (HT2.out rfl))
              have HNB2 := Lib.hid (HNB.out js en HJD.out)
              have HB93 : Hid (badK K js.length = badK K LJ) := by unfold Hid; rw [HLJ.out]
              clear HNB HNN HT1 HT2 HJR HJD
              go_upto_region 20 with fail
              go_cut [93] from 69 to 93 (fun bv wx => bv = .bool (badK K LJ) ∧ Hid (wq = wx))
              case first =>
                have HBK : Hid (badK K LJ = ((K == 0) || (K == 5 && decide (0 < LJ)) || (decide (K < 5) && LJ == 0))) := rfl
                generalize badK K LJ = β at *
                by_cases h0 : K = 0
                · have p1 : (K == 0) = true := by simp [h0]
                  have hb : Hid (β = true) := by unfold Hid; rw [HBK.out, p1]; rfl
                  clear h0 HBK HB93 HNB2
                  go_wp2_with fail
                  go_meet
                  exact ⟨by rw [hb.out], rfl⟩
                · have p1 : (K == 0) = false := by simpa using h0
                  by_cases h5 : K = 5
                  · have p2 : (K == 5) = true := by simp [h5]
                    have p3 : decide (K < 5) = false := decide_eq_false (by omega)
                    have hb : Hid (β = decide (0 < LJ)) := by unfold Hid; rw [HBK.out, p1, p2, p3]; simp
                    have hb2 : Hid (decide ((LJ : Int) > 0) = decide (0 < LJ)) := decide_eq_decide.2 (by omega)
                    by_cases hj0 : 0 < LJ
                    · have p4 : decide (0 < LJ) = true := decide_eq_true hj0
                      have p5 : decide ((LJ : Int) > 0) = true := decide_eq_true (by omega)
                      clear h0 HBK HB93 HNB2 h5
                      go_wp2_with fail
                      go_meet
                      exact ⟨by rw [hb.out, p4], rfl⟩
                    · have p4 : decide (0 < LJ) = false := decide_eq_false hj0
                      have p5 : decide ((LJ : Int) > 0) = false := decide_eq_false (by omega)
                      clear h0 HBK HB93 HNB2 h5
                      go_wp2_with fail
                      go_meet
                      exact ⟨by rw [hb.out, p4], rfl⟩
                  · have p2 : (K == 5) = false := by simpa using h5
                    have p3 : decide (K < 5) = true := decide_eq_true (by omega)
                    have hb : Hid (β = (LJ == 0)) := by unfold Hid; rw [HBK.out, p1, p2, p3]; simp
                    by_cases hj0 : LJ = 0
                    · have p4 : (LJ == 0) = true := by simp [hj0]
                      have p5 : ((LJ : Int) == 0) = true := by simp [hj0]
                      clear h0 HBK HB93 HNB2 h5 hj0
                      go_wp2_with fail
                      go_meet
                      exact ⟨by rw [hb.out, p4], rfl⟩
                    · have p4 : (LJ == 0) = false := by simpa using hj0
                      have p5 : ((LJ : Int) == 0) = false := by simp; omega
                      clear h0 HBK HB93 HNB2 h5 hj0
                      go_wp2_with fail
                      go_meet
                      exact ⟨by rw [hb.out, p4], rfl⟩
              case rest =>
              obtain ⟨rfl, hw⟩ := hcut
              replace hw := hw.out
              subst hw
              have HBW := Lib.hid (below_next HB9.out HB.out)
              have HK2' := Lib.hid (HK2.out.kept HB9.out)
              cases hbad : badK K LJ with
              | true =>
                have HN : Hid (R = (false, [], 60)) := by
                  have h := HNB2.out
                  rw [HB93.out, hbad, if_pos rfl] at h
                  unfold Hid
                  rw [HRR.out, HNR.out.none h]; rfl
                have hk2 := HK2'.out
                have g0 := hk2.cell 0
                have g1 := hk2.cell 1
                simp at g0 g1
                have f0 := hk2.free 0
                have f1 := hk2.free 1
                obtain ⟨W6, e6, z0, z1, _, hend⟩ := end2 hk2 HBW.out HBW.out.size HGG.out.1 (.bool false) (.slice none 0 0)
                have E6 := Lib.hid e6
                have HEND := Lib.hid hend.1
                clear e6 hend hk2 HNB2 HB93 hbad
                go_wp2_with fail
                rw [E6.out]
                refine bodyPost_ret (v := .tuple #[.agg #[.bool false, .slice none 0 0], .int .i64 60]) (by simp [results, Tryd.results22, go_sem, z0, z1]) rfl ⟨?_, HEND.out⟩
                rw [HN.out]; exact DepTo.none rfl
              | false =>
              have HND : Hid (needB (t.drop a) = some ((K, js), t.drop en)) := by
                have h := HNB2.out
                rw [HB93.out, hbad, if_neg (by decide)] at h
                exact h
              clear HNB2 HB93 hbad
              obtain ⟨va, vc, rfl⟩ := own_slice HOJ.out.row
              obtain ⟨LN, hLN⟩ : ∃ L, L = l.length := ⟨_, rfl⟩
              rw [← hLN] at HK4 HOJ HLA
              have HLL := Lib.hid hLN
              have HK4' := Lib.hid (HK4.out.kept HB9.out)
              have HO8 := Lib.hid (HOJ.out.older HB9.out)
              have HP8 : Hid (UOwn wq BN (.slice pa LJ pc) js) := by
                have h : UOwn wq BJ (.slice pa LJ pc) js := by unfold UOwn; rw [← HLJ.out]; exact HUO.out
                exact h.lower HGB.out.2
              have hBN8 : BN ≤ wq.heap.size := Nat.le_trans HBJr.out HB9.out.size
              have d0 := HK4'.out.cell 0
              have d1' := HK4'.out.cell 1
              simp at d0 d1'
              have hLb : LN ≤ 1000001 := by have := HLA.out; omega
              have HRO : Hid (wq.ownsRow BN 46 2 (.slice va LN vc) LN (l.flatMap ndV)) := by
                have h := HO8.out.row
                rw [← HLL.out] at h
                exact h
              have HNO : Hid (∀ g, g = G4 ∨ g = G2 → some g ≠ (Value.slice va LN vc).ownBlock) := fun g hg e => by
                have := (HRO.out.lt g e.symm).1
                have := HGG.out
                have := HBN.out
                omega
              have HNX8 : Hid (∀ w8 o, (wq.alloc o).grownBy w8 (Value.slice va LN vc).ownBlock → Blk w8 G4 #[.bool false, .slice va LN vc] 24 ∧ Blk w8 G2 #[.bool false, .slice none 0 0] 24 ∧ Below w.heap.size w w8 ∧ BN ≤ w8.heap.size) := fun w8 o hg =>
                ⟨blk_grown8 (HK4'.out.old o) hg (HNO.out _ (.inl rfl)), blk_grown8 (HK2'.out.old o) hg (HNO.out _ (.inr rfl)), (HBW.out.alloc HBW.out.size o).grown hg (by have := HBW.out.size; simp; omega) (fun q hq => by have := (HRO.out.lt q hq).1; have := HBN.out; have := HGG.out; omega), Nat.le_trans (Nat.le_trans hBN8 (by simp)) hg.size⟩
              have HNA : Hid (∀ w8 v8 o, (wq.alloc o).grownBy w8 (Value.slice va LN vc).ownBlock → w8.ownsRow BN 46 2 v8 (LN + 1) (l.flatMap ndV ++ [.int .i64 K, .slice pa LJ pc]) → NdOwn w8 BN v8 (l ++ [(K, .slice pa LJ pc, js)])) := fun w8 v8 o hg hr => by
                have hA : Below wq.heap.size wq (wq.alloc o) := (Below.refl _ _).alloc (Nat.le_refl _) _
                refine (HO8.out.older hA).app (p := (K, .slice pa LJ pc, js)) (own_older HP8.out hA) hg ?_
                rw [← HLL.out]
                exact hr
              have HSMN : Hid (∀ p ∈ (l ++ [((K, Value.slice pa LJ pc, js) : NdM)]), p.2.2.length ≤ 1000001 ∧ ∀ j ∈ p.2.2, j < 4294967296) := fun p hp => by
                rcases List.mem_append.1 hp with hp | hp
                · exact HSM.out p hp
                · rw [List.mem_singleton.1 hp]; exact ⟨by dsimp only; rw [← HLJ.out]; have := HJL.out; omega, HJS.out⟩
              have HNDS : Hid (ndsOf (l ++ [((K, Value.slice pa LJ pc, js) : NdM)]) = ndsOf l ++ [(K, js)]) := by unfold Hid; simp [ndsOf, toNd]
              have HL2 : Hid ((l ++ [((K, Value.slice pa LJ pc, js) : NdM)]).length ≤ a + 1) := by unfold Hid; rw [List.length_append, List.length_singleton, ← HLL.out]; have := HLA.out; omega
              have HLL2 : Hid ((l ++ [((K, Value.slice pa LJ pc, js) : NdM)]).length = LN + 1) := by unfold Hid; rw [List.length_append, List.length_singleton, ← HLL.out]
              obtain ⟨l2, hl2⟩ : ∃ l2, l2 = l ++ [((K, Value.slice pa LJ pc, js) : NdM)] := ⟨_, rfl⟩
              rw [← hl2] at HNA HSMN HNDS HL2 HLL2
              obtain ⟨hi0, hz0, hz1, hz2⟩ := HI.out
              clear HNO HK4' HK2' HBW hLN HK4 HK2 HOJ HSM HLA hl2 HUO HLJ HJL HJS HP8
              go_upto_region 23 with (first | (at_builtin; refine wpList_app rfl _ _ 22 rfl BN 46 i0 _ 2 32 Tryd.underlying22 hi0 hz0 hz1 hz2 rfl (by decide) _ LN _ rfl (HRO.out.alloc _) _ 1 [.int .i64 K, .slice pa LJ pc] rfl ⟨rfl, .inr ⟨_, _, rfl, news_alloc wq [.int .i64 K, .slice pa LJ pc] _⟩⟩ (fun u hu => by simp at hu; rcases hu with rfl | rfl <;> rfl) (by unfold maxLen; omega) (by omega) (by simp; omega) ?_; intro v8 w8 hown8 hgrow8 hat8; obtain ⟨hk8, hk2, hb8, hj8⟩ := HNX8.out w8 _ hgrow8; have y1 := hk8.cell 1; have f1 := hk8.free 1; simp at y1; have HK99 := Lib.hid hk8; have HK29 := Lib.hid hk2; have HB99 := Lib.hid hb8; have HJ9 := Lib.hid hj8; have HO9 := Lib.hid (HNA.out w8 v8 _ hgrow8 hown8); obtain ⟨a8, c8, rfl⟩ := own_slice hown8; clear hk8 hk2 hb8 hj8 hown8 hgrow8 hat8))
              obtain ⟨wz, hwz⟩ : ∃ x, x = w8.setCell ⟨G4, 1, none⟩ (.slice a8 (LN + 1) c8) := ⟨_, rfl⟩
              have HKN : Hid (Blk wz G4 #[.bool false, .slice a8 (LN + 1) c8] 24) := by unfold Hid; rw [hwz]; exact HK99.out.set 1 _
              have HK2N : Hid (Blk wz G2 #[.bool false, .slice none 0 0] 24) := by unfold Hid; rw [hwz]; exact HK29.out.other (by show G2 ≠ G4; have := HGG.out; omega) _
              have hcs : Chg (One G4) w8 wz := by rw [hwz]; exact Chg.setCell (own := One G4) 1 _ rfl
              have HBN2 : Hid (Below w.heap.size w wz) := HB99.out.trans (hcs.to_below HB99.out.size fun k hk e => by have : k = G4 := e; have := HGG.out; omega)
              have HJN : Hid (BN ≤ wz.heap.size) := Nat.le_trans HJ9.out hcs.size
              have HON : Hid (NdOwn wz BN (.slice a8 (LN + 1) c8) l2) :=
                HO9.out.chg hcs fun q h1 _ e => by have : q = G4 := e; have := HGG.out; have := HBN.out; omega
              rw [← hwz]
              clear hcs hwz HK99 HK29 HB99 HJ9 HO9 HNX8 HNA HRO HO8 HB HB9 HK9 HI HI1 k0 k1 d0 d1' y1 f1 hi0 hz0 hz1 hz2 HBJr HBJ9 hBN8
              have HK2F : Hid (∀ x : Int, R = (false, [], x) → ∀ W, (wz.setCell ⟨G2, 0, none⟩ (.bool false)).setCell ⟨G2, 1, none⟩ (.slice none 0 0) = W → (W.cell? ⟨G2, 0, none⟩ = some (.bool false) ∧ W.cell? ⟨G2, 1, none⟩ = some (.slice none 0 0)) ∧ Below w.heap.size w W) := fun x hx W hW => by
                obtain ⟨W6, e6, z0, z1, _, hend⟩ := end2 HK2N.out HBN2.out HBN2.out.size HGG.out.1 (.bool false) (.slice none 0 0)
                rw [hW] at e6
                subst e6
                exact ⟨⟨z0, z1⟩, hend.1⟩
              by_cases hend : en = ST.size
              · have e1 : ((en : Int) == (ST.size : Int)) = true := by simp [hend]
                have e2 : (en == ST.size) = true := by simpa using hend
                have HRE : Hid (R = endD (decide (sg = 63)) (ndsOf l2)) := by
                  have h : needB (t.drop a) = some ((K, js), []) := by
                    rw [HND.out, List.drop_eq_nil_of_le (by have := HSS.out; omega)]
                  unfold Hid
                  rw [HRR.out, HNR.out.done h, HNDS.out]; rfl
                have hβ : ((sg.toNat : Int) == 63) = decide (sg = 63) := by
                  rw [Bool.eq_iff_iff, beq_iff_eq, decide_eq_true_eq]
                  exact ⟨fun h => UInt8.toNat_inj.1 (by show _ = 63; omega), fun h => by rw [h]; rfl⟩
                obtain ⟨β, hβ2⟩ : ∃ b, b = decide (sg = 63) := ⟨_, rfl⟩
                rw [← hβ2] at hβ HRE
                have d0 := HKN.out.cell 0
                have d1 := HKN.out.cell 1
                simp at d0 d1
                have f0 := HKN.out.free 0
                obtain ⟨wk, hwk⟩ : ∃ x, x = wz.setCell ⟨G4, 0, none⟩ (.bool β) := ⟨_, rfl⟩
                have HKZ : Hid (Blk wk G4 #[.bool β, .slice a8 (LN + 1) c8] 24) := by unfold Hid; rw [hwk]; exact HKN.out.set 0 _
                have HK2Z : Hid (Blk wk G2 #[.bool false, .slice none 0 0] 24) := by unfold Hid; rw [hwk]; exact HK2N.out.other (by show G2 ≠ G4; have := HGG.out; omega) _
                have hcs : Chg (One G4) wz wk := by rw [hwk]; exact Chg.setCell (own := One G4) 0 _ rfl
                have HBZ : Hid (Below w.heap.size w wk) := HBN2.out.trans (hcs.to_below HBN2.out.size fun k hk e => by have : k = G4 := e; have := HGG.out; omega)
                have HOZ : Hid (NdOwn wk BN (.slice a8 (LN + 1) c8) l2) :=
                  HON.out.chg hcs fun q h1 _ e => by have : q = G4 := e; have := HGG.out; have := HBN.out; omega
                have HLB : Hid (l2.length ≤ 1048576) := by have := HL2.out; unfold Hid; omega
                have HSB : Hid (∀ p ∈ l2, p.2.2.length ≤ 1048576) := fun p hp => by have := (HSMN.out p hp).1; omega
                have HSS2 : Hid (∀ p ∈ l2, ∀ j ∈ p.2.2, j < 4294967296) := fun p hp => (HSMN.out p hp).2
                have CK := rcheck_any β (.slice a8 (LN + 1) c8) l2 wk (HOZ.out.nrw HLB.out HSB.out HSS2.out)
                obtain ⟨C, hC⟩ : ∃ c, c = chkD β (ndsOf l2) := ⟨_, rfl⟩
                rw [← hC] at CK
                have HCK := Lib.hid CK
                have HC := Lib.hid hC
                clear hcs hend hβ2 CK hC HKN HK2N HBN2 HON HK2F HNR HND HSMN HL2 HJN
                go_upto_region 29 with fail
                rw [← hwk]
                clear hwk d0 d1 f0
                have c0 := HKZ.out.cell 0
                have c1 := HKZ.out.cell 1
                simp at c0 c1
                go_wp2_with fail
                refine HCK.out.mono ?_; rintro e w4 ⟨rfl, b4⟩
                have HK4' := Lib.hid (HKZ.out.kept b4)
                have HK2' := Lib.hid (HK2Z.out.kept b4)
                have HOJ' := Lib.hid (HOZ.out.older b4)
                have HBW := Lib.hid (below_next b4 HBZ.out)
                have hk2 := HK2'.out
                have g0 := hk2.cell 0
                have g1 := hk2.cell 1
                simp at g0 g1
                have f0 := hk2.free 0
                have f1 := hk2.free 1
                have d0 := HK4'.out.cell 0
                have d1 := HK4'.out.cell 1
                simp at d0 d1
                clear b4 HCK HKZ HK2Z HOZ HBZ c0 c1
                by_cases hok : okD β (ndsOf l2)
                · have hC0 : C = 0 := by rw [HC.out]; exact if_pos hok
                  have HR2 : Hid (R = (β, ndsOf l2, 0)) := by unfold Hid; rw [HRE.out]; exact if_pos hok
                  subst hC0
                  obtain ⟨W6, e6, z0, z1, _, hendd⟩ := end2 hk2 HBW.out HBW.out.size HGG.out.1 (.bool β) (.slice a8 (LN + 1) c8)
                  have HO6 : Hid (NdOwn W6 w.heap.size (.slice a8 (LN + 1) c8) l2) := (HOJ'.out.chg hendd.2 fun q h1 _ e => by have : q = G2 := e; have := HGG.out; have := HBN.out; omega).lower (by have := HGG.out; have := HBN.out; omega)
                  have E6 := Lib.hid e6
                  have HEND := Lib.hid hendd.1
                  clear e6 hendd hk2 hok
                  go_wp2_with fail
                  rw [E6.out]
                  refine bodyPost_ret (v := .tuple #[.agg #[.bool β, .slice a8 (LN + 1) c8], .int .i64 0]) (by simp [results, Tryd.results22, go_sem, z0, z1]) rfl ⟨?_, HEND.out⟩
                  rw [HR2.out]
                  exact ⟨_, l2, rfl, HO6.out, rfl, HLB.out, HSB.out, HSS2.out⟩
                · have hC0 : C = 2 := by rw [HC.out]; exact if_neg hok
                  have HR2 : Hid (R = (false, [], 2)) := by unfold Hid; rw [HRE.out]; exact if_neg hok
                  subst hC0
                  obtain ⟨W6, e6, z0, z1, _, hendd⟩ := end2 hk2 HBW.out HBW.out.size HGG.out.1 (.bool false) (.slice none 0 0)
                  have E6 := Lib.hid e6
                  have HEND := Lib.hid hendd.1
                  clear e6 hendd hk2 hok
                  go_wp2_with fail
                  rw [E6.out]
                  refine bodyPost_ret (v := .tuple #[.agg #[.bool false, .slice none 0 0], .int .i64 2]) (by simp [results, Tryd.results22, go_sem, z0, z1]) rfl ⟨?_, HEND.out⟩
                  rw [HR2.out]; exact DepTo.none rfl
              · have hlt : en < ST.size := by omega
                have hit : en < t.length := by rw [← HSS.out]; exact hlt
                have e1 : ((en : Int) == (ST.size : Int)) = false := by simp; omega
                have e2 : (en == ST.size) = false := by simpa using hend
                have hii : (en : Int) < (ST.size : Int) := by omega
                have HC := Lib.hid (HAT.out en hlt hit)
                have HBD : Hid (sg ≠ 0 ∧ sg ≠ t[en] → R = (false, [], 60)) := fun h => by
                  rw [HRR.out, HNR.out.bad (by rw [HND.out, List.drop_eq_getElem_cons hit]) h]; rfl
                have HGD : Hid (¬ (sg ≠ 0 ∧ sg ≠ t[en]) → NRestB t t[en] (en + 1) (ndsOf l2)) := fun h => by
                  rw [HNDS.out]; exact HNR.out.next hit HND.out h
                rw [← HC.out] at HBD HGD
                obtain ⟨c, hc⟩ : ∃ c, c = ST[en]'hlt := ⟨_, rfl⟩
                rw [← hc] at HBD HGD
                have hcs : ST[en]'hlt = c := hc.symm
                have HUE : Hid (∀ x y : UInt8, ((x.toNat : Int) = (y.toNat : Int)) ↔ x = y) := fun x y => ⟨fun h => UInt8.toNat_inj.1 (by omega), fun h => by rw [h]⟩
                clear hc HC hit hend
                by_cases hbadS : sg ≠ 0 ∧ sg ≠ c
                · have q2 : ((sg.toNat : Int) != 0) = true := by
                    simp only [bne_iff_ne, ne_eq]
                    exact fun e => hbadS.1 ((HUE.out sg 0).1 e)
                  have q3 : ((sg.toNat : Int) != (c.toNat : Int)) = true := by
                    simp only [bne_iff_ne, ne_eq]
                    exact fun e => hbadS.2 ((HUE.out sg c).1 e)
                  have HN := Lib.hid (HBD.out hbadS)
                  have hk2 := HK2N.out
                  have g0 := hk2.cell 0
                  have g1 := hk2.cell 1
                  simp at g0 g1
                  have f0 := hk2.free 0
                  have f1 := hk2.free 1
                  obtain ⟨W6, e6, z0, z1, _, hendd⟩ := end2 hk2 HBN2.out HBN2.out.size HGG.out.1 (.bool false) (.slice none 0 0)
                  have E6 := Lib.hid e6
                  have HEND := Lib.hid hendd.1
                  clear e6 hendd hk2 HBD HGD hbadS
                  go_wp2_with fail
                  rw [E6.out]
                  refine bodyPost_ret (v := .tuple #[.agg #[.bool false, .slice none 0 0], .int .i64 60]) (by simp [results, Tryd.results22, go_sem, z0, z1]) rfl ⟨?_, HEND.out⟩
                  rw [HN.out]; exact DepTo.none rfl
                · have HNG := Lib.hid (HGD.out hbadS)
                  clear HBD HGD
                  by_cases h0 : sg = 0
                  · have q2 : ((sg.toNat : Int) != 0) = false := by rw [h0]; rfl
                    clear hbadS h0
                    go_wp2_with fail
                    go_roundw
                    case rel => exact ⟨c, en + 1, l2, _, rfl, by go_num, hlt, by have := HL2.out; unfold Hid; omega, HNG.out, HKN.out, HK2N.out, HON.out, HSMN.out, HBN2.out, HJN.out⟩
                    case measure => simp [RowKit.intOf]; omega
                  · have q2 : ((sg.toNat : Int) != 0) = true := by
                      simp only [bne_iff_ne, ne_eq]
                      exact fun e => h0 ((HUE.out sg 0).1 e)
                    have q3 : ((sg.toNat : Int) != (c.toNat : Int)) = false := by
                      have : sg = c := Classical.byContradiction fun e => hbadS ⟨h0, e⟩
                      rw [this]; simp
                    clear hbadS h0
                    go_wp2_with fail
                    go_roundw
                    case rel => exact ⟨c, en + 1, l2, _, rfl, by go_num, hlt, by have := HL2.out; unfold Hid; omega, HNG.out, HKN.out, HK2N.out, HON.out, HSMN.out, HBN2.out, HJN.out⟩
                    case measure => simp [RowKit.intOf]; omega
end

end Go.Proofs.YtpobghdiecfoaaaDoor
