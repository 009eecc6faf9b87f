/-
  gangerref08.Print.
-/
import Derived.Test.YtpobghdiecfoaaaDoorDePr
import Derived.Test.YtpobghdiecfoaaaDoorDeD
import Derived.Test.YtpobghdiecfoaaaDoorDig
import Derived.Deep.CutBlock
import Derived.Deep.DeepCutAuto
namespace Go.Proofs.YtpobghdiecfoaaaDoor
open Go Go.RowKit Go.Lib
set_option linter.unusedVariables false

theorem word_any (k : Int) (w : World) : Calls Tryd.prog 29 #[.int .i64 k] w fun e w' => e = .returned (.string (strB (kindT k))) ∧ w' = w := by
  obtain ⟨R, hR⟩ : ∃ R, R = strB (kindT k) := ⟨_, rfl⟩
  have HR := Lib.hid hR
  rw [← hR]
  clear hR
  by_cases h1 : k = 1
  · have q1 : (k == 1) = true := by simp [h1]
    have HRR : Hid ((.string R : Value) = .string ⟨#[97, 102, 116, 101, 114]⟩) := by unfold Hid; rw [HR.out, h1]; rfl
    clear h1
    go_enter Tryd.func29, Tryd.ntmps29
    go_wp2_with fail
    go_ret
    exact ⟨by rw [HRR.out]; rfl, rfl⟩
  · by_cases h2 : k = 2
    · have q1 : (k == 1) = false := by simp; exact h1
      have q2 : (k == 2) = true := by simp [h2]
      have HRR : Hid ((.string R : Value) = .string ⟨#[97, 102, 116, 101, 114, 111, 107]⟩) := by unfold Hid; rw [HR.out, h2]; rfl
      clear h1 h2
      go_enter Tryd.func29, Tryd.ntmps29
      go_wp2_with fail
      go_ret
      exact ⟨by rw [HRR.out]; rfl, rfl⟩
    · by_cases h3 : k = 3
      · have q1 : (k == 1) = false := by simp; exact h1
        have q2 : (k == 2) = false := by simp; exact h2
        have q3 : (k == 3) = true := by simp [h3]
        have HRR : Hid ((.string R : Value) = .string ⟨#[97, 102, 116, 101, 114, 110, 111, 116, 111, 107]⟩) := by unfold Hid; rw [HR.out, h3]; rfl
        clear h1 h2 h3
        go_enter Tryd.func29, Tryd.ntmps29
        go_wp2_with fail
        go_ret
        exact ⟨by rw [HRR.out]; rfl, rfl⟩
      · by_cases h4 : k = 4
        · have q1 : (k == 1) = false := by simp; exact h1
          have q2 : (k == 2) = false := by simp; exact h2
          have q3 : (k == 3) = false := by simp; exact h3
          have q4 : (k == 4) = true := by simp [h4]
          have HRR : Hid ((.string R : Value) = .string ⟨#[97, 102, 116, 101, 114, 97, 110, 121]⟩) := by unfold Hid; rw [HR.out, h4]; rfl
          clear h1 h2 h3 h4
          go_enter Tryd.func29, Tryd.ntmps29
          go_wp2_with fail
          go_ret
          exact ⟨by rw [HRR.out]; rfl, rfl⟩
        · have q1 : (k == 1) = false := by simp; exact h1
          have q2 : (k == 2) = false := by simp; exact h2
          have q3 : (k == 3) = false := by simp; exact h3
          have q4 : (k == 4) = false := by simp; exact h4
          have HRR : Hid ((.string R : Value) = .string ⟨#[115, 105, 110, 103, 108, 101, 116, 111, 110]⟩) := by
            unfold Hid; rw [HR.out]; unfold kindT; rw [if_neg h1, if_neg h2, if_neg h3, if_neg h4]; rfl
          clear h1 h2 h3 h4
          go_enter Tryd.func29, Tryd.ntmps29
          go_wp2_with fail
          go_ret
          exact ⟨by rw [HRR.out]; rfl, rfl⟩
/-- The text of the first needs, one behind the other. -/
def preD (c : UInt8) : List Nd → Bs
  | [] => []
  | n :: r => needT n ++ r.flatMap fun x => c :: needT x
theorem preD_eq (c : UInt8) : ∀ l : List Nd, preD c l = joinD c l
  | [] => rfl
  | [n] => by simp [preD, joinD]
  | n :: m :: r => by
    have ih := preD_eq c (m :: r)
    rw [joinD_more c n (by simp), ← ih]
    simp [preD]
theorem preD_next (c : UInt8) (l : List Nd) {i : Nat} (h : i < l.length) : preD c (l.take (i + 1)) = preD c (l.take i) ++ (if i = 0 then [] else [c]) ++ needT l[i] := by
  cases l with
  | nil => simp at h
  | cons n r =>
    cases i with
    | zero => simp [preD]
    | succ i =>
      have h' : i < r.length := by simpa using h
      simp only [List.take_succ_cons, preD, List.getElem_cons_succ]
      rw [List.take_add_one, List.getElem?_eq_getElem h', List.flatMap_append]
      simp
theorem preD_len (c : UInt8) (l : List Nd) (h1 : ∀ n ∈ l, okN n) (h2 : ∀ n ∈ l, ∀ j ∈ n.2, j < 4294967296) : (preD c l).length ≤ 231 * l.length := by
  rw [preD_eq]; exact joinD_len c l h1 h2
set_option maxRecDepth 100000 in
set_option maxHeartbeats 8000000 in
theorem rprint8_any (any : Bool) (v : Value) (l : List NdM) (w : World) (h : NRw w v l) :
    Calls Tryd.prog 15 #[.agg #[.bool any, v]] w fun e w' => e = .returned (.tuple #[.string (strB (printD any (ndsOf l)).1), .int .i64 (printD any (ndsOf l)).2]) ∧ Below w.heap.size w w' := by
  obtain ⟨a, c, rfl⟩ := h.row.slice
  obtain ⟨gx, hgx⟩ : ∃ g, g = w.heap.size := ⟨_, rfl⟩
  obtain ⟨X, hX⟩ : ∃ X, X = w.alloc (.cells #[.bool any, .slice a l.length c] 24) := ⟨_, rfl⟩
  have hbX : Below w.heap.size w X := by rw [hX]; exact (Below.refl _ _).alloc (Nat.le_refl _) _
  have hbk : Blk X gx #[.bool any, .slice a l.length c] 24 := by rw [hX, hgx]; exact Blk.new w _ _
  have CK := Lib.hid (rcheck_any any (.slice a l.length c) l X (h.kept hbX))
  obtain ⟨N, hN⟩ : ∃ N, N = l.length := ⟨_, rfl⟩
  have HN := Lib.hid hN
  have HL := Lib.hid (h.kept hbX)
  have HBG := Lib.hid h.small
  rw [← hN] at CK hX hbk ⊢
  have HBX := Lib.hid hbX
  have y0 := hbk.cell 0
  have y1 := hbk.cell 1
  simp at y0 y1
  have HXX := Lib.hid hX
  have HGX := Lib.hid hgx
  clear h hN hbX hbk hX hgx
  by_cases hok : okD any (ndsOf l)
  · have hck : chkD any (ndsOf l) = 0 := by unfold chkD; rw [if_pos hok]
    rw [hck] at CK
    have HOK := Lib.hid hok
    have hN20 : N ≤ 20 := by have := hok.1; rw [ndsOf_len, ← HN.out] at this; exact this
    have HPR : Hid (printD any (ndsOf l) = (joinD (sepA any) (ndsOf l), 0)) := if_pos hok
    rw [HPR.out]
    obtain ⟨R, hR⟩ : ∃ R, R = strB (joinD (sepA any) (ndsOf l)) := ⟨_, rfl⟩
    have HR := Lib.hid hR
    rw [← hR]
    clear hck hok hR HPR
    go_enter Tryd.func15, Tryd.ntmps15
    go_upto_region 1 with fail
    rw [← HGX.out, ← HXX.out]
    go_wp2_with fail
    refine CK.out.mono ?_; rintro e w3 ⟨rfl, b1⟩
    have HB3 := Lib.hid b1
    clear b1 CK
    go_wp2_with fail
    go_loopw [5, 6] (fun tv iv wr => ∃ (i : Nat) (T : ByteArray), iv = .int .i64 (i : Nat) ∧ tv = .string T ∧ i ≤ N ∧ T.size ≤ 240 * i ∧ Hid (T = strB (preD (sepA any) ((ndsOf l).take i))) ∧ Hid (Below X.heap.size X wr)) (fun _ iv _ => N - (RowKit.intOf iv).toNat)
    case atStart => exact ⟨0, ⟨#[]⟩, rfl, rfl, Nat.zero_le _, by decide, rfl, HB3.out⟩
    case round =>
      obtain ⟨i, T, rfl, rfl, hi, hTs, HTT, HB⟩ := hrel
      have yy1 := cell_next HB.out y1
      have yy0 := cell_next HB.out y0
      by_cases hlt : i < N
      · have d1 : decide ((i : Int) < (N : Int)) = true := decide_eq_true (by omega)
        have d1' : decide (i < N) = true := decide_eq_true hlt
        have hii : (i : Int) < (N : Int) := by omega
        have hik : i < l.length := by rw [← HN.out]; exact hlt
        have hil : i < (ndsOf l).length := by rw [ndsOf_len]; exact hik
        have hokn := okD_mem HOK.out (List.getElem_mem hik)
        have hjs := HBG.out _ (List.getElem_mem hik)
        have HTN : Hid (preD (sepA any) ((ndsOf l).take (i + 1)) = preD (sepA any) ((ndsOf l).take i) ++ (if i = 0 then [] else [sepA any]) ++ needT (toNd l[i])) := by
          have := preD_next (sepA any) (ndsOf l) hil
          rw [show (ndsOf l)[i] = toNd l[i] by simp [ndsOf]] at this
          exact this
        have HAT : Hid (∀ wq, Below X.heap.size X wq → ∃ b off, a = some ⟨b, off, none⟩ ∧ wq.cell? ⟨b, off + i * 2, none⟩ = some (.int .i64 l[i].1) ∧ wq.cell? ⟨b, off + i * 2 + 1, none⟩ = some l[i].2.1 ∧ URow wq l[i].2.1 l[i].2.2) := fun wq hb => by
          obtain ⟨b, off, e, x0, x1, hu, _⟩ := NRw.at HL.out hb hik
          exact ⟨b, off, e, x0, x1, hu⟩
        obtain ⟨p, hp⟩ : ∃ p, p = l[i] := ⟨_, rfl⟩
        rw [← hp] at hokn hjs HTN HAT
        obtain ⟨k, pv, js⟩ := p
        unfold toNd at hokn HTN
        dsimp only at hokn hjs HTN HAT
        have hj20 : js.length ≤ 20 := by
          rcases hokn with ⟨_, _, _, h4, _⟩ | ⟨_, h4⟩
          · exact h4
          · dsimp only at h4; omega
        obtain ⟨bb, off, ea, _, _, hu0⟩ := HAT.out X (Below.refl _ _)
        obtain ⟨pa, pc, hpe⟩ := hu0.slice
        obtain ⟨M, hMM⟩ : ∃ M, M = js.length := ⟨_, rfl⟩
        have HM := Lib.hid hMM
        rw [← hMM] at hpe hj20
        subst ea
        subst hpe
        have HAT2 : Hid (∀ wq, Below X.heap.size X wq → wq.cell? ⟨bb, off + i * 2, none⟩ = some (.int .i64 k) ∧ wq.cell? ⟨bb, off + i * 2 + 1, none⟩ = some (.slice pa M pc) ∧ URow wq (.slice pa M pc) js) := fun wq hb => by
          obtain ⟨b, o, e, x0, x1, hu⟩ := HAT.out wq hb
          injection e with e; injection e with e1 e2; subst e1; subst e2
          exact ⟨x0, x1, hu⟩
        have HJS := Lib.hid hjs
        clear hjs hokn hu0 hMM HAT hp hil
        obtain ⟨w9, hw9⟩ : ∃ x, x = wr := ⟨_, rfl⟩
        subst hw9
        go_upto_region 8 with fail
        go_cut [25] from 20 to 25 (fun bv wx => ∃ β : Bool, bv = .bool β ∧ Hid (β = (decide (0 < i) && any)) ∧ Hid (w9 = wx))
        case first =>
          by_cases h0 : i = 0
          · have q1 : decide ((i : Int) > 0) = false := decide_eq_false (by omega)
            have q2 : decide (0 < i) = false := decide_eq_false (by omega)
            clear h0
            go_wp2_with fail
            go_meet
            exact ⟨false, rfl, by unfold Hid; rw [q2]; rfl, rfl⟩
          · have q1 : decide ((i : Int) > 0) = true := decide_eq_true (by omega)
            have q2 : decide (0 < i) = true := decide_eq_true (by omega)
            clear h0
            go_wp2_with fail
            go_meet
            exact ⟨any, rfl, by unfold Hid; rw [q2]; rfl, rfl⟩
        case rest =>
        obtain ⟨β, rfl, HBE, hw⟩ := hcut
        replace hw := hw.out
        subst hw
        go_upto_if 25 with fail
        go_cut [5] (fun tv wx => ∃ T2 : ByteArray, tv = .string T2 ∧ T2.size ≤ 240 * i + 1 ∧ Hid (T2 = strB (preD (sepA any) ((ndsOf l).take i) ++ (if i = 0 then [] else [sepA any]))) ∧ Hid (w9 = wx))
        case first =>
          by_cases h0 : i = 0
          · have q1 : decide ((i : Int) > 0) = false := decide_eq_false (by omega)
            have q2 : decide (0 < i) = false := decide_eq_false (by omega)
            have q3 : β = false := by rw [HBE.out, q2]; rfl
            subst q3
            have HE : Hid (T = strB (preD (sepA any) ((ndsOf l).take i) ++ (if i = 0 then [] else [sepA any]))) := by unfold Hid; rw [if_pos h0, List.append_nil]; exact HTT.out
            clear h0
            go_wp2_with fail
            go_meet
            exact ⟨T, rfl, by omega, HE.out, rfl⟩
          · have q1 : decide ((i : Int) > 0) = true := decide_eq_true (by omega)
            have q2 : decide (0 < i) = true := decide_eq_true (by omega)
            have HE : Hid (T ++ strB [sepA any] = strB (preD (sepA any) ((ndsOf l).take i) ++ (if i = 0 then [] else [sepA any]))) := by unfold Hid; rw [if_neg h0, HTT.out, strB_app]
            have q3 : β = any := by rw [HBE.out, q2]; rfl
            subst q3
            clear h0
            cases β
            · go_wp2_with fail
              go_meet
              exact ⟨_, rfl, by simp only [ByteArray.size_append]; show _ + 1 ≤ _; omega, HE.out, rfl⟩
            · go_wp2_with fail
              go_meet
              exact ⟨_, rfl, by simp only [ByteArray.size_append]; show _ + 1 ≤ _; omega, HE.out, rfl⟩
        case rest =>
        clear HTT HBE hTs
        obtain ⟨T2, rfl, hT2, HT2, hw⟩ := hcut
        replace hw := hw.out
        subst hw
        obtain ⟨x0, x1, hu⟩ := HAT2.out _ HB.out
        have WD := Lib.hid (word_any k w9)
        obtain ⟨K, hK⟩ : ∃ K, K = strB (kindT k) := ⟨_, rfl⟩
        have hKs : K.size ≤ 10 := by rw [hK, strB_size]; exact kindT_len _
        rw [← hK] at WD
        have HTI : Hid (∀ q (h : q < js.length), jobsT (js.take (q + 1)) = jobsT (js.take q) ++ 58 :: Lib.decDigits js[q]) := fun q h => jobsT_take js h
        have HIN : Hid (T2 ++ K = strB (preD (sepA any) ((ndsOf l).take i) ++ (if i = 0 then [] else [sepA any]) ++ kindT k)) := by unfold Hid; rw [HT2.out, hK, strB_app]
        clear hu hK HT2
        go_wp2_with fail
        refine WD.out.mono ?_; rintro e w5 ⟨rfl, hw5⟩
        subst hw5
        go_wp2_with fail
        go_loopw [5, 7] (fun tv qv wr => ∃ (q : Nat) (T : ByteArray), q ≤ M ∧ qv = .int .i64 (q : Nat) ∧ tv = .string T ∧ T.size ≤ 240 * i + 11 + 11 * q ∧ Hid (T = strB (preD (sepA any) ((ndsOf l).take i) ++ (if i = 0 then [] else [sepA any]) ++ kindT k ++ jobsT (js.take q))) ∧ Hid (Below X.heap.size X wr)) (fun _ qv _ => M - (RowKit.intOf qv).toNat)
        case atStart => exact ⟨0, _, Nat.zero_le _, rfl, rfl, by simp only [ByteArray.size_append]; omega, by unfold Hid; rw [HIN.out]; simp [jobsT], HB.out⟩
        case round =>
          clear HB yy1 yy0 x0 x1
          obtain ⟨q, T, hq, rfl, rfl, hTs, HTT, HB⟩ := hrel
          have yy1 := cell_next HB.out y1
          obtain ⟨x0, x1, hu⟩ := HAT2.out _ HB.out
          by_cases hql : q < M
          · have q1 : decide ((q : Int) < (M : Int)) = true := decide_eq_true (by omega)
            have q1' : decide (q < M) = true := decide_eq_true hql
            have qii : (q : Int) < (M : Int) := by omega
            have hqj : q < js.length := by rw [← HM.out]; exact hql
            obtain ⟨b2, off2, e, hc2⟩ := RowG.at hu hqj
            subst e
            have u0 := hc2 wr (Below.refl _ _) 0 _ rfl
            simp only [Nat.mul_one, Nat.add_zero] at u0
            have HTQ := HTI.out q hqj
            have hj4 := HJS.out _ (List.getElem_mem hqj)
            obtain ⟨j, hj⟩ : ∃ x, x = js[q] := ⟨_, rfl⟩
            rw [← hj] at u0 HTQ hj4
            have FU := Lib.hid (digits_any j wr (by omega))
            have hds := digS_len 9 j (by omega)
            have HTN2 : Hid (T ++ ⟨#[58]⟩ ++ digS j = strB (preD (sepA any) ((ndsOf l).take i) ++ (if i = 0 then [] else [sepA any]) ++ kindT k ++ jobsT (js.take (q + 1)))) := by
              unfold Hid
              rw [HTQ, HTT.out, digS_strB, show (⟨#[58]⟩ : ByteArray) = strB [58] from rfl, strB_app, strB_app]
              simp
            clear hc2 hj HTQ HTT hu
            go_wp2_with fail
            refine FU.out.mono ?_; rintro e w5 ⟨rfl, b5⟩
            have HB5 : Hid (Below X.heap.size X w5) := below_next b5 HB.out
            clear b5 FU
            go_wp2_with fail
            go_roundw
            case rel => exact ⟨q + 1, _, hql, by go_num, rfl, by simp only [ByteArray.size_append]; show _ + 1 + _ ≤ _; omega, HTN2.out, HB5.out⟩
            case measure => simp [RowKit.intOf]; omega
          · have q1 : decide ((q : Int) < (M : Int)) = false := decide_eq_false (by omega)
            have q1' : decide (q < M) = false := decide_eq_false hql
            have hqM : q = js.length := by rw [← HM.out]; omega
            have HTE : Hid (T = strB (preD (sepA any) ((ndsOf l).take (i + 1)))) := by
              unfold Hid
              rw [HTN.out, HTT.out, hqM, List.take_length]
              unfold needT
              simp
            clear hqM HTT hu
            go_wp2_with fail
            go_roundw
            case rel => exact ⟨i + 1, T, by go_num, rfl, hlt, by omega, HTE.out, HB.out⟩
            case measure => simp [RowKit.intOf]; omega
      · have d1 : decide ((i : Int) < (N : Int)) = false := decide_eq_false (by omega)
        have d1' : decide (i < N) = false := decide_eq_false hlt
        obtain rfl : i = N := by omega
        have hjt : (ndsOf l).take i = ndsOf l := List.take_of_length_le (by rw [ndsOf_len]; exact Nat.le_of_eq HN.out.symm)
        have HE : Hid (T = R) := by unfold Hid; rw [HTT.out, hjt, preD_eq, HR.out]
        have HBW : Hid (Below w.heap.size w wr) := below_next HB.out HBX.out
        clear hjt HTT
        go_wp2_with fail
        go_ret2
        exact ⟨by rw [HE.out]; rfl, HBW.out⟩
  · have hck : chkD any (ndsOf l) = 2 := by unfold chkD; rw [if_neg hok]
    rw [hck] at CK
    have HPR : printD any (ndsOf l) = ([], 2) := if_neg hok
    rw [HPR]
    clear hck hok
    go_enter Tryd.func15, Tryd.ntmps15
    go_upto_region 1 with fail
    rw [← HGX.out, ← HXX.out]
    go_wp2_with fail
    refine CK.out.mono ?_; rintro e w1 ⟨rfl, b1⟩
    have HB5 := Lib.hid (below_next b1 HBX.out)
    clear b1 CK
    go_wp2_with fail
    go_ret2
    exact ⟨rfl, HB5.out⟩
end Go.Proofs.YtpobghdiecfoaaaDoor
