/-
  ShareChildren: children's norms are together at most their parent's, and less than that by fewer than there are children; one's sum is at least each child's; the first one's is at least everybody's: so the law returns true for every input, the listed tables of Go's library reading as the program's text lays them.
-/
import Derived.Test.YtbnlmeegepgioaaDoorShKn2
import Derived.Test.YtbnlmeegepgioaaDoorShPl
import Derived.Test.YtbnlmeegepgioaaDoorRows
import Derived.Test.YtbnlmeegepgioaaDoorArgs2
import Derived.Test.YtbnlmeegepgioaaDoorLaid
import Derived.Test.YtbnlmeegepgioaaDoorCards
import Derived.Test.YtbnlmeegepgioaaDoorTie
import Derived.MakeChecks
import Derived.SevenTiedAt
namespace Go.Proofs.YtbnlmeegepgioaaDoor.shareChildren
open Go.ChangeShapes Go.WideShapes Go.ChangeAt Go.RowKit
set_option linter.unusedVariables false

theorem own : ownKnob Tryd.prog.godebug = none := by kernel_rfl

open Go Go.RowKit Go.Lib in
set_option maxRecDepth 100000 in
set_option maxHeartbeats 8000000 in
theorem walk (v0 : Value) (l : List AcT) (v1 : Value) (os : List Int) (w : World) (hE : U8W w) (h0 : AcArg w v0 l) (h1 : IntsArg w .i64 v1 os) :
    Calls Tryd.prog 6 #[v0, v1] w fun e w' => e = .returned (.bool true) ∧ Below w.heap.size w w' := by
  have K : Hid (∀ w1, Below w.heap.size w w1 → Calls Tryd.prog 11 #[] w1 fun e w' => e = .returned (.bool true) ∧ Below w1.heap.size w1 w') := fun w1 hb => known11_any w1 (hE.next hb)
  obtain ⟨hv, hm, hs⟩ := acarg_parts h0
  have ho := grow_of_ints h1
  have hol := ints_len h1
  have htop := ints_top h1
  obtain ⟨oa, oc, rfl⟩ := ho.slice
  have MN := Lib.hid (many11_any v0 l oa os.length oc w hv hm hs hol)
  have HMN : Hid (manyA l os.length = false → l.length ≤ 60 ∧ os.length ≤ 100 ∧ ∀ p ∈ l, Short p.1 ∧ Short p.2.1) := many_no
  obtain ⟨en, hcn⟩ := sh_code l (zerosI l.length)
  obtain ⟨er, hc⟩ := sh_code l os
  have NO : Hid (l.length ≤ 60 → (∀ p ∈ l, Short p.1 ∧ Short p.2.1) → ∀ w1, Below w.heap.size w w1 → Calls Tryd.prog 16 #[v0] w1 fun e w' => ∃ v, e = .returned (.tuple #[v, .int .i64 en]) ∧ NOwn w' w1.heap.size v (if en = 0 then rowI (normI l) l.length else []) ∧ Below w1.heap.size w1 w') := fun hn hs w1 hb =>
    (norms_any v0 l w1 (hv.kept hb) hs (hE.next hb) (by omega)).mono fun e w' h => h.with hcn
  have SU : Hid (os.length ≤ 100 → (∀ p ∈ l, Short p.1 ∧ Short p.2.1) → ∀ w1, Below w.heap.size w w1 → Calls Tryd.prog 13 #[v0, .slice oa os.length oc] w1 fun e w' => ∃ v, e = .returned (.tuple #[v, .int .i64 er]) ∧ NOwn w' w1.heap.size v (if er = 0 then rowI (sumI l (ownN os)) l.length else []) ∧ Below w1.heap.size w1 w') := fun hn hs w1 hb =>
    (sums_any v0 _ l os w1 (hv.kept hb) hs (hE.next hb) (ho.kept hb) (by omega) (fun x hx => (htop x hx).2)).mono fun e w' h => h.with hc
  have HO := Lib.hid ho
  have HTOP := Lib.hid htop
  have HV := Lib.hid hv
  have HCN := Lib.hid hcn
  have HC := Lib.hid hc
  obtain ⟨ON, hON⟩ : ∃ N, N = os.length := ⟨_, rfl⟩
  rw [← hON] at MN HMN SU HO ⊢
  have HON := Lib.hid hON
  obtain ⟨va, vc, rfl⟩ := hv.slice
  obtain ⟨M, hM⟩ : ∃ M, M = manyA l ON := ⟨_, rfl⟩
  rw [← hM] at MN HMN
  obtain ⟨LN, hLN⟩ : ∃ N, N = l.length := ⟨_, rfl⟩
  rw [← hLN] at MN HMN NO SU HV ⊢
  have HLN := Lib.hid hLN
  clear hE h0 h1 hv hm hs ho hol htop hcn hc hON hM hLN
  cases M
  case true =>
    clear HMN NO SU
    go_enter Tryd.func6, Tryd.ntmps6
    go_wp2_with fail
    refine MN.out.mono ?_; rintro e w1 ⟨rfl, b1⟩
    have B1 := Lib.hid b1
    clear b1
    go_wp2_with fail
    refine (K.out _ B1.out).mono ?_; rintro e w2 ⟨rfl, b2⟩
    have B2 := Lib.hid (below_next b2 B1.out)
    clear b2
    go_wp2_with fail
    go_ret
    exact ⟨rfl, B2.out⟩
  case false =>
    obtain ⟨hl60, ho100, hsh⟩ := HMN.out rfl
    have NO2 := Lib.hid (NO.out hl60 hsh)
    have SU2 := Lib.hid (SU.out ho100 hsh)
    clear HMN NO SU hsh
    by_cases hA : AccOk l
    · have hen : en = 0 := HCN.out.det (.inl ⟨rfl, hA, zeros_ok l⟩)
      have h1n : 1 ≤ LN := by rw [HLN.out]; exact hA.1
      have h50 : LN ≤ 50 := by rw [HLN.out]; exact hA.2.1
      have NO3 : Hid (∀ w1, Below w.heap.size w w1 → Calls Tryd.prog 16 #[.slice va LN vc] w1 fun e w' => ∃ v, e = .returned (.tuple #[v, .int .i64 0]) ∧ NOwn w' w1.heap.size v (rowI (normI l) LN) ∧ Below w1.heap.size w1 w') := by
        have h := NO2.out
        rw [if_pos hen, hen] at h
        exact h
      by_cases hO : OwnOk l os
      · have her : er = 0 := HC.out.det (.inl ⟨rfl, hA, hO⟩)
        have SU3 : Hid (∀ w1, Below w.heap.size w w1 → Calls Tryd.prog 13 #[.slice va LN vc, .slice oa ON oc] w1 fun e w' => ∃ v, e = .returned (.tuple #[v, .int .i64 0]) ∧ NOwn w' w1.heap.size v (rowI (sumI l (ownN os)) LN) ∧ Below w1.heap.size w1 w') := by
          have h := SU2.out
          rw [if_pos her, her] at h
          exact h
        have hOL : ON = LN := by rw [HON.out, HLN.out]; exact hO.1
        subst hOL
        have HA := Lib.hid (Tree.mk' hA)
        have HOO := Lib.hid hO
        have hob : Hid (∃ bo oo, oa = some ⟨bo, oo, none⟩ ∧ ∀ i, i < ON → w.cell? ⟨bo, oo + i, none⟩ = some (.int .i64 (ownN os i : Nat)) ∧ ownN os i ≤ 9223372036854775807) := by
          rcases HO.out with ⟨h1, a, c, h2⟩ | ⟨bo, oo, c, h1, h2⟩
          · rw [h1] at HON; have := HON.out; simp at this; omega
          · injection h1 with h1
            refine ⟨bo, oo, h1, fun i hi => ?_⟩
            have hi' : i < os.length := by rw [← HON.out]; exact hi
            have hm : os.getD i 0 ∈ os := by rw [List.getD_eq_getElem?_getD, List.getElem?_eq_getElem hi']; exact List.getElem_mem hi'
            have h3 := hO.2 _ hm
            have h4 := HTOP.out _ hm
            have e : os.getD i 0 = (ownN os i : Nat) := by unfold ownN; omega
            rw [← e]
            exact ⟨h2 i hi', by omega⟩
        obtain ⟨bA, oA, hva, _⟩ := rowG_all HV.out (by rw [← HLN.out]; exact h1n)
        subst hva
        obtain ⟨bo, oo, hoa, hoc⟩ := hob.out
        subst hoa
        have HOC := Lib.hid hoc
        clear hA hen hO her NO2 SU2 hob hoc HO HCN HC HTOP
        go_enter Tryd.func6, Tryd.ntmps6
        go_wp2_with fail
        refine MN.out.mono ?_; rintro e w1 ⟨rfl, b1⟩
        have B1 := Lib.hid b1
        clear b1 MN
        go_wp2_with fail
        refine (NO3.out _ B1.out).mono ?_; rintro e w2 ⟨rn, rfl, hr, b2⟩
        have B2 := Lib.hid (below_next b2 B1.out)
        obtain ⟨gn, cn, hve, _, _, _, _, _⟩ := nown_parts hr (by rw [rowI_len]; exact h1n)
        subst hve
        rw [rowI_len] at hr ⊢
        have hcn : ∀ i, i < ON → w2.cell? ⟨gn, i, none⟩ = some (.int .i64 (normI l i : Nat)) := fun i hi => by
          have h := (nown_cell hr (k := i) (by rw [rowI_len]; exact hi)).1
          rwa [rowI_at _ hi] at h
        have CN2 := Lib.hid hcn
        clear b2 hr hcn NO3
        go_wp2_with fail
        refine (SU3.out _ B2.out).mono ?_; rintro e w3 ⟨rs, rfl, hr, b3⟩
        have B3 := Lib.hid (below_next b3 B2.out)
        obtain ⟨gs, cs, hve, _, _, _, _, _⟩ := nown_parts hr (by rw [rowI_len]; exact h1n)
        subst hve
        rw [rowI_len] at hr ⊢
        have CS3 : Hid (∀ i, i < ON → w3.cell? ⟨gs, i, none⟩ = some (.int .i64 (sumI l (ownN os) i : Nat))) := fun i hi => by
          have h := (nown_cell hr (k := i) (by rw [rowI_len]; exact hi)).1
          rwa [rowI_at _ hi] at h
        have CN3 : Hid (∀ i, i < ON → w3.cell? ⟨gn, i, none⟩ = some (.int .i64 (normI l i : Nat))) := fun i hi => cell_next b3 (CN2.out i hi)
        clear b3 hr SU3 CN2
        go_wp2_with fail
        go_loopw [9] (fun iv wr => ∃ i : Nat, i ≤ ON ∧ iv = .int .i64 i ∧ Hid (Below w3.heap.size w3 wr)) (fun iv _ => ON - (RowKit.intOf iv).toNat)
        case atStart => exact ⟨0, Nat.zero_le _, rfl, Below.refl _ _⟩
        case round =>
          obtain ⟨i, hi, rfl, HB⟩ := hrel
          by_cases hlt : i < ON
          · have hd : decide (i < ON) = true := decide_eq_true hlt
            have hii : (i : Int) < (ON : Int) := by omega
            have hil : i < l.length := by rw [← HLN.out]; exact hlt
            have hsU : Hid (∀ k, k < l.length → (upI l k = nmI l i ↔ 0 < k ∧ parI l k = i)) := fun k hk => HA.out.isUp hk hil
            have hch := ch_le HA.out i
            have hcl := fun h => ch_lt HA.out i h
            have hnb := normI_le HA.out i i (Nat.le_refl _) hil
            have hst := sumI_top HA.out (ownN os) hil
            have how := own_le l (ownN os) i (HOC.out i hlt).2
            have HMO : Hid (∀ j, j ≤ ON → chN l i j ≤ 65536 ∧ chK l i j ≤ 50) := fun j hj => by
              have h1 : chN l i j ≤ chN l i l.length := sumN_mono (by rw [← HLN.out]; exact hj)
              have h2 : chK l i j ≤ j * 1 := sumN_le fun k _ => by split <;> omega
              exact ⟨by omega, by omega⟩
            have HCI := Lib.hid (fun w1 (h1 : Below w.heap.size w w1) => ac_cells HA.out HV.out hil h1)
            rw [← HLN.out] at hch hcl
            have HCH := Lib.hid hch
            have HCL := Lib.hid hcl
            have HNB := Lib.hid hnb
            have HSTt := Lib.hid hst
            have HOW := Lib.hid how
            clear hch hcl hnb hst how hil
            go_wp2_with fail
            go_loopw [10, 11, 12] (fun av kv jv wr => ∃ j A C : Nat, j ≤ ON ∧ jv = .int .i64 j ∧ av = .int .i64 A ∧ kv = .int .i64 C ∧ A ≤ 65536 ∧ C ≤ 50 ∧ Hid (A = chN l i j) ∧ Hid (C = chK l i j) ∧ Hid (Below w3.heap.size w3 wr)) (fun _ _ jv _ => ON - (RowKit.intOf jv).toNat)
            case atStart => exact ⟨0, 0, 0, Nat.zero_le _, rfl, rfl, rfl, by omega, by omega, rfl, rfl, HB⟩
            case round =>
              obtain ⟨j, A, C, hj, rfl, rfl, rfl, hA6, hC5, HAA, HCC, HBr⟩ := hrel
              by_cases hjt : j < ON
              · have hd2 : decide (j < ON) = true := decide_eq_true hjt
                have hji : (j : Int) < (ON : Int) := by omega
                have hjl : j < l.length := by rw [← HLN.out]; exact hjt
                have hBw : Below w.heap.size w wr := B3.out.trans (HBr.out.mono B3.out.size)
                obtain ⟨i0, i1, i2⟩ := HCI.out wr hBw
                obtain ⟨k0, k1, k2⟩ := ac_cells HA.out HV.out hjl hBw
                have cn := cell_next HBr.out (CN3.out j hjt)
                have sj := cell_next HBr.out (CS3.out j hjt)
                have si := cell_next HBr.out (CS3.out i hlt)
                have hu := hsU.out j hjl
                have hup := fun h0 => sumI_up HA.out (ownN os) hjl h0
                have hmo := HMO.out (j + 1) hjt
                have e2 : chN l i (j + 1) = chN l i j + if 0 < j ∧ parI l j = i then normI l j else 0 := rfl
                have e3 : chK l i (j + 1) = chK l i j + if 0 < j ∧ parI l j = i then 1 else 0 := rfl
                rw [← HAA.out] at e2
                rw [← HCC.out] at e3
                have hnj := normI_le HA.out j j (Nat.le_refl _) hjl
                have hsj9 : sumI l (ownN os) j ≤ 9223372036854775807 := cap_le _
                have hsi9 : sumI l (ownN os) i ≤ 9223372036854775807 := cap_le _
                obtain ⟨uk, huk⟩ : ∃ x, x = upI l j := ⟨_, rfl⟩
                obtain ⟨nm, hnm⟩ : ∃ x, x = nmI l i := ⟨_, rfl⟩
                obtain ⟨N, hN⟩ : ∃ x, x = normI l j := ⟨_, rfl⟩
                rw [← huk] at k1 hu
                rw [← hnm] at i0 hu
                rw [← hN] at cn e2 hnj
                clear huk hnm hN k0 k2 i1 i2 hjl hBw
                by_cases q : uk = nm
                · have q1 : (uk.toList == nm.toList) = true := by rw [str_beq]; exact decide_eq_true q
                  have hpar := hu.1 q
                  have hle := hup hpar.1
                  rw [hpar.2] at hle
                  rw [if_pos hpar] at e2 e3
                  have hAN : A + N ≤ 65536 := by omega
                  have hC1 : C + 1 ≤ 50 := by omega
                  have HA2 : Hid (A + N = chN l i (j + 1)) := e2.symm
                  have HC2 : Hid (C + 1 = chK l i (j + 1)) := e3.symm
                  obtain ⟨SJ, hSJ⟩ : ∃ x, x = sumI l (ownN os) j := ⟨_, rfl⟩
                  obtain ⟨SI, hSI⟩ : ∃ x, x = sumI l (ownN os) i := ⟨_, rfl⟩
                  rw [← hSJ] at sj hle hsj9
                  rw [← hSI] at si hle hsi9
                  have g1 : decide ((SJ : Int) > (SI : Int)) = false := decide_eq_false (by omega)
                  have g2 : decide (SI < SJ) = false := decide_eq_false (by omega)
                  clear hSJ hSI hu q hup e2 e3 hmo hpar hnj
                  go_upto_region 17 with fail
                  go_quiet (fail)
                  go_upto_region 20 with fail
                  have cn2 := True.intro
                  go_quiet (fail)
                  go_wp2_with fail
                  go_roundw
                  case rel => exact ⟨j + 1, A + N, C + 1, hjt, by go_num, by go_num, by go_num, hAN, hC1, HA2, HC2, by first | exact below_drewN (below_drewN HBr.out _) _ | exact below_drewN HBr.out _⟩
                  case measure => simp [RowKit.intOf]; omega
                · have q1 : (uk.toList == nm.toList) = false := by rw [str_beq]; exact decide_eq_false q
                  rw [if_neg (fun h => q (hu.2 h))] at e2 e3
                  have HA2 : Hid (A = chN l i (j + 1)) := e2.symm
                  have HC2 : Hid (C = chK l i (j + 1)) := e3.symm
                  clear hu q hup e2 e3 hmo hnj cn sj si
                  go_upto_region 17 with fail
                  go_quiet (fail)
                  go_wp2_with fail
                  go_roundw
                  case rel => exact ⟨j + 1, A, C, hjt, by go_num, rfl, rfl, hA6, hC5, HA2, HC2, below_drewN HBr.out _⟩
                  case measure => simp [RowKit.intOf]; omega
              · have hd2 : decide (j < ON) = false := decide_eq_false hjt
                have hji : ¬ (j : Int) < (ON : Int) := by omega
                have hjn : j = ON := by omega
                subst hjn
                have hBw : Below w.heap.size w wr := B3.out.trans (HBr.out.mono B3.out.size)
                have ni := cell_next HBr.out (CN3.out i hlt)
                have si := cell_next HBr.out (CS3.out i hlt)
                have s0 := cell_next HBr.out (CS3.out 0 h1n)
                have oi := cell_next hBw (HOC.out i hlt).1
                have h1 := HCH.out
                have h2 := HCL.out
                have h3 := HSTt.out
                have h4 := HOW.out
                have h5 := HNB.out
                rw [← HAA.out] at h1 h2
                rw [← HCC.out] at h2
                have hs0 : sumI l (ownN os) 0 ≤ 9223372036854775807 := cap_le _
                obtain ⟨N, hN⟩ : ∃ x, x = normI l i := ⟨_, rfl⟩
                obtain ⟨SI, hSI⟩ : ∃ x, x = sumI l (ownN os) i := ⟨_, rfl⟩
                obtain ⟨S0, hS0⟩ : ∃ x, x = sumI l (ownN os) 0 := ⟨_, rfl⟩
                obtain ⟨O, hO⟩ : ∃ x, x = ownN os i := ⟨_, rfl⟩
                rw [← hN] at ni h1 h2 h5
                rw [← hSI] at si h3 h4
                rw [← hS0] at s0 h3 hs0
                rw [← hO] at oi h4
                have f1 : decide ((A : Int) > (N : Int)) = false := decide_eq_false (by omega)
                have f2 : decide (N < A) = false := decide_eq_false (by omega)
                have f3 : decide ((SI : Int) < (O : Int)) = false := decide_eq_false (by omega)
                have f4 : decide (SI < O) = false := decide_eq_false (by omega)
                have f5 : decide ((SI : Int) > (S0 : Int)) = false := decide_eq_false (by omega)
                have f6 : decide (S0 < SI) = false := decide_eq_false (by omega)
                have h0n : (0 : Int) < (j : Int) := by omega
                have h0m : 0 < j := by omega
                by_cases hc : 0 < C
                · have f7 : decide (0 < C) = true := decide_eq_true hc
                  have f8 : decide ((C : Int) > 0) = true := decide_eq_true (by omega)
                  have h6 := h2 hc
                  have f9 : decide ((A : Int) + (C : Int) ≤ (N : Int)) = false := decide_eq_false (by omega)
                  have f10 : decide (A + C ≤ N) = false := decide_eq_false (by omega)
                  clear hN hSI hS0 hO h1 h2 h3 h4 h6
                  go_upto_region 22 with fail
                  go_quiet (fail)
                  go_wp2_with fail
                  go_roundw
                  case rel => exact ⟨i + 1, hlt, by go_num, below_drewN HBr.out _⟩
                  case measure => simp [RowKit.intOf]; omega
                · have f7 : decide (0 < C) = false := decide_eq_false hc
                  have f8 : decide ((C : Int) > 0) = false := decide_eq_false (by omega)
                  clear hN hSI hS0 hO h1 h2 h3 h4
                  go_upto_region 22 with fail
                  go_quiet (fail)
                  go_wp2_with fail
                  go_roundw
                  case rel => exact ⟨i + 1, hlt, by go_num, below_drewN HBr.out _⟩
                  case measure => simp [RowKit.intOf]; omega
          · have hd : decide (i < ON) = false := decide_eq_false hlt
            have hii : ¬ (i : Int) < (ON : Int) := by omega
            have BW : Hid (Below w.heap.size w wr) := B3.out.trans (HB.out.mono B3.out.size)
            clear hlt hi
            go_wp2_with fail
            refine (K.out _ BW.out).mono ?_; rintro e w4 ⟨rfl, b4⟩
            have B4 := Lib.hid (below_next b4 BW.out)
            clear b4
            go_wp2_with fail
            go_ret
            exact ⟨rfl, B4.out⟩

      · have her : er = 2 := HC.out.det (.inr (.inr ⟨rfl, hA, hO⟩))
        have SU3 : Hid (∀ w1, Below w.heap.size w w1 → Calls Tryd.prog 13 #[.slice va LN vc, .slice oa ON oc] w1 fun e w' => ∃ v, e = .returned (.tuple #[v, .int .i64 2]) ∧ NOwn w' w1.heap.size v [] ∧ Below w1.heap.size w1 w') := by
          have h := SU2.out
          rw [if_neg (by rw [her]; decide), her] at h
          exact h
        clear NO2 SU2
        go_enter Tryd.func6, Tryd.ntmps6
        go_wp2_with fail
        refine MN.out.mono ?_; rintro e w1 ⟨rfl, b1⟩
        have B1 := Lib.hid b1
        clear b1 MN
        go_wp2_with fail
        refine (NO3.out _ B1.out).mono ?_; rintro e w2 ⟨rn, rfl, hr, b2⟩
        have B2 := Lib.hid (below_next b2 B1.out)
        obtain ⟨ga, ca, rfl⟩ := own_slice hr
        rw [rowI_len]
        clear b2 hr NO3
        go_wp2_with fail
        refine (SU3.out _ B2.out).mono ?_; rintro e w3 ⟨rs, rfl, hr, b3⟩
        have B3 := Lib.hid (below_next b3 B2.out)
        obtain ⟨gs, cs, rfl⟩ := own_slice hr
        clear b3 hr SU3
        go_wp2_with fail
        refine (K.out _ B3.out).mono ?_; rintro e w4 ⟨rfl, b4⟩
        have B4 := Lib.hid (below_next b4 B3.out)
        clear b4
        go_wp2_with fail
        go_ret
        exact ⟨rfl, B4.out⟩

    · have hen : en = 100 := HCN.out.det (.inr (.inl ⟨rfl, hA⟩))
      have her : er = 100 := HC.out.det (.inr (.inl ⟨rfl, hA⟩))
      have NO3 : Hid (∀ w1, Below w.heap.size w w1 → Calls Tryd.prog 16 #[.slice va LN vc] w1 fun e w' => ∃ v, e = .returned (.tuple #[v, .int .i64 100]) ∧ NOwn w' w1.heap.size v [] ∧ Below w1.heap.size w1 w') := by
        have h := NO2.out
        rw [if_neg (by rw [hen]; decide), hen] at h
        exact h
      have SU3 : Hid (∀ w1, Below w.heap.size w w1 → Calls Tryd.prog 13 #[.slice va LN vc, .slice oa ON oc] w1 fun e w' => ∃ v, e = .returned (.tuple #[v, .int .i64 100]) ∧ NOwn w' w1.heap.size v [] ∧ Below w1.heap.size w1 w') := by
        have h := SU2.out
        rw [if_neg (by rw [her]; decide), her] at h
        exact h
      clear NO2 SU2
      go_enter Tryd.func6, Tryd.ntmps6
      go_wp2_with fail
      refine MN.out.mono ?_; rintro e w1 ⟨rfl, b1⟩
      have B1 := Lib.hid b1
      clear b1 MN
      go_wp2_with fail
      refine (NO3.out _ B1.out).mono ?_; rintro e w2 ⟨rn, rfl, hr, b2⟩
      have B2 := Lib.hid (below_next b2 B1.out)
      obtain ⟨ga, ca, rfl⟩ := own_slice hr
      rw [List.length_nil]
      clear b2 hr NO3
      go_wp2_with fail
      refine (SU3.out _ B2.out).mono ?_; rintro e w3 ⟨rs, rfl, hr, b3⟩
      have B3 := Lib.hid (below_next b3 B2.out)
      obtain ⟨gs, cs, rfl⟩ := own_slice hr
      clear b3 hr SU3
      go_wp2_with fail
      refine (K.out _ B3.out).mono ?_; rintro e w4 ⟨rfl, b4⟩
      have B4 := Lib.hid (below_next b4 B3.out)
      clear b4
      go_wp2_with fail
      go_ret
      exact ⟨rfl, B4.out⟩



set_option maxRecDepth 100000 in
theorem lifted (os : Os) (started : os.Started) (H : Type) (enc : TypeId × Value → H) :
    ReturnsInHanded {} Tryd.checked os 6 .any (fun w args => (Rows.shareChildrenSpec.pre enc Tryd.prog Tryd.f6 Rows.shareChildrenRow.domain false w args ∧ laidMetH Tryd.prog laid11 w) ∧ sizedMet enc Tryd.prog Tryd.f6 (OpenSpec.ofChange Rows.shareChildrenSpec) false w args) (Rows.shareChildrenSpec.post enc Tryd.prog Tryd.f6 false true false false) := by
  refine laid_lift (C := Tryd.checked) (X := fun w _ => laidMetH Tryd.prog laid11 w) (fun _ _ _ hh h => h.of_heap hh) own started (by kernel_rfl) Tryd.func6
    (ChangeSpec.witness_shaped (enc := enc) (C := Tryd.checked) (os := os) (X := fun w _ => laidMetH Tryd.prog laid11 w) false (World.laidAll Tryd.prog os laid11) #[.slice none 0 0, .slice none 0 0] 8 (World.laidAll_os _ _ _)
      (World.shaped_of_ZipB (by kernel_rfl) (by kernel_rfl)) (by kernel_rfl) (by kernel_rfl) (by kernel_rfl)
      (by rw [MakeChecks.laidMetH_plain _ _ _ (by kernel_rfl)]; exact laidMet_laidAll _ (by kernel_rfl) (by kernel_rfl))) ?_
  intro W base args ds gs before hval0 hW hsz0 hL hS
  have hE := env11_of hL hS
  have hval : ∀ (j : Nat) t v, Tryd.f6.params[j]? = some t → args[j]? = some v → Value.okWide Tryd.prog W .any base t v := hval0
  have hW' := hW
  obtain ⟨p, q, hA0, hV, rfl, hfz, hnd⟩ := hW
  have hA : DataW.TrodAll enc Tryd.prog W 0 (fun _ => true) true Tryd.f6.params.toList args.toList ds p := hA0
  rw [Tryd.params6] at hA hval
  obtain ⟨v0, vs0, d0, ds0, p0, q0, hargs, rfl, rfl, h0, r0⟩ := trodAll_cons hA
  obtain ⟨v1, vs1, d1, ds1, p1, q1, rfl, rfl, rfl, h1, r1⟩ := trodAll_cons r0
  obtain ⟨rfl, rfl, rfl⟩ := trodAll_nil r1
  obtain rfl : args = #[v0, v1] := by cases args; simp_all
  obtain ⟨l, w0⟩ := open_accs_arg h0 (okWide_slice Tryd.underlying22 (hval 0 22 v0 rfl rfl))
  obtain ⟨os, w1⟩ := open_ints_arg Tryd.underlying23 Tryd.underlying3 (by kernel_rfl) h1 (okWide_slice Tryd.underlying23 (hval 1 23 v1 rfl rfl))
  clear hA0 hval0
  refine (walk v0 l v1 os W hE w0 w1).mono fun e W' ⟨he, hb⟩ => ?_
  subst he
  exact ⟨_, rfl, law_post (by kernel_rfl) (by kernel_rfl) rfl Tryd.underlying4 rfl hW' rfl hb⟩

theorem over : Rows.shareChildrenRow.holds Tryd.pinned (OpenSpec.ofChange Rows.shareChildrenSpec) :=
  OpenClaim.holds_of_wide 6 Tryd.f6 rfl rfl rfl rfl rfl rfl rfl ⟨rfl, rfl, rfl, rfl, rfl⟩ rfl rfl rfl rfl rfl (by kernel_rfl) Tryd.func6 (by kernel_rfl)
    (of_decide_eq_true (by kernel_rfl)) (by unfold Func.isWrapper; first | (rw [if_pos (by decide +kernel)]; kernel_rfl) | (rw [if_neg (by decide +kernel)]; exact ⟨rfl, rfl⟩))
    (fun os started H enc _ => lifted os started H enc)

theorem proved : Rows.ShareChildrenCardSaid :=
  Claim7.holds_tied_plain_at .later [] _ true _ false over (fun _ h => by cases h) (by kernel_rfl) (fun _ h => by cases h) shareChildren_row_tie rfl ⟨rfl, rfl⟩ (by kernel_rfl) rfl
    (fun f fn hf hfn => by
      obtain rfl : f = 6 := Option.some.inj ((show Tryd.prog.funcNamed "ganger/gangerlaw11.ShareChildren" = some 6 by kernel_rfl).symm.trans hf) |>.symm
      obtain rfl : fn = Tryd.f6 := (Option.some.inj (Tryd.func6.symm.trans hfn)).symm
      exact ⟨by kernel_rfl, fun j t ht => by
        rw [Tryd.params6] at ht
        have hm : t ∈ [22, 23] := by simpa using Array.mem_of_getElem? ht
        have hall : ([22, 23].all fun u => !Tryd.prog.wantsStandIn u) = true := by kernel_rfl
        exact (show Tryd.prog.wantsStandIn t = false by simpa using List.all_eq_true.1 hall t hm)⟩)
    (by kernel_rfl)
#print axioms proved
end Go.Proofs.YtbnlmeegepgioaaDoor.shareChildren
