/-
  ShareAlike: two accounts of one parent, with as many shares, that have used as much, have one norm and one factor; whoever of them has more shares has no smaller norm: so the law returns true for every input, the listed tables of Go's library reading as the program's text lays them.
-/
import Derived.Test.YtbnlmeegepgioaaDoorShKn2
import Derived.Test.YtbnlmeegepgioaaDoorShPl
import Derived.Test.YtbnlmeegepgioaaDoorRows
import Derived.Test.YtbnlmeegepgioaaDoorArgs2
import Derived.Test.YtbnlmeegepgioaaDoorLaid
import Derived.Test.YtbnlmeegepgioaaDoorCards
import Derived.Test.YtbnlmeegepgioaaDoorTie
import Derived.MakeChecks
import Derived.SevenTiedAt
namespace Go.Proofs.YtbnlmeegepgioaaDoor.shareAlike
open Go.ChangeShapes Go.WideShapes Go.ChangeAt Go.RowKit
set_option linter.unusedVariables false

theorem own : ownKnob Tryd.prog.godebug = none := by kernel_rfl

open Go Go.RowKit Go.Lib in
set_option maxRecDepth 100000 in
set_option maxHeartbeats 8000000 in
theorem walk (v0 : Value) (l : List AcT) (v1 : Value) (os : List Int) (w : World) (hE : U8W w) (h0 : AcArg w v0 l) (h1 : IntsArg w .i64 v1 os) :
    Calls Tryd.prog 8 #[v0, v1] w fun e w' => e = .returned (.bool true) ∧ Below w.heap.size w w' := by
  have K : Hid (∀ w1, Below w.heap.size w w1 → Calls Tryd.prog 11 #[] w1 fun e w' => e = .returned (.bool true) ∧ Below w1.heap.size w1 w') := fun w1 hb => known11_any w1 (hE.next hb)
  obtain ⟨hv, hm, hs⟩ := acarg_parts h0
  have ho := grow_of_ints h1
  have hol := ints_len h1
  have htop := ints_top h1
  obtain ⟨oa, oc, rfl⟩ := ho.slice
  have MN := Lib.hid (many11_any v0 l oa os.length oc w hv hm hs hol)
  have HMN : Hid (manyA l os.length = false → l.length ≤ 60 ∧ os.length ≤ 100 ∧ ∀ p ∈ l, Short p.1 ∧ Short p.2.1) := many_no
  obtain ⟨en, hcn⟩ := sh_code l (zerosI l.length)
  obtain ⟨er, hc⟩ := sh_code l os
  have NO : Hid (l.length ≤ 60 → (∀ p ∈ l, Short p.1 ∧ Short p.2.1) → ∀ w1, Below w.heap.size w w1 → Calls Tryd.prog 16 #[v0] w1 fun e w' => ∃ v, e = .returned (.tuple #[v, .int .i64 en]) ∧ NOwn w' w1.heap.size v (if en = 0 then rowI (normI l) l.length else []) ∧ Below w1.heap.size w1 w') := fun hn hs w1 hb =>
    (norms_any v0 l w1 (hv.kept hb) hs (hE.next hb) (by omega)).mono fun e w' h => h.with hcn
  have SU : Hid (os.length ≤ 100 → (∀ p ∈ l, Short p.1 ∧ Short p.2.1) → ∀ w1, Below w.heap.size w w1 → Calls Tryd.prog 13 #[v0, .slice oa os.length oc] w1 fun e w' => ∃ v, e = .returned (.tuple #[v, .int .i64 er]) ∧ NOwn w' w1.heap.size v (if er = 0 then rowI (sumI l (ownN os)) l.length else []) ∧ Below w1.heap.size w1 w') := fun hn hs w1 hb =>
    (sums_any v0 _ l os w1 (hv.kept hb) hs (hE.next hb) (ho.kept hb) (by omega) (fun x hx => (htop x hx).2)).mono fun e w' h => h.with hc
  have FA : Hid (l.length ≤ 60 → os.length ≤ 100 → (∀ p ∈ l, Short p.1 ∧ Short p.2.1) → ∀ w1, Below w.heap.size w w1 → Calls Tryd.prog 20 #[v0, .slice oa os.length oc] w1 fun e w' => ∃ v, e = .returned (.tuple #[v, .int .i64 er]) ∧ NOwn w' w1.heap.size v (if er = 0 then rowI (facI l (ownN os)) l.length else []) ∧ Below w1.heap.size w1 w') := fun hn0 hn hs w1 hb =>
    (factors_any v0 _ l os w1 (hv.kept hb) hs (hE.next hb) (ho.kept hb) (by omega) (by omega) (fun x hx => (htop x hx).2)).mono fun e w' h => h.with hc
  have HO := Lib.hid ho
  have HTOP := Lib.hid htop
  have HV := Lib.hid hv
  have HCN := Lib.hid hcn
  have HC := Lib.hid hc
  obtain ⟨ON, hON⟩ : ∃ N, N = os.length := ⟨_, rfl⟩
  rw [← hON] at MN HMN SU FA HO ⊢
  have HON := Lib.hid hON
  obtain ⟨va, vc, rfl⟩ := hv.slice
  obtain ⟨M, hM⟩ : ∃ M, M = manyA l ON := ⟨_, rfl⟩
  rw [← hM] at MN HMN
  obtain ⟨LN, hLN⟩ : ∃ N, N = l.length := ⟨_, rfl⟩
  rw [← hLN] at MN HMN NO SU HV FA ⊢
  have HLN := Lib.hid hLN
  clear hE h0 h1 hv hm hs ho hol htop hcn hc hON hM hLN
  cases M
  case true =>
    clear HMN NO SU FA
    go_enter Tryd.func8, Tryd.ntmps8
    go_wp2_with fail
    refine MN.out.mono ?_; rintro e w1 ⟨rfl, b1⟩
    have B1 := Lib.hid b1
    clear b1
    go_wp2_with fail
    refine (K.out _ B1.out).mono ?_; rintro e w2 ⟨rfl, b2⟩
    have B2 := Lib.hid (below_next b2 B1.out)
    clear b2
    go_wp2_with fail
    go_ret
    exact ⟨rfl, B2.out⟩
  case false =>
    obtain ⟨hl60, ho100, hsh⟩ := HMN.out rfl
    have NO2 := Lib.hid (NO.out hl60 hsh)
    have SU2 := Lib.hid (SU.out ho100 hsh)
    have FA2 := Lib.hid (FA.out hl60 ho100 hsh)
    clear HMN NO SU FA hsh
    by_cases hA : AccOk l
    · have hen : en = 0 := HCN.out.det (.inl ⟨rfl, hA, zeros_ok l⟩)
      have h1n : 1 ≤ LN := by rw [HLN.out]; exact hA.1
      have h50 : LN ≤ 50 := by rw [HLN.out]; exact hA.2.1
      have NO3 : Hid (∀ w1, Below w.heap.size w w1 → Calls Tryd.prog 16 #[.slice va LN vc] w1 fun e w' => ∃ v, e = .returned (.tuple #[v, .int .i64 0]) ∧ NOwn w' w1.heap.size v (rowI (normI l) LN) ∧ Below w1.heap.size w1 w') := by
        have h := NO2.out
        rw [if_pos hen, hen] at h
        exact h
      by_cases hO : OwnOk l os
      · have her : er = 0 := HC.out.det (.inl ⟨rfl, hA, hO⟩)
        have SU3 : Hid (∀ w1, Below w.heap.size w w1 → Calls Tryd.prog 13 #[.slice va LN vc, .slice oa ON oc] w1 fun e w' => ∃ v, e = .returned (.tuple #[v, .int .i64 0]) ∧ NOwn w' w1.heap.size v (rowI (sumI l (ownN os)) LN) ∧ Below w1.heap.size w1 w') := by
          have h := SU2.out
          rw [if_pos her, her] at h
          exact h
        have FA3 : Hid (∀ w1, Below w.heap.size w w1 → Calls Tryd.prog 20 #[.slice va LN vc, .slice oa ON oc] w1 fun e w' => ∃ v, e = .returned (.tuple #[v, .int .i64 0]) ∧ NOwn w' w1.heap.size v (rowI (facI l (ownN os)) LN) ∧ Below w1.heap.size w1 w') := by
          have h := FA2.out
          rw [if_pos her, her] at h
          exact h
        have HA := Lib.hid (Tree.mk' hA)
        obtain ⟨bA, oA, hva, _⟩ := rowG_all HV.out (by rw [← HLN.out]; exact h1n)
        subst hva
        clear hA hen hO her NO2 SU2 FA2 HO HCN HC HTOP
        go_enter Tryd.func8, Tryd.ntmps8
        go_wp2_with fail
        refine MN.out.mono ?_; rintro e w1 ⟨rfl, b1⟩
        have B1 := Lib.hid b1
        clear b1 MN
        go_wp2_with fail
        refine (NO3.out _ B1.out).mono ?_; rintro e w2 ⟨rn, rfl, hr, b2⟩
        have B2 := Lib.hid (below_next b2 B1.out)
        obtain ⟨gn, cn, hve, _, _, _, _, _⟩ := nown_parts hr (by rw [rowI_len]; exact h1n)
        subst hve
        rw [rowI_len] at hr ⊢
        have CN2 : Hid (∀ i, i < LN → w2.cell? ⟨gn, i, none⟩ = some (.int .i64 (normI l i : Nat))) := fun i hi => by
          have h := (nown_cell hr (k := i) (by rw [rowI_len]; exact hi)).1
          rwa [rowI_at _ hi] at h
        clear b2 hr NO3
        go_wp2_with fail
        refine (SU3.out _ B2.out).mono ?_; rintro e w3 ⟨rs, rfl, hr, b3⟩
        have B3 := Lib.hid (below_next b3 B2.out)
        obtain ⟨gs, cs, hve, _, _, _, _, _⟩ := nown_parts hr (by rw [rowI_len]; exact h1n)
        subst hve
        rw [rowI_len] at hr ⊢
        have CS3 : Hid (∀ i, i < LN → w3.cell? ⟨gs, i, none⟩ = some (.int .i64 (sumI l (ownN os) i : Nat))) := fun i hi => by
          have h := (nown_cell hr (k := i) (by rw [rowI_len]; exact hi)).1
          rwa [rowI_at _ hi] at h
        have CN3 : Hid (∀ i, i < LN → w3.cell? ⟨gn, i, none⟩ = some (.int .i64 (normI l i : Nat))) := fun i hi => cell_next b3 (CN2.out i hi)
        clear b3 hr SU3 CN2
        go_wp2_with fail
        refine (FA3.out _ B3.out).mono ?_; rintro e w4 ⟨rf, rfl, hr, b4⟩
        have B4 := Lib.hid (below_next b4 B3.out)
        obtain ⟨gf, cf, hve, _, _, _, _, _⟩ := nown_parts hr (by rw [rowI_len]; exact h1n)
        subst hve
        rw [rowI_len] at hr ⊢
        have CF4 : Hid (∀ i, i < LN → w4.cell? ⟨gf, i, none⟩ = some (.int .i64 (facI l (ownN os) i : Nat))) := fun i hi => by
          have h := (nown_cell hr (k := i) (by rw [rowI_len]; exact hi)).1
          rwa [rowI_at _ hi] at h
        have CN4 : Hid (∀ i, i < LN → w4.cell? ⟨gn, i, none⟩ = some (.int .i64 (normI l i : Nat))) := fun i hi => cell_next b4 (CN3.out i hi)
        have CS4 : Hid (∀ i, i < LN → w4.cell? ⟨gs, i, none⟩ = some (.int .i64 (sumI l (ownN os) i : Nat))) := fun i hi => cell_next b4 (CS3.out i hi)
        clear b4 hr FA3 CN3 CS3
        go_wp2_with fail
        go_loopw [11] (fun iv wr => ∃ i : Nat, i ≤ LN ∧ iv = .int .i64 i ∧ Hid (Below w4.heap.size w4 wr)) (fun iv _ => LN - (RowKit.intOf iv).toNat)
        case atStart => exact ⟨0, Nat.zero_le _, rfl, Below.refl _ _⟩
        case round =>
          obtain ⟨i, hi, rfl, HB⟩ := hrel
          by_cases hlt : i < LN
          · have hd : decide (i < LN) = true := decide_eq_true hlt
            have hii : (i : Int) < (LN : Int) := by omega
            have hil : i < l.length := by rw [← HLN.out]; exact hlt
            have HIL := Lib.hid hil
            clear hil
            go_wp2_with fail
            go_loopw [12] (fun jv wr => ∃ j : Nat, j ≤ LN ∧ jv = .int .i64 j ∧ Hid (Below w4.heap.size w4 wr)) (fun jv _ => LN - (RowKit.intOf jv).toNat)
            case atStart => exact ⟨0, Nat.zero_le _, rfl, HB⟩
            case round =>
              obtain ⟨j, hj, rfl, HBr⟩ := hrel
              by_cases hjt : j < LN
              · have hd2 : decide (j < LN) = true := decide_eq_true hjt
                have hji : (j : Int) < (LN : Int) := by omega
                have hjl : j < l.length := by rw [← HLN.out]; exact hjt
                have hBw : Below w.heap.size w wr := B4.out.trans (HBr.out.mono B4.out.size)
                obtain ⟨i0, i1, i2⟩ := ac_cells HA.out HV.out HIL.out hBw
                obtain ⟨k0, k1, k2⟩ := ac_cells HA.out HV.out hjl hBw
                have ni := cell_next HBr.out (CN4.out i hlt)
                have nj := cell_next HBr.out (CN4.out j hjt)
                have si := cell_next HBr.out (CS4.out i hlt)
                have sj := cell_next HBr.out (CS4.out j hjt)
                have fi := cell_next HBr.out (CF4.out i hlt)
                have fj := cell_next HBr.out (CF4.out j hjt)
                have a1 := fun e h => norm_alike HA.out HIL.out hjl e h
                have a2 := fun e h => norm_alike HA.out hjl HIL.out e h
                have a3 := fun e h => fac_alike (l := l) (ownN os) (i := i) (k := j) e h
                obtain ⟨ui, hui⟩ : ∃ x, x = upI l i := ⟨_, rfl⟩
                obtain ⟨uj, huj⟩ : ∃ x, x = upI l j := ⟨_, rfl⟩
                obtain ⟨NI, hNI⟩ : ∃ x, x = normI l i := ⟨_, rfl⟩
                obtain ⟨NJ, hNJ⟩ : ∃ x, x = normI l j := ⟨_, rfl⟩
                obtain ⟨SI, hSI⟩ : ∃ x, x = sumI l (ownN os) i := ⟨_, rfl⟩
                obtain ⟨SJ, hSJ⟩ : ∃ x, x = sumI l (ownN os) j := ⟨_, rfl⟩
                obtain ⟨FI, hFI⟩ : ∃ x, x = facI l (ownN os) i := ⟨_, rfl⟩
                obtain ⟨FJ, hFJ⟩ : ∃ x, x = facI l (ownN os) j := ⟨_, rfl⟩
                obtain ⟨hI, hhI⟩ : ∃ x, x = shI l i := ⟨_, rfl⟩
                obtain ⟨hJ, hhJ⟩ : ∃ x, x = shI l j := ⟨_, rfl⟩
                rw [← hui] at i1 a1 a2
                rw [← huj] at k1 a1 a2
                rw [← hhI] at i2 a1 a2
                rw [← hhJ] at k2 a1 a2
                rw [← hNI] at ni a1 a2 a3
                rw [← hNJ] at nj a1 a2 a3
                rw [← hSI] at si a3
                rw [← hSJ] at sj a3
                rw [← hFI] at fi a3
                rw [← hFJ] at fj a3
                clear hui huj hNI hNJ hSI hSJ hFI hFJ hhI hhJ i0 k0 hjl hBw
                by_cases q : ui = uj
                · have q1 : (ui.toList == uj.toList) = true := by rw [str_beq]; exact decide_eq_true q
                  have q2 : (ui.toList != uj.toList) = false := by rw [bne, q1]; rfl
                  have b1 : Hid (hJ ≤ hI → NJ ≤ NI) := a1 q
                  have b2 : Hid (hI ≤ hJ → NI ≤ NJ) := a2 q.symm
                  have b3 : Hid (NI = NJ → SI = SJ → FI = FJ) := a3
                  clear a1 a2 a3 q
                  by_cases c : hJ ≤ hI
                  · have d1 : decide ((hI : Int) ≥ (hJ : Int)) = true := decide_eq_true (by omega)
                    have d2 : decide (hJ ≤ hI) = true := decide_eq_true c
                    have d3 := b1.out c
                    have d4 : decide ((NI : Int) < (NJ : Int)) = false := decide_eq_false (by omega)
                    have d5 : decide (NI < NJ) = false := decide_eq_false (by omega)
                    by_cases c2 : hI = hJ
                    · have h2 := b2.out (by omega)
                      have hN : NI = NJ := by omega
                      by_cases c3 : SI = SJ
                      · have hF := b3.out hN c3
                        subst c2; subst hN; subst c3; subst hF
                        clear b1 b2 b3
                        have r1 : (ui.toList != uj.toList) = false := q2
                        go_upto_region 16 with fail
                        go_quiet (fail)
                        go_upto_region 17 with fail
                        go_quiet (fail)
                        go_upto_region 19 with fail
                        go_quiet (fail)
                        go_wp2_with fail
                        go_roundw
                        case rel => exact ⟨j + 1, hjt, by go_num, below_drewN HBr.out _⟩
                        case measure => simp [RowKit.intOf]; omega
                      · have e1 : ((SI : Int) == (SJ : Int)) = false := by rw [beq_eq_false_iff_ne]; omega
                        have e2 : (SI == SJ) = false := by rw [beq_eq_false_iff_ne]; exact c3
                        have e3 : ¬ (SI : Int) = (SJ : Int) := by omega
                        subst c2; subst hN
                        clear b1 b2 b3
                        go_upto_region 16 with fail
                        go_quiet (fail)
                        go_upto_region 17 with fail
                        go_quiet (fail)
                        go_upto_region 19 with fail
                        go_quiet (fail)
                        go_wp2_with fail
                        go_roundw
                        case rel => exact ⟨j + 1, hjt, by go_num, below_drewN HBr.out _⟩
                        case measure => simp [RowKit.intOf]; omega
                    · have e1 : ((hI : Int) == (hJ : Int)) = false := by rw [beq_eq_false_iff_ne]; omega
                      have e2 : (hI == hJ) = false := by rw [beq_eq_false_iff_ne]; exact c2
                      have e3 : ¬ (hI : Int) = (hJ : Int) := by omega
                      clear b1 b2 b3
                      go_upto_region 16 with fail
                      go_quiet (fail)
                      go_upto_region 17 with fail
                      go_quiet (fail)
                      go_upto_region 19 with fail
                      go_quiet (fail)
                      go_wp2_with fail
                      go_roundw
                      case rel => exact ⟨j + 1, hjt, by go_num, below_drewN HBr.out _⟩
                      case measure => simp [RowKit.intOf]; omega
                  · have d1 : decide ((hI : Int) ≥ (hJ : Int)) = false := decide_eq_false (by omega)
                    have d2 : decide (hJ ≤ hI) = false := decide_eq_false c
                    have c2 : ¬ hI = hJ := by omega
                    have e1 : ((hI : Int) == (hJ : Int)) = false := by rw [beq_eq_false_iff_ne]; omega
                    have e2 : (hI == hJ) = false := by rw [beq_eq_false_iff_ne]; exact c2
                    have e3 : ¬ (hI : Int) = (hJ : Int) := by omega
                    clear b1 b2 b3
                    go_upto_region 16 with fail
                    go_quiet (fail)
                    go_upto_region 17 with fail
                    go_quiet (fail)
                    go_upto_region 19 with fail
                    go_quiet (fail)
                    go_wp2_with fail
                    go_roundw
                    case rel => exact ⟨j + 1, hjt, by go_num, below_drewN HBr.out _⟩
                    case measure => simp [RowKit.intOf]; omega
                · have q1 : (ui.toList == uj.toList) = false := by rw [str_beq]; exact decide_eq_false q
                  have q2 : (ui.toList != uj.toList) = true := by rw [bne, q1]; rfl
                  clear a1 a2 a3 q ni nj si sj fi fj i2 k2
                  go_upto_region 16 with fail
                  go_quiet (fail)
                  go_wp2_with fail
                  go_roundw
                  case rel => exact ⟨j + 1, hjt, by go_num, below_drewN HBr.out _⟩
                  case measure => simp [RowKit.intOf]; omega
              · have hd2 : decide (j < LN) = false := decide_eq_false hjt
                have hji : ¬ (j : Int) < (LN : Int) := by omega
                go_wp2_with fail
                go_roundw
                case rel => exact ⟨i + 1, hlt, by go_num, HBr⟩
                case measure => simp [RowKit.intOf]; omega
          · have hd : decide (i < LN) = false := decide_eq_false hlt
            have hii : ¬ (i : Int) < (LN : Int) := by omega
            have BW : Hid (Below w.heap.size w wr) := B4.out.trans (HB.out.mono B4.out.size)
            clear hlt hi
            go_wp2_with fail
            refine (K.out _ BW.out).mono ?_; rintro e w5 ⟨rfl, b5⟩
            have B5 := Lib.hid (below_next b5 BW.out)
            clear b5
            go_wp2_with fail
            go_ret
            exact ⟨rfl, B5.out⟩

      · have her : er = 2 := HC.out.det (.inr (.inr ⟨rfl, hA, hO⟩))
        have SU3 : Hid (∀ w1, Below w.heap.size w w1 → Calls Tryd.prog 13 #[.slice va LN vc, .slice oa ON oc] w1 fun e w' => ∃ v, e = .returned (.tuple #[v, .int .i64 2]) ∧ NOwn w' w1.heap.size v [] ∧ Below w1.heap.size w1 w') := by
          have h := SU2.out
          rw [if_neg (by rw [her]; decide), her] at h
          exact h
        have FA3 : Hid (∀ w1, Below w.heap.size w w1 → Calls Tryd.prog 20 #[.slice va LN vc, .slice oa ON oc] w1 fun e w' => ∃ v, e = .returned (.tuple #[v, .int .i64 2]) ∧ NOwn w' w1.heap.size v [] ∧ Below w1.heap.size w1 w') := by
          have h := FA2.out
          rw [if_neg (by rw [her]; decide), her] at h
          exact h
        clear NO2 SU2 FA2
        go_enter Tryd.func8, Tryd.ntmps8
        go_wp2_with fail
        refine MN.out.mono ?_; rintro e w1 ⟨rfl, b1⟩
        have B1 := Lib.hid b1
        clear b1 MN
        go_wp2_with fail
        refine (NO3.out _ B1.out).mono ?_; rintro e w2 ⟨rn, rfl, hr, b2⟩
        have B2 := Lib.hid (below_next b2 B1.out)
        obtain ⟨ga, ca, rfl⟩ := own_slice hr
        rw [rowI_len]
        clear b2 hr NO3
        go_wp2_with fail
        refine (SU3.out _ B2.out).mono ?_; rintro e w3 ⟨rs, rfl, hr, b3⟩
        have B3 := Lib.hid (below_next b3 B2.out)
        obtain ⟨gs, cs, rfl⟩ := own_slice hr
        clear b3 hr SU3
        go_wp2_with fail
        refine (FA3.out _ B3.out).mono ?_; rintro e w4 ⟨rf, rfl, hr, b4⟩
        have B4 := Lib.hid (below_next b4 B3.out)
        obtain ⟨gf, cf, rfl⟩ := own_slice hr
        clear b4 hr FA3
        go_wp2_with fail
        refine (K.out _ B4.out).mono ?_; rintro e w5 ⟨rfl, b5⟩
        have B5 := Lib.hid (below_next b5 B4.out)
        clear b5
        go_wp2_with fail
        go_ret
        exact ⟨rfl, B5.out⟩

    · have hen : en = 100 := HCN.out.det (.inr (.inl ⟨rfl, hA⟩))
      have her : er = 100 := HC.out.det (.inr (.inl ⟨rfl, hA⟩))
      have NO3 : Hid (∀ w1, Below w.heap.size w w1 → Calls Tryd.prog 16 #[.slice va LN vc] w1 fun e w' => ∃ v, e = .returned (.tuple #[v, .int .i64 100]) ∧ NOwn w' w1.heap.size v [] ∧ Below w1.heap.size w1 w') := by
        have h := NO2.out
        rw [if_neg (by rw [hen]; decide), hen] at h
        exact h
      have SU3 : Hid (∀ w1, Below w.heap.size w w1 → Calls Tryd.prog 13 #[.slice va LN vc, .slice oa ON oc] w1 fun e w' => ∃ v, e = .returned (.tuple #[v, .int .i64 100]) ∧ NOwn w' w1.heap.size v [] ∧ Below w1.heap.size w1 w') := by
        have h := SU2.out
        rw [if_neg (by rw [her]; decide), her] at h
        exact h
      have FA3 : Hid (∀ w1, Below w.heap.size w w1 → Calls Tryd.prog 20 #[.slice va LN vc, .slice oa ON oc] w1 fun e w' => ∃ v, e = .returned (.tuple #[v, .int .i64 100]) ∧ NOwn w' w1.heap.size v [] ∧ Below w1.heap.size w1 w') := by
        have h := FA2.out
        rw [if_neg (by rw [her]; decide), her] at h
        exact h
      clear NO2 SU2 FA2
      go_enter Tryd.func8, Tryd.ntmps8
      go_wp2_with fail
      refine MN.out.mono ?_; rintro e w1 ⟨rfl, b1⟩
      have B1 := Lib.hid b1
      clear b1 MN
      go_wp2_with fail
      refine (NO3.out _ B1.out).mono ?_; rintro e w2 ⟨rn, rfl, hr, b2⟩
      have B2 := Lib.hid (below_next b2 B1.out)
      obtain ⟨ga, ca, rfl⟩ := own_slice hr
      clear b2 hr NO3
      go_wp2_with fail
      refine (SU3.out _ B2.out).mono ?_; rintro e w3 ⟨rs, rfl, hr, b3⟩
      have B3 := Lib.hid (below_next b3 B2.out)
      obtain ⟨gs, cs, rfl⟩ := own_slice hr
      clear b3 hr SU3
      go_wp2_with fail
      refine (FA3.out _ B3.out).mono ?_; rintro e w4 ⟨rf, rfl, hr, b4⟩
      have B4 := Lib.hid (below_next b4 B3.out)
      obtain ⟨gf, cf, rfl⟩ := own_slice hr
      clear b4 hr FA3
      go_wp2_with fail
      refine (K.out _ B4.out).mono ?_; rintro e w5 ⟨rfl, b5⟩
      have B5 := Lib.hid (below_next b5 B4.out)
      clear b5
      go_wp2_with fail
      go_ret
      exact ⟨rfl, B5.out⟩



set_option maxRecDepth 100000 in
theorem lifted (os : Os) (started : os.Started) (H : Type) (enc : TypeId × Value → H) :
    ReturnsInHanded {} Tryd.checked os 8 .any (fun w args => (Rows.shareAlikeSpec.pre enc Tryd.prog Tryd.f8 Rows.shareAlikeRow.domain false w args ∧ laidMetH Tryd.prog laid11 w) ∧ sizedMet enc Tryd.prog Tryd.f8 (OpenSpec.ofChange Rows.shareAlikeSpec) false w args) (Rows.shareAlikeSpec.post enc Tryd.prog Tryd.f8 false true false false) := by
  refine laid_lift (C := Tryd.checked) (X := fun w _ => laidMetH Tryd.prog laid11 w) (fun _ _ _ hh h => h.of_heap hh) own started (by kernel_rfl) Tryd.func8
    (ChangeSpec.witness_shaped (enc := enc) (C := Tryd.checked) (os := os) (X := fun w _ => laidMetH Tryd.prog laid11 w) false (World.laidAll Tryd.prog os laid11) #[.slice none 0 0, .slice none 0 0] 8 (World.laidAll_os _ _ _)
      (World.shaped_of_ZipB (by kernel_rfl) (by kernel_rfl)) (by kernel_rfl) (by kernel_rfl) (by kernel_rfl)
      (by rw [MakeChecks.laidMetH_plain _ _ _ (by kernel_rfl)]; exact laidMet_laidAll _ (by kernel_rfl) (by kernel_rfl))) ?_
  intro W base args ds gs before hval0 hW hsz0 hL hS
  have hE := env11_of hL hS
  have hval : ∀ (j : Nat) t v, Tryd.f8.params[j]? = some t → args[j]? = some v → Value.okWide Tryd.prog W .any base t v := hval0
  have hW' := hW
  obtain ⟨p, q, hA0, hV, rfl, hfz, hnd⟩ := hW
  have hA : DataW.TrodAll enc Tryd.prog W 0 (fun _ => true) true Tryd.f8.params.toList args.toList ds p := hA0
  rw [Tryd.params8] at hA hval
  obtain ⟨v0, vs0, d0, ds0, p0, q0, hargs, rfl, rfl, h0, r0⟩ := trodAll_cons hA
  obtain ⟨v1, vs1, d1, ds1, p1, q1, rfl, rfl, rfl, h1, r1⟩ := trodAll_cons r0
  obtain ⟨rfl, rfl, rfl⟩ := trodAll_nil r1
  obtain rfl : args = #[v0, v1] := by cases args; simp_all
  obtain ⟨l, w0⟩ := open_accs_arg h0 (okWide_slice Tryd.underlying22 (hval 0 22 v0 rfl rfl))
  obtain ⟨os, w1⟩ := open_ints_arg Tryd.underlying23 Tryd.underlying3 (by kernel_rfl) h1 (okWide_slice Tryd.underlying23 (hval 1 23 v1 rfl rfl))
  clear hA0 hval0
  refine (walk v0 l v1 os W hE w0 w1).mono fun e W' ⟨he, hb⟩ => ?_
  subst he
  exact ⟨_, rfl, law_post (by kernel_rfl) (by kernel_rfl) rfl Tryd.underlying4 rfl hW' rfl hb⟩

theorem over : Rows.shareAlikeRow.holds Tryd.pinned (OpenSpec.ofChange Rows.shareAlikeSpec) :=
  OpenClaim.holds_of_wide 8 Tryd.f8 rfl rfl rfl rfl rfl rfl rfl ⟨rfl, rfl, rfl, rfl, rfl⟩ rfl rfl rfl rfl rfl (by kernel_rfl) Tryd.func8 (by kernel_rfl)
    (of_decide_eq_true (by kernel_rfl)) (by unfold Func.isWrapper; first | (rw [if_pos (by decide +kernel)]; kernel_rfl) | (rw [if_neg (by decide +kernel)]; exact ⟨rfl, rfl⟩))
    (fun os started H enc _ => lifted os started H enc)

theorem proved : Rows.ShareAlikeCardSaid :=
  Claim7.holds_tied_plain_at .later [] _ true _ false over (fun _ h => by cases h) (by kernel_rfl) (fun _ h => by cases h) shareAlike_row_tie rfl ⟨rfl, rfl⟩ (by kernel_rfl) rfl
    (fun f fn hf hfn => by
      obtain rfl : f = 8 := Option.some.inj ((show Tryd.prog.funcNamed "ganger/gangerlaw11.ShareAlike" = some 8 by kernel_rfl).symm.trans hf) |>.symm
      obtain rfl : fn = Tryd.f8 := (Option.some.inj (Tryd.func8.symm.trans hfn)).symm
      exact ⟨by kernel_rfl, fun j t ht => by
        rw [Tryd.params8] at ht
        have hm : t ∈ [22, 23] := by simpa using Array.mem_of_getElem? ht
        have hall : ([22, 23].all fun u => !Tryd.prog.wantsStandIn u) = true := by kernel_rfl
        exact (show Tryd.prog.wantsStandIn t = false by simpa using List.all_eq_true.1 hall t hm)⟩)
    (by kernel_rfl)
#print axioms proved
end Go.Proofs.YtbnlmeegepgioaaDoor.shareAlike
