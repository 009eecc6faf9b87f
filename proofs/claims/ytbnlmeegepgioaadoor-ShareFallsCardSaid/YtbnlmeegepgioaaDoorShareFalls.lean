/-
  ShareFalls: whoever has used more has no greater factor, when all others have used as much as before; who has used nothing, nor any below it, has the whole one, if it is entitled to anything: so the law returns true for every input, the listed tables of Go's library reading as the program's text lays them.
-/
import Derived.Test.YtbnlmeegepgioaaDoorShKn2
import Derived.Test.YtbnlmeegepgioaaDoorShPl
import Derived.Test.YtbnlmeegepgioaaDoorRows
import Derived.Test.YtbnlmeegepgioaaDoorArgs2
import Derived.Test.YtbnlmeegepgioaaDoorLaid
import Derived.Test.YtbnlmeegepgioaaDoorCards
import Derived.Test.YtbnlmeegepgioaaDoorTie
import Derived.MakeChecks
import Derived.SevenTiedAt
namespace Go.Proofs.YtbnlmeegepgioaaDoor.shareFalls
open Go.ChangeShapes Go.WideShapes Go.ChangeAt Go.RowKit
set_option linter.unusedVariables false

theorem own : ownKnob Tryd.prog.godebug = none := by kernel_rfl

theorem pick_mod (x : Int) (n : Nat) (h : 0 < n) (hn : n ≤ 1000000) : ∃ U K : Nat, IntKind.u64.wrap x = (U : Int) ∧ (U : Int) % (n : Int) = (K : Int) ∧ K < n ∧ (U : Int).tmod (n : Int) = (K : Int) := by
  obtain ⟨U, hU⟩ := Int.eq_ofNat_of_zero_le (show 0 ≤ IntKind.u64.wrap x by rw [IntKind.wrap_u64]; omega)
  have e : (U : Int) % (n : Int) = ((U % n : Nat) : Int) := by simp
  refine ⟨U, U % n, hU, e, Nat.mod_lt _ h, ?_⟩
  rw [Int.tmod_eq_emod_of_nonneg (by omega), e]
theorem own_set (os : List Int) (k m : Nat) (hk : k < os.length) (h0 : ∀ x ∈ os, 0 ≤ x) : ownN (os.set k ((ownN os k : Int) + (m : Int))) = moreAt (ownN os) k m := by
  funext j
  unfold moreAt
  by_cases e : j = k
  · subst e
    rw [if_pos rfl]
    have e1 : (os.set j ((ownN os j : Int) + (m : Int))).getD j 0 = (ownN os j : Int) + (m : Int) := by
      rw [List.getD_eq_getElem?_getD, List.getElem?_set_self hk]; rfl
    unfold ownN at *
    rw [e1]; omega
  · rw [if_neg e]
    unfold ownN
    rw [List.getD_eq_getElem?_getD, List.getElem?_set_ne (fun h => e h.symm), List.getD_eq_getElem?_getD]
open Go Go.RowKit Go.Lib in
set_option maxRecDepth 100000 in
set_option maxHeartbeats 8000000 in
theorem walk (v0 : Value) (l : List AcT) (v1 : Value) (os : List Int) (atv more : Int) (w : World) (hE : U8W w) (h0 : AcArg w v0 l) (h1 : IntsArg w .i64 v1 os) (hat : (Lit.int .i64 atv).wf = true) (hmo : (Lit.int .u16 more).wf = true) :
    Calls Tryd.prog 7 #[v0, v1, .int .i64 atv, .int .u16 more] w fun e w' => e = .returned (.bool true) ∧ Below w.heap.size w w' := by
  have K : Hid (∀ w1, Below w.heap.size w w1 → Calls Tryd.prog 11 #[] w1 fun e w' => e = .returned (.bool true) ∧ Below w1.heap.size w1 w') := fun w1 hb => known11_any w1 (hE.next hb)
  obtain ⟨hv, hm, hs⟩ := acarg_parts h0
  have ho := grow_of_ints h1
  have hol := ints_len h1
  have htop := ints_top h1
  obtain ⟨oa, oc, rfl⟩ := ho.slice
  have MN := Lib.hid (many11_any v0 l oa os.length oc w hv hm hs hol)
  have HMN : Hid (manyA l os.length = false → l.length ≤ 60 ∧ os.length ≤ 100 ∧ ∀ p ∈ l, Short p.1 ∧ Short p.2.1) := many_no
  obtain ⟨en, hcn⟩ := sh_code l (zerosI l.length)
  obtain ⟨er, hc⟩ := sh_code l os
  have NO : Hid (l.length ≤ 60 → (∀ p ∈ l, Short p.1 ∧ Short p.2.1) → ∀ w1, Below w.heap.size w w1 → Calls Tryd.prog 16 #[v0] w1 fun e w' => ∃ v, e = .returned (.tuple #[v, .int .i64 en]) ∧ NOwn w' w1.heap.size v (if en = 0 then rowI (normI l) l.length else []) ∧ Below w1.heap.size w1 w') := fun hn hs w1 hb =>
    (norms_any v0 l w1 (hv.kept hb) hs (hE.next hb) (by omega)).mono fun e w' h => h.with hcn
  have SU : Hid (os.length ≤ 100 → (∀ p ∈ l, Short p.1 ∧ Short p.2.1) → ∀ w1, Below w.heap.size w w1 → Calls Tryd.prog 13 #[v0, .slice oa os.length oc] w1 fun e w' => ∃ v, e = .returned (.tuple #[v, .int .i64 er]) ∧ NOwn w' w1.heap.size v (if er = 0 then rowI (sumI l (ownN os)) l.length else []) ∧ Below w1.heap.size w1 w') := fun hn hs w1 hb =>
    (sums_any v0 _ l os w1 (hv.kept hb) hs (hE.next hb) (ho.kept hb) (by omega) (fun x hx => (htop x hx).2)).mono fun e w' h => h.with hc
  have FA : Hid (l.length ≤ 60 → os.length ≤ 100 → (∀ p ∈ l, Short p.1 ∧ Short p.2.1) → ∀ w1, Below w.heap.size w w1 → Calls Tryd.prog 20 #[v0, .slice oa os.length oc] w1 fun e w' => ∃ v, e = .returned (.tuple #[v, .int .i64 er]) ∧ NOwn w' w1.heap.size v (if er = 0 then rowI (facI l (ownN os)) l.length else []) ∧ Below w1.heap.size w1 w') := fun hn0 hn hs w1 hb =>
    (factors_any v0 _ l os w1 (hv.kept hb) hs (hE.next hb) (ho.kept hb) (by omega) (by omega) (fun x hx => (htop x hx).2)).mono fun e w' h => h.with hc
  have FX : Hid (AccOk l → (∀ p ∈ l, Short p.1 ∧ Short p.2.1) → ∀ w1 vx (xs : List Int), OwnOk l xs → (∀ x ∈ xs, x ≤ 9223372036854775807) → Below w.heap.size w w1 → GRow w1 vx xs → Calls Tryd.prog 20 #[v0, vx] w1 fun e w' => ∃ v, e = .returned (.tuple #[v, .int .i64 0]) ∧ NOwn w' w1.heap.size v (rowI (facI l (ownN xs)) l.length) ∧ Below w1.heap.size w1 w') := fun hA hs w1 vx xs hO ht hb hg =>
    (factors_any v0 _ l xs w1 (hv.kept hb) hs (hE.next hb) hg (by have := hA.2.1; have := hO.1; omega) (by have := hA.2.1; omega) ht).mono fun e w' h => res_ok hA hO h
  have CP : Hid (os.length ≤ 100 → ∀ w1, Below w.heap.size w w1 → Calls Tryd.prog 12 #[.slice oa os.length oc] w1 fun e w' => ∃ v', e = .returned v' ∧ NOwn w' w1.heap.size v' os ∧ Below w1.heap.size w1 w') := fun hn w1 hb => copied_any _ os w1 (by omega) (ho.kept hb)
  have hmore : 0 ≤ more ∧ more ≤ 65535 := by simpa [Lit.wf, IntKind.min, IntKind.max, IntKind.bits, IntKind.signed] using hmo
  have HO := Lib.hid ho
  have HTOP := Lib.hid htop
  have HV := Lib.hid hv
  have HCN := Lib.hid hcn
  have HC := Lib.hid hc
  obtain ⟨ON, hON⟩ : ∃ N, N = os.length := ⟨_, rfl⟩
  rw [← hON] at MN HMN SU FA CP HO ⊢
  have HON := Lib.hid hON
  obtain ⟨va, vc, rfl⟩ := hv.slice
  obtain ⟨M, hM⟩ : ∃ M, M = manyA l ON := ⟨_, rfl⟩
  rw [← hM] at MN HMN
  obtain ⟨LN, hLN⟩ : ∃ N, N = l.length := ⟨_, rfl⟩
  rw [← hLN] at MN HMN NO SU HV FA FX ⊢
  have HLN := Lib.hid hLN
  clear hE h0 h1 hat hmo hv hm hs ho hol htop hcn hc hON hM hLN
  cases M
  case true =>
    clear HMN NO SU FA FX CP
    go_enter Tryd.func7, Tryd.ntmps7
    go_wp2_with fail
    refine MN.out.mono ?_; rintro e w1 ⟨rfl, b1⟩
    have B1 := Lib.hid b1
    clear b1
    go_wp2_with fail
    refine (K.out _ B1.out).mono ?_; rintro e w2 ⟨rfl, b2⟩
    have B2 := Lib.hid (below_next b2 B1.out)
    clear b2
    go_wp2_with fail
    go_ret
    exact ⟨rfl, B2.out⟩
  case false =>
    obtain ⟨hl60, ho100, hsh⟩ := HMN.out rfl
    have NO2 := Lib.hid (NO.out hl60 hsh)
    have SU2 := Lib.hid (SU.out ho100 hsh)
    have FA2 := Lib.hid (FA.out hl60 ho100 hsh)
    have HSH := Lib.hid hsh
    clear HMN NO SU FA hsh
    by_cases hA : AccOk l
    · have hen : en = 0 := HCN.out.det (.inl ⟨rfl, hA, zeros_ok l⟩)
      have h1n : 1 ≤ LN := by rw [HLN.out]; exact hA.1
      have h50 : LN ≤ 50 := by rw [HLN.out]; exact hA.2.1
      have NO3 : Hid (∀ w1, Below w.heap.size w w1 → Calls Tryd.prog 16 #[.slice va LN vc] w1 fun e w' => ∃ v, e = .returned (.tuple #[v, .int .i64 0]) ∧ NOwn w' w1.heap.size v (rowI (normI l) LN) ∧ Below w1.heap.size w1 w') := by
        have h := NO2.out
        rw [if_pos hen, hen] at h
        exact h
      by_cases hO : OwnOk l os
      · have her : er = 0 := HC.out.det (.inl ⟨rfl, hA, hO⟩)
        have SU3 : Hid (∀ w1, Below w.heap.size w w1 → Calls Tryd.prog 13 #[.slice va LN vc, .slice oa ON oc] w1 fun e w' => ∃ v, e = .returned (.tuple #[v, .int .i64 0]) ∧ NOwn w' w1.heap.size v (rowI (sumI l (ownN os)) LN) ∧ Below w1.heap.size w1 w') := by
          have h := SU2.out
          rw [if_pos her, her] at h
          exact h
        have FA3 : Hid (∀ w1, Below w.heap.size w w1 → Calls Tryd.prog 20 #[.slice va LN vc, .slice oa ON oc] w1 fun e w' => ∃ v, e = .returned (.tuple #[v, .int .i64 0]) ∧ NOwn w' w1.heap.size v (rowI (facI l (ownN os)) LN) ∧ Below w1.heap.size w1 w') := by
          have h := FA2.out
          rw [if_pos her, her] at h
          exact h
        have HA := Lib.hid (Tree.mk' hA)
        have FX3 := Lib.hid (FX.out hA HSH.out)
        have CP3 := Lib.hid (CP.out ho100)
        have HOO := Lib.hid hO
        have HOL : Hid (ON = LN) := by unfold Hid; rw [HON.out, HLN.out]; exact hO.1
        clear hA hen hO her NO2 SU2 FA2 FX CP HO HCN HC
        go_enter Tryd.func7, Tryd.ntmps7
        go_wp2_with fail
        refine MN.out.mono ?_; rintro e w1 ⟨rfl, b1⟩
        have B1 := Lib.hid b1
        clear b1 MN
        go_wp2_with fail
        refine (FA3.out _ B1.out).mono ?_; rintro e w2 ⟨rf, rfl, hr, b2⟩
        have B2 := Lib.hid (below_next b2 B1.out)
        obtain ⟨gf, cf, hve, _, _, _, _, _⟩ := nown_parts hr (by rw [rowI_len]; exact h1n)
        subst hve
        rw [rowI_len] at hr ⊢
        have CF2 : Hid (∀ i, i < LN → w2.cell? ⟨gf, i, none⟩ = some (.int .i64 (facI l (ownN os) i : Nat))) := fun i hi => by
          have h := (nown_cell hr (k := i) (by rw [rowI_len]; exact hi)).1
          rwa [rowI_at _ hi] at h
        clear b2 hr FA3
        go_wp2_with fail
        refine (NO3.out _ B2.out).mono ?_; rintro e w3 ⟨rn, rfl, hr, b3⟩
        have B3 := Lib.hid (below_next b3 B2.out)
        obtain ⟨gn, cn, hve, _, _, _, _, _⟩ := nown_parts hr (by rw [rowI_len]; exact h1n)
        subst hve
        rw [rowI_len] at hr ⊢
        have CN3 : Hid (∀ i, i < LN → w3.cell? ⟨gn, i, none⟩ = some (.int .i64 (normI l i : Nat))) := fun i hi => by
          have h := (nown_cell hr (k := i) (by rw [rowI_len]; exact hi)).1
          rwa [rowI_at _ hi] at h
        have CF3 : Hid (∀ i, i < LN → w3.cell? ⟨gf, i, none⟩ = some (.int .i64 (facI l (ownN os) i : Nat))) := fun i hi => cell_next b3 (CF2.out i hi)
        clear b3 hr NO3 CF2
        go_wp2_with fail
        refine (SU3.out _ B3.out).mono ?_; rintro e w4 ⟨rs, rfl, hr, b4⟩
        have B4 := Lib.hid (below_next b4 B3.out)
        obtain ⟨gs, cs, hve, _, _, _, _, _⟩ := nown_parts hr (by rw [rowI_len]; exact h1n)
        subst hve
        rw [rowI_len] at hr ⊢
        have CS4 : Hid (∀ i, i < LN → w4.cell? ⟨gs, i, none⟩ = some (.int .i64 (sumI l (ownN os) i : Nat))) := fun i hi => by
          have h := (nown_cell hr (k := i) (by rw [rowI_len]; exact hi)).1
          rwa [rowI_at _ hi] at h
        have CN4 : Hid (∀ i, i < LN → w4.cell? ⟨gn, i, none⟩ = some (.int .i64 (normI l i : Nat))) := fun i hi => cell_next b4 (CN3.out i hi)
        have CF4 : Hid (∀ i, i < LN → w4.cell? ⟨gf, i, none⟩ = some (.int .i64 (facI l (ownN os) i : Nat))) := fun i hi => cell_next b4 (CF3.out i hi)
        have z1 : (LN == 0) = false := by rw [beq_eq_false_iff_ne]; omega
        have z2 : ((LN : Int) == 0) = false := by rw [beq_eq_false_iff_ne]; omega
        have z3 : ¬ LN = 0 := by omega
        have z4 : ¬ (LN : Int) = 0 := by omega
        clear b4 hr SU3 CN3 CF3
        go_wp2_with fail
        go_loopw [15] (fun iv wr => ∃ i : Nat, i ≤ LN ∧ iv = .int .i64 i ∧ wr = w4) (fun iv _ => LN - (RowKit.intOf iv).toNat)
        case atStart => exact ⟨0, Nat.zero_le _, rfl, rfl⟩
        case round =>
          obtain ⟨i, hi, rfl, hwr⟩ := hrel
          replace hwr := hwr.symm
          subst hwr
          by_cases hlt : i < LN
          · have hd : decide (i < LN) = true := decide_eq_true hlt
            have hii : (i : Int) < (LN : Int) := by omega
            have ni := CN4.out i hlt
            have si := CS4.out i hlt
            have fi := CF4.out i hlt
            have f65 := facI_le l (ownN os) i
            have fw := facI_whole l (ownN os) i
            have hs9 : sumI l (ownN os) i ≤ 9223372036854775807 := cap_le _
            have hn9 := normI_le HA.out i i (Nat.le_refl _) (by rw [← HLN.out]; exact hlt)
            obtain ⟨N, hN⟩ : ∃ x, x = normI l i := ⟨_, rfl⟩
            obtain ⟨SI, hSI⟩ : ∃ x, x = sumI l (ownN os) i := ⟨_, rfl⟩
            obtain ⟨F, hF⟩ : ∃ x, x = facI l (ownN os) i := ⟨_, rfl⟩
            rw [← hN] at ni fw hn9
            rw [← hSI] at si fw hs9
            rw [← hF] at fi fw f65
            have f1 : decide ((F : Int) < 0) = false := decide_eq_false (by omega)
            have f2 : decide ((F : Int) > 65536) = false := decide_eq_false (by omega)
            have f3 : decide (65536 < F) = false := decide_eq_false (by omega)
            clear hN hSI hF
            by_cases c : SI = 0
            · subst c
              by_cases c2 : 0 < N
              · have hF := fw rfl c2
                have f4 : decide (0 < N) = true := decide_eq_true c2
                have f5 : decide ((N : Int) > 0) = true := decide_eq_true (by omega)
                subst hF
                clear fw
                go_wp2_with fail
                go_roundw
                case rel => exact ⟨i + 1, hlt, by go_num, by trivial⟩
                case measure => simp [RowKit.intOf]; omega
              · have f4 : decide (0 < N) = false := decide_eq_false c2
                have f5 : decide ((N : Int) > 0) = false := decide_eq_false (by omega)
                clear fw
                go_wp2_with fail
                go_roundw
                case rel => exact ⟨i + 1, hlt, by go_num, by trivial⟩
                case measure => simp [RowKit.intOf]; omega
            · have f4 : (SI == 0) = false := by rw [beq_eq_false_iff_ne]; exact c
              have f5 : ((SI : Int) == 0) = false := by rw [beq_eq_false_iff_ne]; omega
              have f6 : ¬ (SI : Int) = 0 := by omega
              clear fw
              go_wp2_with fail
              go_roundw
              case rel => exact ⟨i + 1, hlt, by go_num, by trivial⟩
              case measure => simp [RowKit.intOf]; omega
          · have hd : decide (i < LN) = false := decide_eq_false hlt
            have hii : ¬ (i : Int) < (LN : Int) := by omega
            obtain ⟨U, k, u1, u2, hkl, u3⟩ := pick_mod atv LN (by omega) (by omega)
            have u4 : IntKind.u64.wrap (LN : Int) = (LN : Int) := by rw [IntKind.wrap_u64]; omega
            have s0 := CS4.out 0 (by omega)
            have h0n : (0 : Int) < (LN : Int) := by omega
            have h0m : 0 < LN := by omega
            have hs9 : sumI l (ownN os) 0 ≤ 9223372036854775807 := cap_le _
            have fall := fun (m : Nat) (hm : m ≤ 65535) (h : sumI l (ownN os) 0 ≤ 1000000000000) => fac_falls HA.out (ownN os) (k := k) (m := m) (by rw [← HLN.out]; exact hkl) h hm
            have otop := fun (h : sumI l (ownN os) 0 ≤ 1000000000000) => Nat.le_trans (Nat.le_trans (own_le l (ownN os) k (by
              have hk' : k < os.length := by rw [← HON.out, HOL.out]; exact hkl
              have hm : os.getD k 0 ∈ os := by rw [List.getD_eq_getElem?_getD, List.getElem?_eq_getElem hk']; exact List.getElem_mem hk'
              have := HTOP.out _ hm
              unfold ownN; omega)) (sumI_top HA.out (ownN os) (by rw [← HLN.out]; exact hkl))) h
            have FALL := Lib.hid fall
            have OTOP := Lib.hid otop
            obtain ⟨S0, hS0⟩ : ∃ x, x = sumI l (ownN os) 0 := ⟨_, rfl⟩
            rw [← hS0] at s0 hs9 FALL OTOP
            clear hlt hi fall otop hS0
            by_cases c : 1000000000000 < S0
            · have f1 : decide ((S0 : Int) > 1000000000000) = true := decide_eq_true (by omega)
              have f2 : decide (1000000000000 < S0) = true := decide_eq_true c
              go_wp2_with fail
              refine (K.out _ B4.out).mono ?_; rintro e w5 ⟨rfl, b5⟩
              have B5 := Lib.hid (below_next b5 B4.out)
              clear b5
              go_wp2_with fail
              go_ret
              exact ⟨rfl, B5.out⟩
            · have f1 : decide ((S0 : Int) > 1000000000000) = false := decide_eq_false (by omega)
              have f2 : decide (1000000000000 < S0) = false := decide_eq_false c
              have hOk := OTOP.out (by omega)
              have HF := Lib.hid (fun m hm => FALL.out m hm (by omega))
              clear FALL OTOP
              go_wp2_with fail
              refine (CP3.out _ B4.out).mono ?_; rintro e w5 ⟨vx, rfl, hx, b5⟩
              have B5 := Lib.hid (below_next b5 B4.out)
              have ck := cell_next b5 (CF4.out k hkl)
              have hox : k < os.length := by rw [← HON.out, HOL.out]; exact hkl
              obtain ⟨gx, cx, hve, hgx, _, _, _, _⟩ := nown_parts hx (by have := HOL.out; omega)
              subst hve
              obtain ⟨xk, fk, _, _⟩ := nown_cell hx hox
              have hm : os.getD k 0 ∈ os := by rw [List.getD_eq_getElem?_getD, List.getElem?_eq_getElem hox]; exact List.getElem_mem hox
              have ho0 := HOO.out.2 _ hm
              have e : os.getD k 0 = (ownN os k : Nat) := by unfold ownN; omega
              rw [e] at xk
              obtain ⟨m, hmm⟩ := Int.eq_ofNat_of_zero_le hmore.1
              subst hmm
              have hm65 : m ≤ 65535 := by omega
              have hst := nown_store hx hox ((ownN os k : Int) + (m : Int))
              have hxs : OwnOk l (os.set k ((ownN os k : Int) + (m : Int))) := ⟨by rw [List.length_set]; exact HOO.out.1, fun x hx => by
                rcases List.mem_or_eq_of_mem_set hx with h | h
                · exact HOO.out.2 x h
                · omega⟩
              have hxt : ∀ x ∈ os.set k ((ownN os k : Int) + (m : Int)), x ≤ 9223372036854775807 := fun x hx => by
                rcases List.mem_or_eq_of_mem_set hx with h | h
                · exact (HTOP.out x h).2
                · omega
              have hown := own_set os k m hox HOO.out.2
              have hfl := HF.out m hm65
              rw [← hown] at hfl
              have FX4 := Lib.hid (fun w1 vx => FX3.out w1 vx (os.set k ((ownN os k : Int) + (m : Int))) hxs hxt)
              rw [← HON.out] at hst ⊢
              have HST := Lib.hid hst
              have HB5 := Lib.hid b5
              have HGX := Lib.hid hgx
              have BX : Hid (Below w.heap.size w (w5.setCell ⟨gx, k, none⟩ (.int .i64 ((ownN os k : Int) + (m : Int))))) := B5.out.setCell (p := ⟨gx, k, none⟩) (Nat.le_trans B4.out.size hgx) _
              have ck2 : Hid ((w5.setCell ⟨gx, k, none⟩ (.int .i64 ((ownN os k : Int) + (m : Int)))).cell? ⟨gf, k, none⟩ = some (.int .i64 (facI l (ownN os) k : Nat))) := by
                have hne : gx ≠ gf := fun e => by have := World.block_lt_of_cell? w4 _ (CF4.out k hkl); omega
                exact (World.cell?_setCell_far _ _ _ _ hne).trans ck
              obtain ⟨XS, hXS⟩ : ∃ XS, XS = os.set k ((ownN os k : Int) + (m : Int)) := ⟨_, rfl⟩
              rw [← hXS] at hfl FX4 HST
              obtain ⟨O, hO⟩ : ∃ O, O = ownN os k := ⟨_, rfl⟩
              rw [← hO] at xk hOk BX ck2 HST
              have hkO : (k : Int) < (ON : Int) := by have := HOL.out; omega
              have HFL := Lib.hid hfl
              have HXL : Hid (XS.length = ON) := by unfold Hid; rw [hXS, List.length_set]; exact HON.out.symm
              clear hx b5 ck hox hm ho0 e hst hxs hxt hown hfl hgx hXS hO CP3 HF FX3 hm65
              go_wp2_with fail
              obtain ⟨w6, hw6⟩ : ∃ w6, w6 = w5.setCell ⟨gx, k, none⟩ (.int .i64 ((O : Int) + (m : Int))) := ⟨_, rfl⟩
              rw [← hw6] at BX ck2 HST ⊢
              clear hw6 xk fk
              refine (FX4.out _ _ BX.out (grow_of_own HST.out)).mono ?_; rintro e w7 ⟨rb, rfl, hr, b7⟩
              have B7 := Lib.hid (below_next b7 BX.out)
              obtain ⟨gb, cb, hve, _, _, _, _, _⟩ := nown_parts hr (by rw [rowI_len]; exact h1n)
              subst hve
              rw [rowI_len] at hr ⊢
              have cb := (nown_cell hr (k := k) (by rw [rowI_len]; exact hkl)).1
              rw [rowI_at _ hkl] at cb
              have ca := cell_next b7 ck2.out
              have hle := HFL.out
              have fa65 := facI_le l (ownN os) k
              obtain ⟨P, hP⟩ : ∃ P, P = facI l (ownN os) k := ⟨_, rfl⟩
              obtain ⟨Q, hQ⟩ : ∃ Q, Q = facI l (ownN XS) k := ⟨_, rfl⟩
              rw [← hP] at ca hle fa65
              rw [← hQ] at cb hle
              have g1 : decide ((Q : Int) ≤ (P : Int)) = true := decide_eq_true (by omega)
              have g2 : decide (Q ≤ P) = true := decide_eq_true hle
              have hki : (k : Int) < (LN : Int) := by omega
              clear hr b7 hP hQ HFL FX4 ck2 HST u1 u2 u3 u4
              go_wp2_with fail
              go_region_held3 (fun w' => w'.cell? ⟨gb, k, none⟩ = some (.int .i64 (Q : Nat)) ∧ w'.cell? ⟨gf, k, none⟩ = some (.int .i64 (P : Nat)) ∧ Below w7.heap.size w7 w')
                (first
                  | exact ⟨cb, ca, (Below.refl _ w7).drew⟩
                  | (rcases ‹_ ∧ _ ∧ Below _ _ _› with ⟨g0, g1, g6⟩; exact ⟨cell_next (by assumption) g0, cell_next (by assumption) g1, below_next (by assumption) g6⟩))
                (first
                  | (go_at_call 11; ((with_reducible refine (K.out _ (below_next (by rcases ‹_ ∧ _ ∧ Below _ _ _› with ⟨_, _, g6⟩; exact g6) B7.out)).mono ?_); rintro e w2 ⟨rfl, b2⟩)))
              rcases ‹_ ∧ _ ∧ Below _ _ _› with ⟨_, _, g6⟩
              have B8 := below_next g6 B7.out
              go_wp2_with fail
              go_ret
              exact ⟨rfl, B8⟩

      · have her : er = 2 := HC.out.det (.inr (.inr ⟨rfl, hA, hO⟩))
        have FA3 : Hid (∀ w1, Below w.heap.size w w1 → Calls Tryd.prog 20 #[.slice va LN vc, .slice oa ON oc] w1 fun e w' => ∃ v, e = .returned (.tuple #[v, .int .i64 2]) ∧ NOwn w' w1.heap.size v [] ∧ Below w1.heap.size w1 w') := by
          have h := FA2.out
          rw [if_neg (by rw [her]; decide), her] at h
          exact h
        clear NO2 SU2 FA2 FX CP
        go_enter Tryd.func7, Tryd.ntmps7
        go_wp2_with fail
        refine MN.out.mono ?_; rintro e w1 ⟨rfl, b1⟩
        have B1 := Lib.hid b1
        clear b1 MN
        go_wp2_with fail
        refine (FA3.out _ B1.out).mono ?_; rintro e w2 ⟨rf, rfl, hr, b2⟩
        have B2 := Lib.hid (below_next b2 B1.out)
        obtain ⟨gf, cf, rfl⟩ := own_slice hr
        clear b2 hr FA3
        go_wp2_with fail
        refine (K.out _ B2.out).mono ?_; rintro e w5 ⟨rfl, b5⟩
        have B5 := Lib.hid (below_next b5 B2.out)
        clear b5
        go_wp2_with fail
        go_ret
        exact ⟨rfl, B5.out⟩

    · have her : er = 100 := HC.out.det (.inr (.inl ⟨rfl, hA⟩))
      have FA3 : Hid (∀ w1, Below w.heap.size w w1 → Calls Tryd.prog 20 #[.slice va LN vc, .slice oa ON oc] w1 fun e w' => ∃ v, e = .returned (.tuple #[v, .int .i64 100]) ∧ NOwn w' w1.heap.size v [] ∧ Below w1.heap.size w1 w') := by
        have h := FA2.out
        rw [if_neg (by rw [her]; decide), her] at h
        exact h
      clear NO2 SU2 FA2 FX CP
      go_enter Tryd.func7, Tryd.ntmps7
      go_wp2_with fail
      refine MN.out.mono ?_; rintro e w1 ⟨rfl, b1⟩
      have B1 := Lib.hid b1
      clear b1 MN
      go_wp2_with fail
      refine (FA3.out _ B1.out).mono ?_; rintro e w2 ⟨rf, rfl, hr, b2⟩
      have B2 := Lib.hid (below_next b2 B1.out)
      obtain ⟨gf, cf, rfl⟩ := own_slice hr
      clear b2 hr FA3
      go_wp2_with fail
      refine (K.out _ B2.out).mono ?_; rintro e w5 ⟨rfl, b5⟩
      have B5 := Lib.hid (below_next b5 B2.out)
      clear b5
      go_wp2_with fail
      go_ret
      exact ⟨rfl, B5.out⟩



set_option maxRecDepth 100000 in
theorem lifted (os : Os) (started : os.Started) (H : Type) (enc : TypeId × Value → H) :
    ReturnsInHanded {} Tryd.checked os 7 .any (fun w args => (Rows.shareFallsSpec.pre enc Tryd.prog Tryd.f7 Rows.shareFallsRow.domain false w args ∧ laidMetH Tryd.prog laid11 w) ∧ sizedMet enc Tryd.prog Tryd.f7 (OpenSpec.ofChange Rows.shareFallsSpec) false w args) (Rows.shareFallsSpec.post enc Tryd.prog Tryd.f7 false true false false) := by
  refine laid_lift (C := Tryd.checked) (X := fun w _ => laidMetH Tryd.prog laid11 w) (fun _ _ _ hh h => h.of_heap hh) own started (by kernel_rfl) Tryd.func7
    (ChangeSpec.witness_shaped (enc := enc) (C := Tryd.checked) (os := os) (X := fun w _ => laidMetH Tryd.prog laid11 w) false (World.laidAll Tryd.prog os laid11) #[.slice none 0 0, .slice none 0 0, .int .i64 0, .int .u16 0] 8 (World.laidAll_os _ _ _)
      (World.shaped_of_ZipB (by kernel_rfl) (by kernel_rfl)) (by kernel_rfl) (by kernel_rfl) (by kernel_rfl)
      (by rw [MakeChecks.laidMetH_plain _ _ _ (by kernel_rfl)]; exact laidMet_laidAll _ (by kernel_rfl) (by kernel_rfl))) ?_
  intro W base args ds gs before hval0 hW hsz0 hL hS
  have hE := env11_of hL hS
  have hval : ∀ (j : Nat) t v, Tryd.f7.params[j]? = some t → args[j]? = some v → Value.okWide Tryd.prog W .any base t v := hval0
  have hW' := hW
  obtain ⟨p, q, hA0, hV, rfl, hfz, hnd⟩ := hW
  have hA : DataW.TrodAll enc Tryd.prog W 0 (fun _ => true) true Tryd.f7.params.toList args.toList ds p := hA0
  rw [Tryd.params7] at hA hval
  obtain ⟨v0, vs0, d0, ds0, p0, q0, hargs, rfl, rfl, h0, r0⟩ := trodAll_cons hA
  obtain ⟨v1, vs1, d1, ds1, p1, q1, rfl, rfl, rfl, h1, r1⟩ := trodAll_cons r0
  obtain ⟨v2, vs2, d2, ds2, p2, q2, rfl, rfl, rfl, h2, r2⟩ := trodAll_cons r1
  obtain ⟨v3, vs3, d3, ds3, p3, q3, rfl, rfl, rfl, h3, r3⟩ := trodAll_cons r2
  obtain ⟨rfl, rfl, rfl⟩ := trodAll_nil r3
  obtain rfl : args = #[v0, v1, v2, v3] := by cases args; simp_all
  obtain ⟨l, w0⟩ := open_accs_arg h0 (okWide_slice Tryd.underlying22 (hval 0 22 v0 rfl rfl))
  obtain ⟨os, w1⟩ := open_ints_arg Tryd.underlying23 Tryd.underlying3 (by kernel_rfl) h1 (okWide_slice Tryd.underlying23 (hval 1 23 v1 rfl rfl))
  obtain ⟨at', rfl, rfl, rfl, w2⟩ := open_int Tryd.underlying3 (hval 2 3 v2 rfl rfl) h2
  obtain ⟨more, rfl, rfl, rfl, w3⟩ := open_int Tryd.underlying38 (hval 3 38 v3 rfl rfl) h3
  clear hA0 hval0
  refine (walk v0 l v1 os at' more W hE w0 w1 w2 w3).mono fun e W' ⟨he, hb⟩ => ?_
  subst he
  exact ⟨_, rfl, law_post (by kernel_rfl) (by kernel_rfl) rfl Tryd.underlying4 rfl hW' rfl hb⟩

theorem over : Rows.shareFallsRow.holds Tryd.pinned (OpenSpec.ofChange Rows.shareFallsSpec) :=
  OpenClaim.holds_of_wide 7 Tryd.f7 rfl rfl rfl rfl rfl rfl rfl ⟨rfl, rfl, rfl, rfl, rfl⟩ rfl rfl rfl rfl rfl (by kernel_rfl) Tryd.func7 (by kernel_rfl)
    (of_decide_eq_true (by kernel_rfl)) (by unfold Func.isWrapper; first | (rw [if_pos (by decide +kernel)]; kernel_rfl) | (rw [if_neg (by decide +kernel)]; exact ⟨rfl, rfl⟩))
    (fun os started H enc _ => lifted os started H enc)

theorem proved : Rows.ShareFallsCardSaid :=
  Claim7.holds_tied_plain_at .later [] _ true _ false over (fun _ h => by cases h) (by kernel_rfl) (fun _ h => by cases h) shareFalls_row_tie rfl ⟨rfl, rfl⟩ (by kernel_rfl) rfl
    (fun f fn hf hfn => by
      obtain rfl : f = 7 := Option.some.inj ((show Tryd.prog.funcNamed "ganger/gangerlaw11.ShareFalls" = some 7 by kernel_rfl).symm.trans hf) |>.symm
      obtain rfl : fn = Tryd.f7 := (Option.some.inj (Tryd.func7.symm.trans hfn)).symm
      exact ⟨by kernel_rfl, fun j t ht => by
        rw [Tryd.params7] at ht
        have hm : t ∈ [22, 23, 3, 38] := by simpa using Array.mem_of_getElem? ht
        have hall : ([22, 23, 3, 38].all fun u => !Tryd.prog.wantsStandIn u) = true := by kernel_rfl
        exact (show Tryd.prog.wantsStandIn t = false by simpa using List.all_eq_true.1 hall t hm)⟩)
    (by kernel_rfl)
#print axioms proved
end Go.Proofs.YtbnlmeegepgioaaDoor.shareFalls
