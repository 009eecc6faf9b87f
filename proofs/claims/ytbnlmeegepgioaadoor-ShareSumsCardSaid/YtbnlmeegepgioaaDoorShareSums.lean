/-
  ShareSums: of any accounts what they, and those below them, have used is what the chapter says, or why not; what is handed in stays, what comes out is its owner's: so the law returns true for every input, the listed tables of Go's library reading as the program's text lays them.
-/
import Derived.Test.YtbnlmeegepgioaaDoorShKn2
import Derived.Test.YtbnlmeegepgioaaDoorShPl
import Derived.Test.YtbnlmeegepgioaaDoorRows
import Derived.Test.YtbnlmeegepgioaaDoorArgs2
import Derived.Test.YtbnlmeegepgioaaDoorLaid
import Derived.Test.YtbnlmeegepgioaaDoorCards
import Derived.Test.YtbnlmeegepgioaaDoorTie
import Derived.MakeChecks
import Derived.SevenTiedAt
namespace Go.Proofs.YtbnlmeegepgioaaDoor.shareSums
open Go.ChangeShapes Go.WideShapes Go.ChangeAt Go.RowKit
set_option linter.unusedVariables false

theorem own : ownKnob Tryd.prog.godebug = none := by kernel_rfl

open Go Go.RowKit Go.Lib in
set_option maxRecDepth 100000 in
set_option maxHeartbeats 8000000 in
theorem walk (v0 : Value) (l : List AcT) (v1 : Value) (os : List Int) (w : World) (hE : U8W w) (h0 : AcArg w v0 l) (h1 : IntsArg w .i64 v1 os) :
    Calls Tryd.prog 3 #[v0, v1] w fun e w' => e = .returned (.bool true) ∧ Below w.heap.size w w' := by
  have K : Hid (∀ w1, Below w.heap.size w w1 → Calls Tryd.prog 11 #[] w1 fun e w' => e = .returned (.bool true) ∧ Below w1.heap.size w1 w') := fun w1 hb => known11_any w1 (hE.next hb)
  obtain ⟨hv, hm, hs⟩ := acarg_parts h0
  have ho := grow_of_ints h1
  have hol := ints_len h1
  have htop := ints_top h1
  obtain ⟨oa, oc, rfl⟩ := ho.slice
  have MN := Lib.hid (many11_any v0 l oa os.length oc w hv hm hs hol)
  have HMN : Hid (manyA l os.length = false → l.length ≤ 60 ∧ os.length ≤ 100 ∧ ∀ p ∈ l, Short p.1 ∧ Short p.2.1) := many_no
  obtain ⟨er, hc⟩ := sh_code l os
  have CP : Hid (os.length ≤ 100 → ∀ w1, Below w.heap.size w w1 → Calls Tryd.prog 12 #[.slice oa os.length oc] w1 fun e w' => ∃ v', e = .returned v' ∧ NOwn w' w1.heap.size v' os ∧ Below w1.heap.size w1 w') := fun hn w1 hb => copied_any _ os w1 (by omega) (ho.kept hb)
  have SU : Hid (os.length ≤ 100 → (∀ p ∈ l, Short p.1 ∧ Short p.2.1) → ∀ w1 vx, Below w.heap.size w w1 → GRow w1 vx os → Calls Tryd.prog 13 #[v0, vx] w1 fun e w' => ∃ v, e = .returned (.tuple #[v, .int .i64 er]) ∧ NOwn w' w1.heap.size v (if er = 0 then rowI (sumI l (ownN os)) l.length else []) ∧ Below w1.heap.size w1 w') := fun hn hs w1 vx hb hx =>
    (sums_any v0 vx l os w1 (hv.kept hb) hs (hE.next hb) hx (by omega) (fun x hx => (htop x hx).2)).mono fun e w' h => h.with hc
  have RF : Hid (os.length ≤ 100 → (∀ p ∈ l, Short p.1 ∧ Short p.2.1) → ∀ w1, Below w.heap.size w w1 → Calls Tryd.prog 14 #[v0, .slice oa os.length oc] w1 fun e w' => ∃ v, e = .returned (.tuple #[v, .int .i64 er]) ∧ NOwn w' w1.heap.size v (if er = 0 then rowI (sumI l (ownN os)) l.length else []) ∧ Below w1.heap.size w1 w') := fun hn hs w1 hb =>
    (refSums_any v0 _ l os w1 (hv.kept hb) hs (ho.kept hb) (by omega) (fun x hx => (htop x hx).2)).mono fun e w' h => h.with hc
  have SA : Hid (∀ w1 v v' (xs : List Int), xs.length ≤ 1048576 → GRow w1 v xs → GRow w1 v' xs → Calls Tryd.prog 15 #[v, v'] w1 fun e w' => e = .returned (.bool true) ∧ Below w1.heap.size w1 w') := fun w1 v v' xs hn h h' => by
    have := sameN_any v v' xs xs w1 hn hn h h'
    rwa [decide_eq_true rfl] at this
  have HO := Lib.hid ho
  have HLL : Hid ((if er = 0 then rowI (sumI l (ownN os)) l.length else []).length ≤ l.length) := by
    unfold Hid; split
    · rw [rowI_len]; exact Nat.le_refl _
    · exact Nat.zero_le _
  obtain ⟨L, hL⟩ : ∃ L, L = (if er = 0 then rowI (sumI l (ownN os)) l.length else []) := ⟨_, rfl⟩
  rw [← hL] at SU RF HLL
  obtain ⟨ON, hON⟩ : ∃ N, N = os.length := ⟨_, rfl⟩
  rw [← hON] at MN HMN CP SU RF HO ⊢
  have HON := Lib.hid hON
  obtain ⟨va, vc, rfl⟩ := hv.slice
  obtain ⟨M, hM⟩ : ∃ M, M = manyA l ON := ⟨_, rfl⟩
  rw [← hM] at MN HMN
  clear hE h0 h1 hv hm hs ho hol htop hc hL hON hM
  cases M
  case true =>
    clear HMN CP SU RF SA
    go_enter Tryd.func3, Tryd.ntmps3
    go_wp2_with fail
    refine MN.out.mono ?_; rintro e w1 ⟨rfl, b1⟩
    have B1 := Lib.hid b1
    clear b1
    go_wp2_with fail
    refine (K.out _ B1.out).mono ?_; rintro e w2 ⟨rfl, b2⟩
    have B2 := Lib.hid (below_next b2 B1.out)
    clear b2
    go_wp2_with fail
    go_ret
    exact ⟨rfl, B2.out⟩
  case false =>
    obtain ⟨hl60, ho100, hsh⟩ := HMN.out rfl
    have CP2 := Lib.hid (CP.out ho100)
    have SU2 := Lib.hid (SU.out ho100 hsh)
    have RF2 := Lib.hid (RF.out ho100 hsh)
    have HL60 : Hid (L.length ≤ 60) := Nat.le_trans HLL.out hl60
    have HO100 : Hid (os.length ≤ 100) := by unfold Hid; rw [← HON.out]; exact ho100
    clear HMN CP SU RF hsh HLL hl60
    go_enter Tryd.func3, Tryd.ntmps3
    go_wp2_with fail
    refine MN.out.mono ?_; rintro e w1 ⟨rfl, b1⟩
    have B1 := Lib.hid b1
    clear b1 MN
    go_wp2_with fail
    refine (CP2.out _ B1.out).mono ?_; rintro e w2 ⟨vx, rfl, hx, b2⟩
    have B2 := Lib.hid (below_next b2 B1.out)
    obtain ⟨xa, xc, rfl⟩ := own_slice hx
    have X2 := Lib.hid hx
    rw [← HON.out] at X2
    clear b2 hx CP2
    go_wp2_with fail
    rw [← HON.out]
    refine (SU2.out _ _ B2.out (grow_of_own X2.out)).mono ?_; rintro e w3 ⟨ra, rfl, hr, b3⟩
    have B3 := Lib.hid (below_next b3 B2.out)
    have X3 := Lib.hid (grow_of_own (own_older X2.out b3))
    have XG := Lib.hid (grow_of_own X2.out)
    have C3 := Lib.hid b3
    obtain ⟨ga, ca, rfl⟩ := own_slice hr
    have R3 := Lib.hid hr
    clear b3 hr SU2 X2
    go_wp2_with fail
    refine (RF2.out _ B3.out).mono ?_; rintro e w4 ⟨rb, rfl, hr, b4⟩
    have B4 := Lib.hid (below_next b4 B3.out)
    have X4 := Lib.hid (X3.out.kept b4)
    have R4 := Lib.hid (own_older R3.out b4)
    have S4 := Lib.hid (grow_of_own hr)
    have C4 := Lib.hid (below_next b4 C3.out)
    obtain ⟨gb, cb, rfl⟩ := own_slice hr
    clear b4 hr RF2 X3 R3
    go_wp2_with fail
    refine (SA.out _ _ _ _ (by have := HL60.out; omega) (grow_of_own R4.out) S4.out).mono ?_; rintro e w5 ⟨rfl, b5⟩
    have B5 := Lib.hid (below_next b5 B4.out)
    have X5 := Lib.hid (X4.out.kept b5)
    have R5 := Lib.hid (own_older R4.out b5)
    have C5 := Lib.hid (below_next b5 C4.out)
    clear b5 X4 R4 S4 C3 C4
    go_wp2_with fail
    have R6 : Hid (∃ L' : List Int, L'.length = L.length ∧ NOwn w5 w2.heap.size (.slice ga L.length ca) L') := ⟨L, rfl, R5.out⟩
    clear R5
    obtain ⟨LL, hLL⟩ : ∃ n, n = L.length := ⟨_, rfl⟩
    have hl60 : LL ≤ 60 := by rw [hLL]; exact HL60.out
    rw [← hLL] at R6 ⊢
    clear hLL
    go_loopw [10] (fun iv wr => ∃ k : Nat, k ≤ LL ∧ iv = .int .i64 k ∧ Hid (∃ L' : List Int, L'.length = LL ∧ NOwn wr w2.heap.size (.slice ga LL ca) L') ∧ Hid (Below w2.heap.size w2 wr)) (fun iv _ => LL - (RowKit.intOf iv).toNat)
    case atStart => exact ⟨0, Nat.zero_le _, rfl, R6, C5⟩
    case round =>
      obtain ⟨k, hk, rfl, HR, HB⟩ := hrel
      by_cases hlt : k < LL
      · have hd : decide (k < LL) = true := decide_eq_true hlt
        have hki : (k : Int) < (LL : Int) := by omega
        obtain ⟨L', hL', hown⟩ := HR.out
        obtain ⟨g, c, hve, hg1, _, _, _, _⟩ := nown_parts hown (by omega)
        rw [hL'] at hve
        injection hve with hve _ hc
        subst hve; subst hc
        obtain ⟨ck, fk, _, _⟩ := nown_cell hown (k := k) (by omega)
        have HS : Hid (∃ L' : List Int, L'.length = LL ∧ NOwn (wr.setCell ⟨g, k, none⟩ (.int .i64 (-7))) w2.heap.size (.slice (some ⟨g, 0, none⟩) LL ca) L') := ⟨L'.set k (-7), by rw [List.length_set]; exact hL', nown_store hown (by omega) (-7)⟩
        have HB2 : Hid (Below w2.heap.size w2 (wr.setCell ⟨g, k, none⟩ (.int .i64 (-7)))) := HB.out.setCell (p := ⟨g, k, none⟩) hg1 _
        obtain ⟨x, hx⟩ : ∃ x, x = L'.getD k 0 := ⟨_, rfl⟩
        rw [← hx] at ck
        clear hown hL' hx hg1
        go_wp2_with fail
        go_roundw
        case rel => exact ⟨k + 1, hlt, by go_num, HS, HB2⟩
        case measure => simp [RowKit.intOf]; omega
      · have hd : decide (k < LL) = false := decide_eq_false hlt
        have hki : ¬ (k : Int) < (LL : Int) := by omega
        have S1 := Lib.hid (SA.out wr _ _ os (by have := HO100.out; omega) (XG.out.kept HB.out) (HO.out.kept (B2.out.trans (HB.out.mono B2.out.size))))
        have BW : Hid (Below w.heap.size w wr) := B2.out.trans (HB.out.mono B2.out.size)
        clear hlt hk
        go_wp2_with fail
        refine S1.out.mono ?_; rintro e w6 ⟨rfl, b6⟩
        have B6 := Lib.hid (below_next b6 BW.out)
        clear b6
        go_wp2_with fail
        refine (K.out _ B6.out).mono ?_; rintro e w7 ⟨rfl, b7⟩
        have B7 := Lib.hid (below_next b7 B6.out)
        clear b7
        go_wp2_with fail
        go_ret
        exact ⟨rfl, B7.out⟩


set_option maxRecDepth 100000 in
theorem lifted (os : Os) (started : os.Started) (H : Type) (enc : TypeId × Value → H) :
    ReturnsInHanded {} Tryd.checked os 3 .any (fun w args => (Rows.shareSumsSpec.pre enc Tryd.prog Tryd.f3 Rows.shareSumsRow.domain false w args ∧ laidMetH Tryd.prog laid11 w) ∧ sizedMet enc Tryd.prog Tryd.f3 (OpenSpec.ofChange Rows.shareSumsSpec) false w args) (Rows.shareSumsSpec.post enc Tryd.prog Tryd.f3 false true false false) := by
  refine laid_lift (C := Tryd.checked) (X := fun w _ => laidMetH Tryd.prog laid11 w) (fun _ _ _ hh h => h.of_heap hh) own started (by kernel_rfl) Tryd.func3
    (ChangeSpec.witness_shaped (enc := enc) (C := Tryd.checked) (os := os) (X := fun w _ => laidMetH Tryd.prog laid11 w) false (World.laidAll Tryd.prog os laid11) #[.slice none 0 0, .slice none 0 0] 8 (World.laidAll_os _ _ _)
      (World.shaped_of_ZipB (by kernel_rfl) (by kernel_rfl)) (by kernel_rfl) (by kernel_rfl) (by kernel_rfl)
      (by rw [MakeChecks.laidMetH_plain _ _ _ (by kernel_rfl)]; exact laidMet_laidAll _ (by kernel_rfl) (by kernel_rfl))) ?_
  intro W base args ds gs before hval0 hW hsz0 hL hS
  have hE := env11_of hL hS
  have hval : ∀ (j : Nat) t v, Tryd.f3.params[j]? = some t → args[j]? = some v → Value.okWide Tryd.prog W .any base t v := hval0
  have hW' := hW
  obtain ⟨p, q, hA0, hV, rfl, hfz, hnd⟩ := hW
  have hA : DataW.TrodAll enc Tryd.prog W 0 (fun _ => true) true Tryd.f3.params.toList args.toList ds p := hA0
  rw [Tryd.params3] at hA hval
  obtain ⟨v0, vs0, d0, ds0, p0, q0, hargs, rfl, rfl, h0, r0⟩ := trodAll_cons hA
  obtain ⟨v1, vs1, d1, ds1, p1, q1, rfl, rfl, rfl, h1, r1⟩ := trodAll_cons r0
  obtain ⟨rfl, rfl, rfl⟩ := trodAll_nil r1
  obtain rfl : args = #[v0, v1] := by cases args; simp_all
  obtain ⟨l, w0⟩ := open_accs_arg h0 (okWide_slice Tryd.underlying22 (hval 0 22 v0 rfl rfl))
  obtain ⟨os, w1⟩ := open_ints_arg Tryd.underlying23 Tryd.underlying3 (by kernel_rfl) h1 (okWide_slice Tryd.underlying23 (hval 1 23 v1 rfl rfl))
  clear hA0 hval0
  refine (walk v0 l v1 os W hE w0 w1).mono fun e W' ⟨he, hb⟩ => ?_
  subst he
  exact ⟨_, rfl, law_post (by kernel_rfl) (by kernel_rfl) rfl Tryd.underlying4 rfl hW' rfl hb⟩

theorem over : Rows.shareSumsRow.holds Tryd.pinned (OpenSpec.ofChange Rows.shareSumsSpec) :=
  OpenClaim.holds_of_wide 3 Tryd.f3 rfl rfl rfl rfl rfl rfl rfl ⟨rfl, rfl, rfl, rfl, rfl⟩ rfl rfl rfl rfl rfl (by kernel_rfl) Tryd.func3 (by kernel_rfl)
    (of_decide_eq_true (by kernel_rfl)) (by unfold Func.isWrapper; first | (rw [if_pos (by decide +kernel)]; kernel_rfl) | (rw [if_neg (by decide +kernel)]; exact ⟨rfl, rfl⟩))
    (fun os started H enc _ => lifted os started H enc)

theorem proved : Rows.ShareSumsCardSaid :=
  Claim7.holds_tied_plain_at .later [] _ true _ false over (fun _ h => by cases h) (by kernel_rfl) (fun _ h => by cases h) shareSums_row_tie rfl ⟨rfl, rfl⟩ (by kernel_rfl) rfl
    (fun f fn hf hfn => by
      obtain rfl : f = 3 := Option.some.inj ((show Tryd.prog.funcNamed "ganger/gangerlaw11.ShareSums" = some 3 by kernel_rfl).symm.trans hf) |>.symm
      obtain rfl : fn = Tryd.f3 := (Option.some.inj (Tryd.func3.symm.trans hfn)).symm
      exact ⟨by kernel_rfl, fun j t ht => by
        rw [Tryd.params3] at ht
        have hm : t ∈ [22, 23] := by simpa using Array.mem_of_getElem? ht
        have hall : ([22, 23].all fun u => !Tryd.prog.wantsStandIn u) = true := by kernel_rfl
        exact (show Tryd.prog.wantsStandIn t = false by simpa using List.all_eq_true.1 hall t hm)⟩)
    (by kernel_rfl)
#print axioms proved
end Go.Proofs.YtbnlmeegepgioaaDoor.shareSums
