/-
  ShareFactors: of any accounts what of all they have had, and their factors, are what the chapter says, or why not: so the law returns true for every input, the listed tables of Go's library reading as the program's text lays them.
-/
import Derived.Test.YtbnlmeegepgioaaDoorShKn2
import Derived.Test.YtbnlmeegepgioaaDoorShPl
import Derived.Test.YtbnlmeegepgioaaDoorRows
import Derived.Test.YtbnlmeegepgioaaDoorArgs2
import Derived.Test.YtbnlmeegepgioaaDoorLaid
import Derived.Test.YtbnlmeegepgioaaDoorCards
import Derived.Test.YtbnlmeegepgioaaDoorTie
import Derived.MakeChecks
import Derived.SevenTiedAt
namespace Go.Proofs.YtbnlmeegepgioaaDoor.shareFactors
open Go.ChangeShapes Go.WideShapes Go.ChangeAt Go.RowKit
set_option linter.unusedVariables false

theorem own : ownKnob Tryd.prog.godebug = none := by kernel_rfl

open Go Go.RowKit Go.Lib in
set_option maxRecDepth 100000 in
set_option maxHeartbeats 8000000 in
theorem walk (v0 : Value) (l : List AcT) (v1 : Value) (os : List Int) (w : World) (hE : U8W w) (h0 : AcArg w v0 l) (h1 : IntsArg w .i64 v1 os) :
    Calls Tryd.prog 5 #[v0, v1] w fun e w' => e = .returned (.bool true) ∧ Below w.heap.size w w' := by
  have K : Hid (∀ w1, Below w.heap.size w w1 → Calls Tryd.prog 11 #[] w1 fun e w' => e = .returned (.bool true) ∧ Below w1.heap.size w1 w') := fun w1 hb => known11_any w1 (hE.next hb)
  obtain ⟨hv, hm, hs⟩ := acarg_parts h0
  have ho := grow_of_ints h1
  have hol := ints_len h1
  have htop := ints_top h1
  obtain ⟨oa, oc, rfl⟩ := ho.slice
  have MN := Lib.hid (many11_any v0 l oa os.length oc w hv hm hs hol)
  have HMN : Hid (manyA l os.length = false → l.length ≤ 60 ∧ os.length ≤ 100 ∧ ∀ p ∈ l, Short p.1 ∧ Short p.2.1) := many_no
  obtain ⟨er, hc⟩ := sh_code l os
  have PA : Hid (l.length ≤ 60 → os.length ≤ 100 → (∀ p ∈ l, Short p.1 ∧ Short p.2.1) → ∀ w1, Below w.heap.size w w1 → Calls Tryd.prog 18 #[v0, .slice oa os.length oc] w1 fun e w' => ∃ v, e = .returned (.tuple #[v, .int .i64 er]) ∧ NOwn w' w1.heap.size v (if er = 0 then rowI (partI l (ownN os)) l.length else []) ∧ Below w1.heap.size w1 w') := fun hn0 hn hs w1 hb =>
    (parts_any v0 _ l os w1 (hv.kept hb) hs (hE.next hb) (ho.kept hb) (by omega) (fun x hx => (htop x hx).2)).mono fun e w' h => h.with hc
  have RP : Hid (l.length ≤ 60 → os.length ≤ 100 → (∀ p ∈ l, Short p.1 ∧ Short p.2.1) → ∀ w1, Below w.heap.size w w1 → Calls Tryd.prog 19 #[v0, .slice oa os.length oc] w1 fun e w' => ∃ v, e = .returned (.tuple #[v, .int .i64 er]) ∧ NOwn w' w1.heap.size v (if er = 0 then rowI (partI l (ownN os)) l.length else []) ∧ Below w1.heap.size w1 w') := fun hn0 hn hs w1 hb =>
    (refParts_any v0 _ l os w1 (hv.kept hb) hs (ho.kept hb) (by omega) (fun x hx => (htop x hx).2)).mono fun e w' h => h.with hc
  have FA : Hid (l.length ≤ 60 → os.length ≤ 100 → (∀ p ∈ l, Short p.1 ∧ Short p.2.1) → ∀ w1, Below w.heap.size w w1 → Calls Tryd.prog 20 #[v0, .slice oa os.length oc] w1 fun e w' => ∃ v, e = .returned (.tuple #[v, .int .i64 er]) ∧ NOwn w' w1.heap.size v (if er = 0 then rowI (facI l (ownN os)) l.length else []) ∧ Below w1.heap.size w1 w') := fun hn0 hn hs w1 hb =>
    (factors_any v0 _ l os w1 (hv.kept hb) hs (hE.next hb) (ho.kept hb) (by omega) (by omega) (fun x hx => (htop x hx).2)).mono fun e w' h => h.with hc
  have RX : Hid (l.length ≤ 60 → os.length ≤ 100 → (∀ p ∈ l, Short p.1 ∧ Short p.2.1) → ∀ w1, Below w.heap.size w w1 → Calls Tryd.prog 21 #[v0, .slice oa os.length oc] w1 fun e w' => ∃ v, e = .returned (.tuple #[v, .int .i64 er]) ∧ NOwn w' w1.heap.size v (if er = 0 then rowI (facI l (ownN os)) l.length else []) ∧ Below w1.heap.size w1 w') := fun hn0 hn hs w1 hb =>
    (refFactors_any v0 _ l os w1 (hv.kept hb) hs (ho.kept hb) (by omega) (fun x hx => (htop x hx).2)).mono fun e w' h => h.with hc
  have SA : Hid (∀ w1 v v' (xs : List Int), xs.length ≤ 1048576 → GRow w1 v xs → GRow w1 v' xs → Calls Tryd.prog 15 #[v, v'] w1 fun e w' => e = .returned (.bool true) ∧ Below w1.heap.size w1 w') := fun w1 v v' xs hn h h' => by
    have := sameN_any v v' xs xs w1 hn hn h h'
    rwa [decide_eq_true rfl] at this
  have HLL : Hid ((if er = 0 then rowI (partI l (ownN os)) l.length else []).length ≤ l.length ∧ (if er = 0 then rowI (facI l (ownN os)) l.length else []).length ≤ l.length) := by
    constructor <;> split
    · rw [rowI_len]; exact Nat.le_refl _
    · exact Nat.zero_le _
    · rw [rowI_len]; exact Nat.le_refl _
    · exact Nat.zero_le _
  obtain ⟨L, hL⟩ : ∃ L, L = (if er = 0 then rowI (partI l (ownN os)) l.length else []) := ⟨_, rfl⟩
  obtain ⟨L2, hL2⟩ : ∃ L, L = (if er = 0 then rowI (facI l (ownN os)) l.length else []) := ⟨_, rfl⟩
  rw [← hL] at PA RP HLL
  rw [← hL2] at FA RX HLL
  obtain ⟨ON, hON⟩ : ∃ N, N = os.length := ⟨_, rfl⟩
  rw [← hON] at MN HMN PA RP FA RX ⊢
  obtain ⟨va, vc, rfl⟩ := hv.slice
  obtain ⟨M, hM⟩ : ∃ M, M = manyA l ON := ⟨_, rfl⟩
  rw [← hM] at MN HMN
  clear hE h0 h1 hv hm hs ho hol htop hc hL hL2 hON hM
  cases M
  case true =>
    clear HMN PA RP FA RX SA
    go_enter Tryd.func5, Tryd.ntmps5
    go_wp2_with fail
    refine MN.out.mono ?_; rintro e w1 ⟨rfl, b1⟩
    have B1 := Lib.hid b1
    clear b1
    go_wp2_with fail
    refine (K.out _ B1.out).mono ?_; rintro e w2 ⟨rfl, b2⟩
    have B2 := Lib.hid (below_next b2 B1.out)
    clear b2
    go_wp2_with fail
    go_ret
    exact ⟨rfl, B2.out⟩
  case false =>
    obtain ⟨hl60, ho100, hsh⟩ := HMN.out rfl
    have PA2 := Lib.hid (PA.out hl60 ho100 hsh)
    have RP2 := Lib.hid (RP.out hl60 ho100 hsh)
    have FA2 := Lib.hid (FA.out hl60 ho100 hsh)
    have RX2 := Lib.hid (RX.out hl60 ho100 hsh)
    have HL60 : Hid (L.length ≤ 1048576 ∧ L2.length ≤ 1048576) := ⟨Nat.le_trans HLL.out.1 (by omega), Nat.le_trans HLL.out.2 (by omega)⟩
    clear HMN PA RP FA RX hsh HLL hl60 ho100
    go_enter Tryd.func5, Tryd.ntmps5
    go_wp2_with fail
    refine MN.out.mono ?_; rintro e w1 ⟨rfl, b1⟩
    have B1 := Lib.hid b1
    clear b1 MN
    go_wp2_with fail
    refine (PA2.out _ B1.out).mono ?_; rintro e w3 ⟨ra, rfl, hr, b3⟩
    have B3 := Lib.hid (below_next b3 B1.out)
    obtain ⟨ga, ca, rfl⟩ := own_slice hr
    have P3 := Lib.hid (grow_of_own hr)
    clear b3 hr PA2
    go_wp2_with fail
    refine (RP2.out _ B3.out).mono ?_; rintro e w4 ⟨rb, rfl, hr, b4⟩
    have B4 := Lib.hid (below_next b4 B3.out)
    have P4 := Lib.hid (P3.out.kept b4)
    have Q4 := Lib.hid (grow_of_own hr)
    obtain ⟨gb, cb, rfl⟩ := own_slice hr
    clear b4 hr RP2 P3
    go_wp2_with fail
    refine (FA2.out _ B4.out).mono ?_; rintro e w5 ⟨rc, rfl, hr, b5⟩
    have B5 := Lib.hid (below_next b5 B4.out)
    have P5 := Lib.hid (P4.out.kept b5)
    have Q5 := Lib.hid (Q4.out.kept b5)
    have F5 := Lib.hid (grow_of_own hr)
    obtain ⟨gc, cc, rfl⟩ := own_slice hr
    clear b5 hr FA2 P4 Q4
    go_wp2_with fail
    refine (RX2.out _ B5.out).mono ?_; rintro e w6 ⟨rd, rfl, hr, b6⟩
    have B6 := Lib.hid (below_next b6 B5.out)
    have P6 := Lib.hid (P5.out.kept b6)
    have Q6 := Lib.hid (Q5.out.kept b6)
    have F6 := Lib.hid (F5.out.kept b6)
    have G6 := Lib.hid (grow_of_own hr)
    obtain ⟨gd, cd, rfl⟩ := own_slice hr
    clear b6 hr RX2 P5 Q5 F5
    go_wp2_with fail
    refine (SA.out _ _ _ _ HL60.out.1 P6.out Q6.out).mono ?_; rintro e w7 ⟨rfl, b7⟩
    have B7 := Lib.hid (below_next b7 B6.out)
    have F7 := Lib.hid (F6.out.kept b7)
    have G7 := Lib.hid (G6.out.kept b7)
    clear b7 P6 Q6 F6 G6
    go_wp2_with fail
    refine (SA.out _ _ _ _ HL60.out.2 F7.out G7.out).mono ?_; rintro e w8 ⟨rfl, b8⟩
    have B8 := Lib.hid (below_next b8 B7.out)
    clear b8 F7 G7
    go_wp2_with fail
    refine (K.out _ B8.out).mono ?_; rintro e w9 ⟨rfl, b9⟩
    have B9 := Lib.hid (below_next b9 B8.out)
    clear b9
    go_wp2_with fail
    go_ret
    exact ⟨rfl, B9.out⟩


set_option maxRecDepth 100000 in
theorem lifted (os : Os) (started : os.Started) (H : Type) (enc : TypeId × Value → H) :
    ReturnsInHanded {} Tryd.checked os 5 .any (fun w args => (Rows.shareFactorsSpec.pre enc Tryd.prog Tryd.f5 Rows.shareFactorsRow.domain false w args ∧ laidMetH Tryd.prog laid11 w) ∧ sizedMet enc Tryd.prog Tryd.f5 (OpenSpec.ofChange Rows.shareFactorsSpec) false w args) (Rows.shareFactorsSpec.post enc Tryd.prog Tryd.f5 false true false false) := by
  refine laid_lift (C := Tryd.checked) (X := fun w _ => laidMetH Tryd.prog laid11 w) (fun _ _ _ hh h => h.of_heap hh) own started (by kernel_rfl) Tryd.func5
    (ChangeSpec.witness_shaped (enc := enc) (C := Tryd.checked) (os := os) (X := fun w _ => laidMetH Tryd.prog laid11 w) false (World.laidAll Tryd.prog os laid11) #[.slice none 0 0, .slice none 0 0] 8 (World.laidAll_os _ _ _)
      (World.shaped_of_ZipB (by kernel_rfl) (by kernel_rfl)) (by kernel_rfl) (by kernel_rfl) (by kernel_rfl)
      (by rw [MakeChecks.laidMetH_plain _ _ _ (by kernel_rfl)]; exact laidMet_laidAll _ (by kernel_rfl) (by kernel_rfl))) ?_
  intro W base args ds gs before hval0 hW hsz0 hL hS
  have hE := env11_of hL hS
  have hval : ∀ (j : Nat) t v, Tryd.f5.params[j]? = some t → args[j]? = some v → Value.okWide Tryd.prog W .any base t v := hval0
  have hW' := hW
  obtain ⟨p, q, hA0, hV, rfl, hfz, hnd⟩ := hW
  have hA : DataW.TrodAll enc Tryd.prog W 0 (fun _ => true) true Tryd.f5.params.toList args.toList ds p := hA0
  rw [Tryd.params5] at hA hval
  obtain ⟨v0, vs0, d0, ds0, p0, q0, hargs, rfl, rfl, h0, r0⟩ := trodAll_cons hA
  obtain ⟨v1, vs1, d1, ds1, p1, q1, rfl, rfl, rfl, h1, r1⟩ := trodAll_cons r0
  obtain ⟨rfl, rfl, rfl⟩ := trodAll_nil r1
  obtain rfl : args = #[v0, v1] := by cases args; simp_all
  obtain ⟨l, w0⟩ := open_accs_arg h0 (okWide_slice Tryd.underlying22 (hval 0 22 v0 rfl rfl))
  obtain ⟨os, w1⟩ := open_ints_arg Tryd.underlying23 Tryd.underlying3 (by kernel_rfl) h1 (okWide_slice Tryd.underlying23 (hval 1 23 v1 rfl rfl))
  clear hA0 hval0
  refine (walk v0 l v1 os W hE w0 w1).mono fun e W' ⟨he, hb⟩ => ?_
  subst he
  exact ⟨_, rfl, law_post (by kernel_rfl) (by kernel_rfl) rfl Tryd.underlying4 rfl hW' rfl hb⟩

theorem over : Rows.shareFactorsRow.holds Tryd.pinned (OpenSpec.ofChange Rows.shareFactorsSpec) :=
  OpenClaim.holds_of_wide 5 Tryd.f5 rfl rfl rfl rfl rfl rfl rfl ⟨rfl, rfl, rfl, rfl, rfl⟩ rfl rfl rfl rfl rfl (by kernel_rfl) Tryd.func5 (by kernel_rfl)
    (of_decide_eq_true (by kernel_rfl)) (by unfold Func.isWrapper; first | (rw [if_pos (by decide +kernel)]; kernel_rfl) | (rw [if_neg (by decide +kernel)]; exact ⟨rfl, rfl⟩))
    (fun os started H enc _ => lifted os started H enc)

theorem proved : Rows.ShareFactorsCardSaid :=
  Claim7.holds_tied_plain_at .later [] _ true _ false over (fun _ h => by cases h) (by kernel_rfl) (fun _ h => by cases h) shareFactors_row_tie rfl ⟨rfl, rfl⟩ (by kernel_rfl) rfl
    (fun f fn hf hfn => by
      obtain rfl : f = 5 := Option.some.inj ((show Tryd.prog.funcNamed "ganger/gangerlaw11.ShareFactors" = some 5 by kernel_rfl).symm.trans hf) |>.symm
      obtain rfl : fn = Tryd.f5 := (Option.some.inj (Tryd.func5.symm.trans hfn)).symm
      exact ⟨by kernel_rfl, fun j t ht => by
        rw [Tryd.params5] at ht
        have hm : t ∈ [22, 23] := by simpa using Array.mem_of_getElem? ht
        have hall : ([22, 23].all fun u => !Tryd.prog.wantsStandIn u) = true := by kernel_rfl
        exact (show Tryd.prog.wantsStandIn t = false by simpa using List.all_eq_true.1 hall t hm)⟩)
    (by kernel_rfl)
#print axioms proved
end Go.Proofs.YtbnlmeegepgioaaDoor.shareFactors
