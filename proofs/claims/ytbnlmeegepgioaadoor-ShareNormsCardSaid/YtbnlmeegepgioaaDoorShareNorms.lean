/-
  ShareNorms: of any accounts what they are entitled to is what the chapter says, or why not: so the law returns true for every input, the listed tables of Go's library reading as the program's text lays them.
-/
import Derived.Test.YtbnlmeegepgioaaDoorShKn2
import Derived.Test.YtbnlmeegepgioaaDoorShPl
import Derived.Test.YtbnlmeegepgioaaDoorRows
import Derived.Test.YtbnlmeegepgioaaDoorArgs2
import Derived.Test.YtbnlmeegepgioaaDoorLaid
import Derived.Test.YtbnlmeegepgioaaDoorCards
import Derived.Test.YtbnlmeegepgioaaDoorTie
import Derived.MakeChecks
import Derived.SevenTiedAt
namespace Go.Proofs.YtbnlmeegepgioaaDoor.shareNorms
open Go.ChangeShapes Go.WideShapes Go.ChangeAt Go.RowKit
set_option linter.unusedVariables false

theorem own : ownKnob Tryd.prog.godebug = none := by kernel_rfl

open Go Go.RowKit Go.Lib in
set_option maxRecDepth 100000 in
set_option maxHeartbeats 8000000 in
theorem walk (v0 : Value) (l : List AcT) (w : World) (hE : U8W w) (h0 : AcArg w v0 l) :
    Calls Tryd.prog 4 #[v0] w fun e w' => e = .returned (.bool true) ∧ Below w.heap.size w w' := by
  have K : Hid (∀ w1, Below w.heap.size w w1 → Calls Tryd.prog 11 #[] w1 fun e w' => e = .returned (.bool true) ∧ Below w1.heap.size w1 w') := fun w1 hb => known11_any w1 (hE.next hb)
  obtain ⟨hv, hm, hs⟩ := acarg_parts h0
  have MN := Lib.hid (many11_any v0 l none 0 0 w hv hm hs (Nat.zero_le _))
  have HMN : Hid (manyA l 0 = false → l.length ≤ 60 ∧ 0 ≤ 100 ∧ ∀ p ∈ l, Short p.1 ∧ Short p.2.1) := many_no
  obtain ⟨er, hc⟩ := sh_code l (zerosI l.length)
  have NO : Hid (l.length ≤ 60 → (∀ p ∈ l, Short p.1 ∧ Short p.2.1) → ∀ w1, Below w.heap.size w w1 → Calls Tryd.prog 16 #[v0] w1 fun e w' => ∃ v, e = .returned (.tuple #[v, .int .i64 er]) ∧ NOwn w' w1.heap.size v (if er = 0 then rowI (normI l) l.length else []) ∧ Below w1.heap.size w1 w') := fun hn hs w1 hb =>
    (norms_any v0 l w1 (hv.kept hb) hs (hE.next hb) (by omega)).mono fun e w' h => h.with hc
  have RF : Hid (l.length ≤ 60 → (∀ p ∈ l, Short p.1 ∧ Short p.2.1) → ∀ w1, Below w.heap.size w w1 → Calls Tryd.prog 17 #[v0] w1 fun e w' => ∃ v, e = .returned (.tuple #[v, .int .i64 er]) ∧ NOwn w' w1.heap.size v (if er = 0 then rowI (normI l) l.length else []) ∧ Below w1.heap.size w1 w') := fun hn hs w1 hb =>
    (refNorms_any v0 l w1 (hv.kept hb) hs (by omega)).mono fun e w' h => h.with hc
  have SA : Hid (∀ w1 v v' (xs : List Int), xs.length ≤ 1048576 → GRow w1 v xs → GRow w1 v' xs → Calls Tryd.prog 15 #[v, v'] w1 fun e w' => e = .returned (.bool true) ∧ Below w1.heap.size w1 w') := fun w1 v v' xs hn h h' => by
    have := sameN_any v v' xs xs w1 hn hn h h'
    rwa [decide_eq_true rfl] at this
  have HLL : Hid ((if er = 0 then rowI (normI l) l.length else []).length ≤ l.length) := by
    unfold Hid; split
    · rw [rowI_len]; exact Nat.le_refl _
    · exact Nat.zero_le _
  obtain ⟨L, hL⟩ : ∃ L, L = (if er = 0 then rowI (normI l) l.length else []) := ⟨_, rfl⟩
  rw [← hL] at NO RF HLL
  obtain ⟨va, vc, rfl⟩ := hv.slice
  obtain ⟨M, hM⟩ : ∃ M, M = manyA l 0 := ⟨_, rfl⟩
  rw [← hM] at MN HMN
  clear hE h0 hv hm hs hc hL hM
  cases M
  case true =>
    clear HMN NO RF SA
    go_enter Tryd.func4, Tryd.ntmps4
    go_wp2_with fail
    refine MN.out.mono ?_; rintro e w1 ⟨rfl, b1⟩
    have B1 := Lib.hid b1
    clear b1
    go_wp2_with fail
    refine (K.out _ B1.out).mono ?_; rintro e w2 ⟨rfl, b2⟩
    have B2 := Lib.hid (below_next b2 B1.out)
    clear b2
    go_wp2_with fail
    go_ret
    exact ⟨rfl, B2.out⟩
  case false =>
    obtain ⟨hl60, _, hsh⟩ := HMN.out rfl
    have NO2 := Lib.hid (NO.out hl60 hsh)
    have RF2 := Lib.hid (RF.out hl60 hsh)
    have HL60 : Hid (L.length ≤ 1048576) := Nat.le_trans HLL.out (by omega)
    clear HMN NO RF hsh HLL hl60
    go_enter Tryd.func4, Tryd.ntmps4
    go_wp2_with fail
    refine MN.out.mono ?_; rintro e w1 ⟨rfl, b1⟩
    have B1 := Lib.hid b1
    clear b1 MN
    go_wp2_with fail
    refine (NO2.out _ B1.out).mono ?_; rintro e w3 ⟨ra, rfl, hr, b3⟩
    have B3 := Lib.hid (below_next b3 B1.out)
    obtain ⟨ga, ca, rfl⟩ := own_slice hr
    have R3 := Lib.hid (grow_of_own hr)
    clear b3 hr NO2
    go_wp2_with fail
    refine (RF2.out _ B3.out).mono ?_; rintro e w4 ⟨rb, rfl, hr, b4⟩
    have B4 := Lib.hid (below_next b4 B3.out)
    have R4 := Lib.hid (R3.out.kept b4)
    have S4 := Lib.hid (grow_of_own hr)
    obtain ⟨gb, cb, rfl⟩ := own_slice hr
    clear b4 hr RF2 R3
    go_wp2_with fail
    refine (SA.out _ _ _ _ HL60.out R4.out S4.out).mono ?_; rintro e w5 ⟨rfl, b5⟩
    have B5 := Lib.hid (below_next b5 B4.out)
    clear b5 R4 S4
    go_wp2_with fail
    refine (K.out _ B5.out).mono ?_; rintro e w6 ⟨rfl, b6⟩
    have B6 := Lib.hid (below_next b6 B5.out)
    clear b6
    go_wp2_with fail
    go_ret
    exact ⟨rfl, B6.out⟩


set_option maxRecDepth 100000 in
theorem lifted (os : Os) (started : os.Started) (H : Type) (enc : TypeId × Value → H) :
    ReturnsInHanded {} Tryd.checked os 4 .any (fun w args => (Rows.shareNormsSpec.pre enc Tryd.prog Tryd.f4 Rows.shareNormsRow.domain false w args ∧ laidMetH Tryd.prog laid11 w) ∧ sizedMet enc Tryd.prog Tryd.f4 (OpenSpec.ofChange Rows.shareNormsSpec) false w args) (Rows.shareNormsSpec.post enc Tryd.prog Tryd.f4 false true false false) := by
  refine laid_lift (C := Tryd.checked) (X := fun w _ => laidMetH Tryd.prog laid11 w) (fun _ _ _ hh h => h.of_heap hh) own started (by kernel_rfl) Tryd.func4
    (ChangeSpec.witness_shaped (enc := enc) (C := Tryd.checked) (os := os) (X := fun w _ => laidMetH Tryd.prog laid11 w) false (World.laidAll Tryd.prog os laid11) #[.slice none 0 0] 8 (World.laidAll_os _ _ _)
      (World.shaped_of_ZipB (by kernel_rfl) (by kernel_rfl)) (by kernel_rfl) (by kernel_rfl) (by kernel_rfl)
      (by rw [MakeChecks.laidMetH_plain _ _ _ (by kernel_rfl)]; exact laidMet_laidAll _ (by kernel_rfl) (by kernel_rfl))) ?_
  intro W base args ds gs before hval0 hW hsz0 hL hS
  have hE := env11_of hL hS
  have hval : ∀ (j : Nat) t v, Tryd.f4.params[j]? = some t → args[j]? = some v → Value.okWide Tryd.prog W .any base t v := hval0
  have hW' := hW
  obtain ⟨p, q, hA0, hV, rfl, hfz, hnd⟩ := hW
  have hA : DataW.TrodAll enc Tryd.prog W 0 (fun _ => true) true Tryd.f4.params.toList args.toList ds p := hA0
  rw [Tryd.params4] at hA hval
  obtain ⟨v0, vs0, d0, ds0, p0, q0, hargs, rfl, rfl, h0, r0⟩ := trodAll_cons hA
  obtain ⟨rfl, rfl, rfl⟩ := trodAll_nil r0
  obtain rfl : args = #[v0] := by cases args; simp_all
  obtain ⟨l, w0⟩ := open_accs_arg h0 (okWide_slice Tryd.underlying22 (hval 0 22 v0 rfl rfl))
  clear hA0 hval0
  refine (walk v0 l W hE w0).mono fun e W' ⟨he, hb⟩ => ?_
  subst he
  exact ⟨_, rfl, law_post (by kernel_rfl) (by kernel_rfl) rfl Tryd.underlying4 rfl hW' rfl hb⟩

theorem over : Rows.shareNormsRow.holds Tryd.pinned (OpenSpec.ofChange Rows.shareNormsSpec) :=
  OpenClaim.holds_of_wide 4 Tryd.f4 rfl rfl rfl rfl rfl rfl rfl ⟨rfl, rfl, rfl, rfl, rfl⟩ rfl rfl rfl rfl rfl (by kernel_rfl) Tryd.func4 (by kernel_rfl)
    (of_decide_eq_true (by kernel_rfl)) (by unfold Func.isWrapper; first | (rw [if_pos (by decide +kernel)]; kernel_rfl) | (rw [if_neg (by decide +kernel)]; exact ⟨rfl, rfl⟩))
    (fun os started H enc _ => lifted os started H enc)

theorem proved : Rows.ShareNormsCardSaid :=
  Claim7.holds_tied_plain_at .later [] _ true _ false over (fun _ h => by cases h) (by kernel_rfl) (fun _ h => by cases h) shareNorms_row_tie rfl ⟨rfl, rfl⟩ (by kernel_rfl) rfl
    (fun f fn hf hfn => by
      obtain rfl : f = 4 := Option.some.inj ((show Tryd.prog.funcNamed "ganger/gangerlaw11.ShareNorms" = some 4 by kernel_rfl).symm.trans hf) |>.symm
      obtain rfl : fn = Tryd.f4 := (Option.some.inj (Tryd.func4.symm.trans hfn)).symm
      exact ⟨by kernel_rfl, fun j t ht => by
        rw [Tryd.params4] at ht
        have hm : t ∈ [22] := by simpa using Array.mem_of_getElem? ht
        have hall : ([22].all fun u => !Tryd.prog.wantsStandIn u) = true := by kernel_rfl
        exact (show Tryd.prog.wantsStandIn t = false by simpa using List.all_eq_true.1 hall t hm)⟩)
    (by kernel_rfl)
#print axioms proved
end Go.Proofs.YtbnlmeegepgioaaDoor.shareNorms
