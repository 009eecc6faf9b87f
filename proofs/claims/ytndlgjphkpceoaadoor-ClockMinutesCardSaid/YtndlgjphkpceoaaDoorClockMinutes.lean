/-
  ClockMinutes: minutes, upwards, are the least that are enough, more seconds have no fewer: so the law returns true for every input, the listed tables of Go's library reading as the program's text lays them.
-/
import Derived.Test.YtndlgjphkpceoaaDoorClkW
import Derived.Test.YtndlgjphkpceoaaDoorRows
import Derived.Test.YtndlgjphkpceoaaDoorArgs2
import Derived.Test.YtndlgjphkpceoaaDoorLaid
import Derived.Test.YtndlgjphkpceoaaDoorCards
import Derived.Test.YtndlgjphkpceoaaDoorTie
import Derived.MakeChecks
import Derived.SevenTiedAt
namespace Go.Proofs.YtndlgjphkpceoaaDoor.clockMinutes
open Go.ChangeShapes Go.WideShapes Go.ChangeAt Go.RowKit
set_option linter.unusedVariables false

theorem own : ownKnob Tryd.prog.godebug = none := by kernel_rfl

open Go Go.RowKit in
theorem mins_mono {a b : Int} (h : a ≤ b) : minsA a ≤ minsA b := by
  unfold minsA
  split <;> split <;> omega
open Go Go.RowKit in
set_option maxHeartbeats 1000000 in
theorem walk (a b : Int) (w : World) (hE : Env7 w) (ha : (Lit.int .i64 a).wf = true) (hb : (Lit.int .i64 b).wf = true) :
    Calls Tryd.prog 8 #[.int .i64 a, .int .i64 b] w fun e w' => e = .returned (.bool true) ∧ Below w.heap.size w w' := by
  obtain ⟨h0, h1⟩ := wf_i64' ha
  obtain ⟨k0, k1⟩ := wf_i64' hb
  have K := Lib.hid (known_any w hE)
  have A := Lib.hid (mins_any a w h0 h1)
  have B := Lib.hid (mins_any b w k0 k1)
  have hm := Lib.hid (@mins_mono a b)
  have hz : Hid (a ≤ 0 → minsA a = 0) := fun h => if_pos h
  have hp : Hid (0 < a → minsA a = (a - 1) / 60 + 1) := fun h => if_neg (by omega)
  clear hE
  generalize minsA b = mb at *
  obtain ⟨m, hme⟩ : ∃ m, m = minsA a := ⟨_, rfl⟩
  rw [← hme] at A hm hz hp
  by_cases h : a ≤ 0
  · have e := hz.out h
    subst e
    have t1 : decide (a ≤ 0) = true := decide_eq_true h
    have t2 : decide (0 < a) = false := decide_eq_false (by omega)
    have t3 : decide (a > 0) = false := decide_eq_false (by omega)
    clear hz hp hme
    go_enter Tryd.func8, Tryd.ntmps8
    go_wp2_with fail
    refine A.out.mono ?_; rintro e w1 ⟨rfl, hw⟩
    subst hw
    by_cases hab : a > b
    · have t4 : decide (a > b) = true := decide_eq_true hab
      have t5 : decide (b < a) = true := decide_eq_true hab
      go_wp2_with fail
      refine K.out.mono ?_; rintro e w2 ⟨rfl, b2⟩
      go_wp2_with fail
      go_ret
      exact ⟨rfl, b2⟩
    · have t4 : decide (a > b) = false := decide_eq_false hab
      have t5 : decide (b < a) = false := decide_eq_false hab
      have t6 : decide (0 ≤ mb) = true := decide_eq_true (hm.out (by omega))
      go_wp2_with fail
      refine B.out.mono ?_; rintro e w1 ⟨rfl, hw⟩
      subst hw
      go_wp2_with fail
      refine K.out.mono ?_; rintro e w2 ⟨rfl, b2⟩
      go_wp2_with fail
      go_ret
      exact ⟨rfl, b2⟩
  · have e := hp.out (by omega)
    have q1 : 1 ≤ m := by omega
    have q2 : m ≤ 153722867280912931 := by omega
    have q3 : (m - 1) * 60 < a := by omega
    have q4 : a - (m - 1) * 60 ≤ 60 := by omega
    have q5 : m - 1 < a := by omega
    have t1 : decide (a ≤ 0) = false := decide_eq_false h
    have t2 : decide (0 < a) = true := decide_eq_true (by omega)
    have t3 : decide (a > 0) = true := decide_eq_true (by omega)
    have u1 : decide (m < 1) = false := decide_eq_false (by omega)
    have u2 : decide (m - 1 ≥ a) = false := decide_eq_false (by omega)
    have u3 : decide ((m - 1) * 60 ≥ a) = false := decide_eq_false (by omega)
    have u4 : decide (a - (m - 1) * 60 > 60) = false := decide_eq_false (by omega)
    clear hz hp hme e
    go_enter Tryd.func8, Tryd.ntmps8
    go_wp2_with fail
    refine A.out.mono ?_; rintro e w1 ⟨rfl, hw⟩
    subst hw
    by_cases hab : a > b
    · have t4 : decide (a > b) = true := decide_eq_true hab
      have t5 : decide (b < a) = true := decide_eq_true hab
      go_wp2_with fail
      refine K.out.mono ?_; rintro e w2 ⟨rfl, b2⟩
      go_wp2_with fail
      go_ret
      exact ⟨rfl, b2⟩
    · have t4 : decide (a > b) = false := decide_eq_false hab
      have t5 : decide (b < a) = false := decide_eq_false hab
      have t6 : decide (m ≤ mb) = true := decide_eq_true (hm.out (by omega))
      go_wp2_with fail
      refine B.out.mono ?_; rintro e w1 ⟨rfl, hw⟩
      subst hw
      go_wp2_with fail
      refine K.out.mono ?_; rintro e w2 ⟨rfl, b2⟩
      go_wp2_with fail
      go_ret
      exact ⟨rfl, b2⟩


set_option maxRecDepth 100000 in
theorem lifted (os : Os) (started : os.Started) (H : Type) (enc : TypeId × Value → H) :
    ReturnsInHanded {} Tryd.checked os 8 .any (fun w args => (Rows.clockMinutesSpec.pre enc Tryd.prog Tryd.f8 Rows.clockMinutesRow.domain false w args ∧ laidMetH Tryd.prog laid7 w) ∧ sizedMet enc Tryd.prog Tryd.f8 (OpenSpec.ofChange Rows.clockMinutesSpec) false w args) (Rows.clockMinutesSpec.post enc Tryd.prog Tryd.f8 false true false false) := by
  refine laid_lift (C := Tryd.checked) (X := fun w _ => laidMetH Tryd.prog laid7 w) (fun _ _ _ hh h => h.of_heap hh) own started (by kernel_rfl) Tryd.func8
    (ChangeSpec.witness_shaped (enc := enc) (C := Tryd.checked) (os := os) (X := fun w _ => laidMetH Tryd.prog laid7 w) false (World.laidAll Tryd.prog os laid7) #[.int .i64 0, .int .i64 0] 8 (World.laidAll_os _ _ _)
      (World.shaped_of_ZipB (by kernel_rfl) (by kernel_rfl)) (by kernel_rfl) (by kernel_rfl) (by kernel_rfl)
      (by rw [MakeChecks.laidMetH_plain _ _ _ (by kernel_rfl)]; exact laidMet_laidAll _ (by kernel_rfl) (by kernel_rfl))) ?_
  intro W base args ds gs before hval0 hW hsz0 hL hS
  have hE := env7_of hL hS
  have hval : ∀ (j : Nat) t v, Tryd.f8.params[j]? = some t → args[j]? = some v → Value.okWide Tryd.prog W .any base t v := hval0
  have hW' := hW
  obtain ⟨p, q, hA0, hV, rfl, hfz, hnd⟩ := hW
  have hA : DataW.TrodAll enc Tryd.prog W 0 (fun _ => true) true Tryd.f8.params.toList args.toList ds p := hA0
  rw [Tryd.params8] at hA hval
  obtain ⟨v0, vs0, d0, ds0, p0, q0, hargs, rfl, rfl, h0, r0⟩ := trodAll_cons hA
  obtain ⟨v1, vs1, d1, ds1, p1, q1, rfl, rfl, rfl, h1, r1⟩ := trodAll_cons r0
  obtain ⟨rfl, rfl, rfl⟩ := trodAll_nil r1
  obtain rfl : args = #[v0, v1] := by cases args; simp_all
  obtain ⟨a, rfl, rfl, rfl, w0⟩ := open_int Tryd.underlying3 (hval 0 3 v0 rfl rfl) h0
  obtain ⟨b, rfl, rfl, rfl, w1⟩ := open_int Tryd.underlying3 (hval 1 3 v1 rfl rfl) h1
  clear hA0 hval0
  refine (walk a b W hE w0 w1).mono fun e W' ⟨he, hb⟩ => ?_
  subst he
  exact ⟨_, rfl, law_post (by kernel_rfl) (by kernel_rfl) rfl Tryd.underlying4 rfl hW' rfl hb⟩

theorem over : Rows.clockMinutesRow.holds Tryd.pinned (OpenSpec.ofChange Rows.clockMinutesSpec) :=
  OpenClaim.holds_of_wide 8 Tryd.f8 rfl rfl rfl rfl rfl rfl rfl ⟨rfl, rfl, rfl, rfl, rfl⟩ rfl rfl rfl rfl rfl (by kernel_rfl) Tryd.func8 (by kernel_rfl)
    (of_decide_eq_true (by kernel_rfl)) (by unfold Func.isWrapper; first | (rw [if_pos (by decide +kernel)]; kernel_rfl) | (rw [if_neg (by decide +kernel)]; exact ⟨rfl, rfl⟩))
    (fun os started H enc _ => lifted os started H enc)

theorem proved : Rows.ClockMinutesCardSaid :=
  Claim7.holds_tied_plain_at .later [] _ true _ false over (fun _ h => by cases h) (by kernel_rfl) (fun _ h => by cases h) clockMinutes_row_tie rfl ⟨rfl, rfl⟩ (by kernel_rfl) rfl
    (fun f fn hf hfn => by
      obtain rfl : f = 8 := Option.some.inj ((show Tryd.prog.funcNamed "ganger/gangerlaw07.ClockMinutes" = some 8 by kernel_rfl).symm.trans hf) |>.symm
      obtain rfl : fn = Tryd.f8 := (Option.some.inj (Tryd.func8.symm.trans hfn)).symm
      exact ⟨by kernel_rfl, fun j t ht => by
        rw [Tryd.params8] at ht
        have hm : t ∈ [3, 3] := by simpa using Array.mem_of_getElem? ht
        have hall : ([3, 3].all fun u => !Tryd.prog.wantsStandIn u) = true := by kernel_rfl
        exact (show Tryd.prog.wantsStandIn t = false by simpa using List.all_eq_true.1 hall t hm)⟩)
    (by kernel_rfl)
#print axioms proved
end Go.Proofs.YtndlgjphkpceoaaDoor.clockMinutes
