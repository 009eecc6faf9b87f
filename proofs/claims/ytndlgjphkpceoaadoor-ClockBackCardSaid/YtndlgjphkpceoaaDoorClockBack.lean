/-
  ClockBack: what is printed is read again as it was, what is read is printed so that it is read the same: so the law returns true for every input, the listed tables of Go's library reading as the program's text lays them.
-/
import Derived.Test.YtndlgjphkpceoaaDoorClkW
import Derived.Test.YtndlgjphkpceoaaDoorClkV
import Derived.Test.YtndlgjphkpceoaaDoorRows
import Derived.Test.YtndlgjphkpceoaaDoorArgs2
import Derived.Test.YtndlgjphkpceoaaDoorLaid
import Derived.Test.YtndlgjphkpceoaaDoorCards
import Derived.Test.YtndlgjphkpceoaaDoorTie
import Derived.MakeChecks
import Derived.SevenTiedAt
namespace Go.Proofs.YtndlgjphkpceoaaDoor.clockBack
open Go.ChangeShapes Go.WideShapes Go.ChangeAt Go.RowKit
set_option linter.unusedVariables false

theorem own : ownKnob Tryd.prog.godebug = none := by kernel_rfl

open Go Go.RowKit in
set_option maxHeartbeats 2000000 in
theorem walk (x : Int) (s : ByteArray) (w : World) (hE : Env7 w) (hx : (Lit.int .i64 x).wf = true) (hs : s.size ≤ 9223372036854775807) :
    Calls Tryd.prog 5 #[.int .i64 x, .string s] w fun e w' => e = .returned (.bool true) ∧ Below w.heap.size w w' := by
  obtain ⟨h0, h1⟩ := wf_i64' hx
  have K : Hid (∀ w1, Below w.heap.size w w1 → Calls Tryd.prog 10 #[] w1 fun e w' => e = .returned (.bool true) ∧ Below w1.heap.size w1 w') := fun w1 hb => known_any w1 (hE.next hb)
  by_cases h3 : 300 < s.size
  · have t : decide (300 < s.size) = true := decide_eq_true h3
    have t2 : decide (300 < (s.size : Int)) = true := decide_eq_true (by omega)
    go_enter Tryd.func5, Tryd.ntmps5
    go_wp2_with fail
    refine (K.out _ (Below.refl _ _)).mono ?_; rintro e w1 ⟨rfl, b1⟩
    go_wp2_with fail
    go_ret
    exact ⟨rfl, b1⟩
  · have t : decide (300 < s.size) = false := decide_eq_false h3
    have t2 : decide (300 < (s.size : Int)) = false := decide_eq_false (by omega)
    have A := Lib.hid (print_any x w h0 h1 hE)
    have P : Hid (∀ w1, Below w.heap.size w w1 → Calls Tryd.prog 11 #[.string s] w1 fun e w' => e = .returned (.tuple #[.int .i64 (parseA s.data.toList).1, .int .i64 (parseA s.data.toList).2]) ∧ Below w1.heap.size w1 w') := fun w1 hb => by
      obtain ⟨m, hm⟩ := (hE.next hb).1
      exact parse_any s m w1 (by omega) hm
    have Q : Hid (∀ n w1, Below w.heap.size w w1 → 0 < n → n ≤ 1073741824 → Calls Tryd.prog 11 #[.string (printS n)] w1 fun e w' => e = .returned (.tuple #[.int .i64 (n : Nat), .int .i64 0]) ∧ Below w1.heap.size w1 w') := fun n w1 hb k0 k1 => parse_printed n w1 k0 k1 (hE.next hb)
    have R : Hid (∀ n w1, Below w.heap.size w w1 → 0 < n → n ≤ 1073741824 → Calls Tryd.prog 13 #[.int .i64 (n : Nat)] w1 fun e w' => e = .returned (.tuple #[.string (printS n), .int .i64 0]) ∧ Below w1.heap.size w1 w') := fun n w1 hb k0 k1 => print_in n w1 k0 k1 (hE.next hb)
    have F := parseA_form s.data.toList
    clear hE
    generalize parseA s.data.toList = res at *
    go_enter Tryd.func5, Tryd.ntmps5
    go_wp2_with fail
    by_cases ho : x < 1 ∨ 1073741824 < x
    · have e : printR x = (⟨#[]⟩, 2) := if_pos ho
      rw [e] at A
      have u : (decide (x ≥ 1) && decide (x ≤ 1073741824)) = false := by
        rcases ho with h | h
        · simp; omega
        · simp; omega
      have u1 : 1 ≤ x → decide (x ≤ 1073741824) = false := fun h => decide_eq_false (by omega)
      refine A.out.mono ?_; rintro e w1 ⟨rfl, b1⟩
      have B1 := Lib.hid b1; clear b1 A
      by_cases h11 : x < 1
      · have v1 : decide (x ≥ 1) = false := decide_eq_false (by omega)
        have v2 : decide (1 ≤ x) = false := decide_eq_false (by omega)
        go_wp2_with fail
        refine (P.out _ B1.out).mono ?_; rintro e w9 ⟨rfl, b9⟩
        have B9 := Lib.hid (below_next b9 B1.out); clear b9 B1
        rcases F with ⟨e, rfl, he⟩ | ⟨k, k0, k1, rfl⟩
        · have t9 : (e != 0) = true := by rcases he with rfl | rfl <;> rfl
          go_wp2_with fail
          refine (K.out _ B9.out).mono ?_; rintro e w8 ⟨rfl, b8⟩
          have B8 := Lib.hid (below_next b8 B9.out); clear b8 B9
          go_wp2_with fail
          go_ret
          exact ⟨rfl, B8.out⟩
        · go_wp2_with fail
          refine (R.out k _ B9.out k0 k1).mono ?_; rintro e w8 ⟨rfl, b8⟩
          have B8 := Lib.hid (below_next b8 B9.out); clear b8 B9
          go_wp2_with fail
          refine (Q.out k _ B8.out k0 k1).mono ?_; rintro e w7 ⟨rfl, b7⟩
          have B7 := Lib.hid (below_next b7 B8.out); clear b7 B8
          go_wp2_with fail
          refine (K.out _ B7.out).mono ?_; rintro e w6 ⟨rfl, b6⟩
          have B6 := Lib.hid (below_next b6 B7.out); clear b6 B7
          go_wp2_with fail
          go_ret
          exact ⟨rfl, B6.out⟩
      · have v1 : decide (x ≥ 1) = true := decide_eq_true (by omega)
        have v2 : decide (1 ≤ x) = true := decide_eq_true (by omega)
        have v3 := u1 (by omega)
        go_wp2_with fail
        refine (P.out _ B1.out).mono ?_; rintro e w9 ⟨rfl, b9⟩
        have B9 := Lib.hid (below_next b9 B1.out); clear b9 B1
        rcases F with ⟨e, rfl, he⟩ | ⟨k, k0, k1, rfl⟩
        · have t9 : (e != 0) = true := by rcases he with rfl | rfl <;> rfl
          go_wp2_with fail
          refine (K.out _ B9.out).mono ?_; rintro e w8 ⟨rfl, b8⟩
          have B8 := Lib.hid (below_next b8 B9.out); clear b8 B9
          go_wp2_with fail
          go_ret
          exact ⟨rfl, B8.out⟩
        · go_wp2_with fail
          refine (R.out k _ B9.out k0 k1).mono ?_; rintro e w8 ⟨rfl, b8⟩
          have B8 := Lib.hid (below_next b8 B9.out); clear b8 B9
          go_wp2_with fail
          refine (Q.out k _ B8.out k0 k1).mono ?_; rintro e w7 ⟨rfl, b7⟩
          have B7 := Lib.hid (below_next b7 B8.out); clear b7 B8
          go_wp2_with fail
          refine (K.out _ B7.out).mono ?_; rintro e w6 ⟨rfl, b6⟩
          have B6 := Lib.hid (below_next b6 B7.out); clear b6 B7
          go_wp2_with fail
          go_ret
          exact ⟨rfl, B6.out⟩
    · obtain ⟨n, rfl⟩ := Int.eq_ofNat_of_zero_le (show 0 ≤ x by omega)
      have e : printR (n : Int) = (printS n, 0) := if_neg ho
      rw [e] at A
      have v1 : decide ((n : Int) ≥ 1) = true := decide_eq_true (by omega)
      have v2 : decide (1 ≤ (n : Int)) = true := decide_eq_true (by omega)
      have v3 : decide ((n : Int) ≤ 1073741824) = true := decide_eq_true (by omega)
      refine A.out.mono ?_; rintro e w1 ⟨rfl, b1⟩
      have B0 := Lib.hid b1; clear b1 A
      go_wp2_with fail
      refine (Q.out n _ B0.out (by omega) (by omega)).mono ?_; rintro e w2 ⟨rfl, b2⟩
      have B1 := Lib.hid (below_next b2 B0.out); clear b2 B0
      go_wp2_with fail
      refine (P.out _ B1.out).mono ?_; rintro e w9 ⟨rfl, b9⟩
      have B9 := Lib.hid (below_next b9 B1.out); clear b9 B1
      rcases F with ⟨e, rfl, he⟩ | ⟨k, k0, k1, rfl⟩
      · have t9 : (e != 0) = true := by rcases he with rfl | rfl <;> rfl
        go_wp2_with fail
        refine (K.out _ B9.out).mono ?_; rintro e w8 ⟨rfl, b8⟩
        have B8 := Lib.hid (below_next b8 B9.out); clear b8 B9
        go_wp2_with fail
        go_ret
        exact ⟨rfl, B8.out⟩
      · go_wp2_with fail
        refine (R.out k _ B9.out k0 k1).mono ?_; rintro e w8 ⟨rfl, b8⟩
        have B8 := Lib.hid (below_next b8 B9.out); clear b8 B9
        go_wp2_with fail
        refine (Q.out k _ B8.out k0 k1).mono ?_; rintro e w7 ⟨rfl, b7⟩
        have B7 := Lib.hid (below_next b7 B8.out); clear b7 B8
        go_wp2_with fail
        refine (K.out _ B7.out).mono ?_; rintro e w6 ⟨rfl, b6⟩
        have B6 := Lib.hid (below_next b6 B7.out); clear b6 B7
        go_wp2_with fail
        go_ret
        exact ⟨rfl, B6.out⟩


set_option maxRecDepth 100000 in
theorem lifted (os : Os) (started : os.Started) (H : Type) (enc : TypeId × Value → H) :
    ReturnsInHanded {} Tryd.checked os 5 .any (fun w args => (Rows.clockBackSpec.pre enc Tryd.prog Tryd.f5 Rows.clockBackRow.domain false w args ∧ laidMetH Tryd.prog laid7 w) ∧ sizedMet enc Tryd.prog Tryd.f5 (OpenSpec.ofChange Rows.clockBackSpec) false w args) (Rows.clockBackSpec.post enc Tryd.prog Tryd.f5 false true false false) := by
  refine laid_lift (C := Tryd.checked) (X := fun w _ => laidMetH Tryd.prog laid7 w) (fun _ _ _ hh h => h.of_heap hh) own started (by kernel_rfl) Tryd.func5
    (ChangeSpec.witness_shaped (enc := enc) (C := Tryd.checked) (os := os) (X := fun w _ => laidMetH Tryd.prog laid7 w) false (World.laidAll Tryd.prog os laid7) #[.int .i64 0, .string ByteArray.empty] 8 (World.laidAll_os _ _ _)
      (World.shaped_of_ZipB (by kernel_rfl) (by kernel_rfl)) (by kernel_rfl) (by kernel_rfl) (by kernel_rfl)
      (by rw [MakeChecks.laidMetH_plain _ _ _ (by kernel_rfl)]; exact laidMet_laidAll _ (by kernel_rfl) (by kernel_rfl))) ?_
  intro W base args ds gs before hval0 hW hsz0 hL hS
  have hE := env7_of hL hS
  have hval : ∀ (j : Nat) t v, Tryd.f5.params[j]? = some t → args[j]? = some v → Value.okWide Tryd.prog W .any base t v := hval0
  have hW' := hW
  obtain ⟨p, q, hA0, hV, rfl, hfz, hnd⟩ := hW
  have hA : DataW.TrodAll enc Tryd.prog W 0 (fun _ => true) true Tryd.f5.params.toList args.toList ds p := hA0
  rw [Tryd.params5] at hA hval
  obtain ⟨v0, vs0, d0, ds0, p0, q0, hargs, rfl, rfl, h0, r0⟩ := trodAll_cons hA
  obtain ⟨v1, vs1, d1, ds1, p1, q1, rfl, rfl, rfl, h1, r1⟩ := trodAll_cons r0
  obtain ⟨rfl, rfl, rfl⟩ := trodAll_nil r1
  obtain rfl : args = #[v0, v1] := by cases args; simp_all
  obtain ⟨x, rfl, rfl, rfl, w0⟩ := open_int Tryd.underlying3 (hval 0 3 v0 rfl rfl) h0
  obtain ⟨s, rfl, w1⟩ := open_string_arg Tryd.underlying9 (hval 1 9 v1 rfl rfl) h1
  clear hA0 hval0
  refine (walk x s W hE w0 w1).mono fun e W' ⟨he, hb⟩ => ?_
  subst he
  exact ⟨_, rfl, law_post (by kernel_rfl) (by kernel_rfl) rfl Tryd.underlying4 rfl hW' rfl hb⟩

theorem over : Rows.clockBackRow.holds Tryd.pinned (OpenSpec.ofChange Rows.clockBackSpec) :=
  OpenClaim.holds_of_wide 5 Tryd.f5 rfl rfl rfl rfl rfl rfl rfl ⟨rfl, rfl, rfl, rfl, rfl⟩ rfl rfl rfl rfl rfl (by kernel_rfl) Tryd.func5 (by kernel_rfl)
    (of_decide_eq_true (by kernel_rfl)) (by unfold Func.isWrapper; first | (rw [if_pos (by decide +kernel)]; kernel_rfl) | (rw [if_neg (by decide +kernel)]; exact ⟨rfl, rfl⟩))
    (fun os started H enc _ => lifted os started H enc)

theorem proved : Rows.ClockBackCardSaid :=
  Claim7.holds_tied_plain_at .later [] _ true _ false over (fun _ h => by cases h) (by kernel_rfl) (fun _ h => by cases h) clockBack_row_tie rfl ⟨rfl, rfl⟩ (by kernel_rfl) rfl
    (fun f fn hf hfn => by
      obtain rfl : f = 5 := Option.some.inj ((show Tryd.prog.funcNamed "ganger/gangerlaw07.ClockBack" = some 5 by kernel_rfl).symm.trans hf) |>.symm
      obtain rfl : fn = Tryd.f5 := (Option.some.inj (Tryd.func5.symm.trans hfn)).symm
      exact ⟨by kernel_rfl, fun j t ht => by
        rw [Tryd.params5] at ht
        have hm : t ∈ [3, 9] := by simpa using Array.mem_of_getElem? ht
        have hall : ([3, 9].all fun u => !Tryd.prog.wantsStandIn u) = true := by kernel_rfl
        exact (show Tryd.prog.wantsStandIn t = false by simpa using List.all_eq_true.1 hall t hm)⟩)
    (by kernel_rfl)
#print axioms proved
end Go.Proofs.YtndlgjphkpceoaaDoor.clockBack
