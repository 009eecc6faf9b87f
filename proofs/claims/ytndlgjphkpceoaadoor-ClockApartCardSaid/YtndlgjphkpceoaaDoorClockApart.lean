/-
  ClockApart: two limits that are not the same have two texts, which compare as the limits do: so the law returns true for every input, the listed tables of Go's library reading as the program's text lays them.
-/
import Derived.Test.YtndlgjphkpceoaaDoorClkW
import Derived.Test.YtndlgjphkpceoaaDoorClkX
import Derived.Test.YtndlgjphkpceoaaDoorRows
import Derived.Test.YtndlgjphkpceoaaDoorArgs2
import Derived.Test.YtndlgjphkpceoaaDoorLaid
import Derived.Test.YtndlgjphkpceoaaDoorCards
import Derived.Test.YtndlgjphkpceoaaDoorTie
import Derived.MakeChecks
import Derived.SevenTiedAt
namespace Go.Proofs.YtndlgjphkpceoaaDoor.clockApart
open Go.ChangeShapes Go.WideShapes Go.ChangeAt Go.RowKit
set_option linter.unusedVariables false

theorem own : ownKnob Tryd.prog.godebug = none := by kernel_rfl

open Go Go.RowKit in
set_option maxHeartbeats 2000000 in
theorem walk_both (a b : Nat) (w : World) (hE : Env7 w) (h0 : 0 < a) (h1 : a ≤ 1073741824) (k0 : 0 < b) (k1 : b ≤ 1073741824) :
    Calls Tryd.prog 9 #[.int .i64 a, .int .i64 b] w fun e w' => e = .returned (.bool true) ∧ Below w.heap.size w w' := by
  have K : Hid (∀ w1, Below w.heap.size w w1 → Calls Tryd.prog 10 #[] w1 fun e w' => e = .returned (.bool true) ∧ Below w1.heap.size w1 w') := fun w1 hb => known_any w1 (hE.next hb)
  have A := Lib.hid (print_in a w h0 h1 hE)
  have B : Hid (∀ w1, Below w.heap.size w w1 → Calls Tryd.prog 13 #[.int .i64 (b : Nat)] w1 fun e w' => e = .returned (.tuple #[.string (printS b), .int .i64 0]) ∧ Below w1.heap.size w1 w') := fun w1 hb => print_in b w1 k0 k1 (hE.next hb)
  have q1 : ((printS a).toList == (printS b).toList) = ((a : Int) == (b : Int)) := by
    rw [printS_list, printS_list]
    by_cases e : a = b
    · subst e; simp
    · rw [show ((a : Int) == (b : Int)) = false from beq_eq_false_iff_ne.2 (by omega), beq_eq_false_iff_ne]
      exact fun h => e (print_inj h0 h1 k0 k1 h)
  have sa : (printS a).size = (printA a).length := by show (printA a).toArray.size = _; simp
  have sb : (printS b).size = (printA b).length := by show (printA b).toArray.size = _; simp
  have q2 : Hid ((printS a).size = (printS b).size → Op.bytesLess (printS a).toList (printS b).toList = decide ((a : Int) < (b : Int))) := fun h => by
    rw [printS_list, printS_list, print_cmp h0 h1 k0 k1 (by rw [← sa, ← sb]; exact h)]
    by_cases e : a < b
    · rw [decide_eq_true e, decide_eq_true (by omega)]
    · rw [decide_eq_false e, decide_eq_false (by omega)]
  clear sa sb hE
  generalize printS a = ta at *
  generalize printS b = tb at *
  go_enter Tryd.func9, Tryd.ntmps9
  go_wp2_with fail
  refine A.out.mono ?_; rintro e w1 ⟨rfl, b1⟩
  have B1 := Lib.hid b1; clear b1
  go_wp2_with fail
  refine (B.out _ B1.out).mono ?_; rintro e w2 ⟨rfl, b2⟩
  have B2 := Lib.hid (below_next b2 B1.out); clear b2 B1
  by_cases hs : ta.size = tb.size
  · have q3 := q2.out hs
    have q4 : ((ta.size : Int) != (tb.size : Int)) = false := by rw [hs]; simp
    go_wp2_with fail
    refine (K.out _ B2.out).mono ?_; rintro e w3 ⟨rfl, b3⟩
    have B3 := Lib.hid (below_next b3 B2.out); clear b3 B2
    go_wp2_with fail
    go_ret
    exact ⟨rfl, B3.out⟩
  · have q4 : ((ta.size : Int) != (tb.size : Int)) = true := by rw [bne_iff_ne]; omega
    go_wp2_with fail
    refine (K.out _ B2.out).mono ?_; rintro e w3 ⟨rfl, b3⟩
    have B3 := Lib.hid (below_next b3 B2.out); clear b3 B2
    go_wp2_with fail
    go_ret
    exact ⟨rfl, B3.out⟩
open Go Go.RowKit in
set_option maxHeartbeats 2000000 in
theorem walk (x y : Int) (w : World) (hE : Env7 w) (hx : (Lit.int .i64 x).wf = true) (hy : (Lit.int .i64 y).wf = true) :
    Calls Tryd.prog 9 #[.int .i64 x, .int .i64 y] w fun e w' => e = .returned (.bool true) ∧ Below w.heap.size w w' := by
  obtain ⟨h0, h1⟩ := wf_i64' hx
  obtain ⟨k0, k1⟩ := wf_i64' hy
  by_cases hb : (1 ≤ x ∧ x ≤ 1073741824) ∧ (1 ≤ y ∧ y ≤ 1073741824)
  · obtain ⟨a, rfl⟩ := Int.eq_ofNat_of_zero_le (show 0 ≤ x by omega)
    obtain ⟨b, rfl⟩ := Int.eq_ofNat_of_zero_le (show 0 ≤ y by omega)
    exact walk_both a b w hE (by omega) (by omega) (by omega) (by omega)
  · have K : Hid (∀ w1, Below w.heap.size w w1 → Calls Tryd.prog 10 #[] w1 fun e w' => e = .returned (.bool true) ∧ Below w1.heap.size w1 w') := fun w1 hb => known_any w1 (hE.next hb)
    have A := Lib.hid (print_any x w h0 h1 hE)
    have B : Hid (∀ w1, Below w.heap.size w w1 → Calls Tryd.prog 13 #[.int .i64 y] w1 fun e w' => e = .returned (.tuple #[.string (printR y).1, .int .i64 (printR y).2]) ∧ Below w1.heap.size w1 w') := fun w1 hb => print_any y w1 k0 k1 (hE.next hb)
    clear hE
    by_cases hxo : x < 1 ∨ 1073741824 < x
    · have e : printR x = (⟨#[]⟩, 2) := if_pos hxo
      rw [e] at A
      clear e
      generalize (printR y).1 = p1 at *
      generalize (printR y).2 = p2 at *
      go_enter Tryd.func9, Tryd.ntmps9
      go_wp2_with fail
      refine A.out.mono ?_; rintro e w1 ⟨rfl, b1⟩
      have B1 := Lib.hid b1; clear b1
      go_wp2_with fail
      refine (B.out _ B1.out).mono ?_; rintro e w2 ⟨rfl, b2⟩
      have B2 := Lib.hid (below_next b2 B1.out); clear b2 B1
      go_wp2_with fail
      refine (K.out _ B2.out).mono ?_; rintro e w3 ⟨rfl, b3⟩
      have B3 := Lib.hid (below_next b3 B2.out); clear b3 B2
      go_wp2_with fail
      go_ret
      exact ⟨rfl, B3.out⟩
    · have e : printR y = (⟨#[]⟩, 2) := if_pos (by omega)
      have e2 : printR x = (printS x.toNat, 0) := if_neg hxo
      rw [e] at B
      rw [e2] at A
      clear e e2
      generalize printS x.toNat = p1 at *
      go_enter Tryd.func9, Tryd.ntmps9
      go_wp2_with fail
      refine A.out.mono ?_; rintro e w1 ⟨rfl, b1⟩
      have B1 := Lib.hid b1; clear b1
      go_wp2_with fail
      refine (B.out _ B1.out).mono ?_; rintro e w2 ⟨rfl, b2⟩
      have B2 := Lib.hid (below_next b2 B1.out); clear b2 B1
      cases hp : p1.toList.isEmpty
      all_goals
        go_wp2_with fail
        refine (K.out _ B2.out).mono ?_; rintro e w3 ⟨rfl, b3⟩
        have B3 := Lib.hid (below_next b3 B2.out); clear b3 B2
        go_wp2_with fail
        go_ret
        exact ⟨rfl, B3.out⟩


set_option maxRecDepth 100000 in
theorem lifted (os : Os) (started : os.Started) (H : Type) (enc : TypeId × Value → H) :
    ReturnsInHanded {} Tryd.checked os 9 .any (fun w args => (Rows.clockApartSpec.pre enc Tryd.prog Tryd.f9 Rows.clockApartRow.domain false w args ∧ laidMetH Tryd.prog laid7 w) ∧ sizedMet enc Tryd.prog Tryd.f9 (OpenSpec.ofChange Rows.clockApartSpec) false w args) (Rows.clockApartSpec.post enc Tryd.prog Tryd.f9 false true false false) := by
  refine laid_lift (C := Tryd.checked) (X := fun w _ => laidMetH Tryd.prog laid7 w) (fun _ _ _ hh h => h.of_heap hh) own started (by kernel_rfl) Tryd.func9
    (ChangeSpec.witness_shaped (enc := enc) (C := Tryd.checked) (os := os) (X := fun w _ => laidMetH Tryd.prog laid7 w) false (World.laidAll Tryd.prog os laid7) #[.int .i64 0, .int .i64 0] 8 (World.laidAll_os _ _ _)
      (World.shaped_of_ZipB (by kernel_rfl) (by kernel_rfl)) (by kernel_rfl) (by kernel_rfl) (by kernel_rfl)
      (by rw [MakeChecks.laidMetH_plain _ _ _ (by kernel_rfl)]; exact laidMet_laidAll _ (by kernel_rfl) (by kernel_rfl))) ?_
  intro W base args ds gs before hval0 hW hsz0 hL hS
  have hE := env7_of hL hS
  have hval : ∀ (j : Nat) t v, Tryd.f9.params[j]? = some t → args[j]? = some v → Value.okWide Tryd.prog W .any base t v := hval0
  have hW' := hW
  obtain ⟨p, q, hA0, hV, rfl, hfz, hnd⟩ := hW
  have hA : DataW.TrodAll enc Tryd.prog W 0 (fun _ => true) true Tryd.f9.params.toList args.toList ds p := hA0
  rw [Tryd.params9] at hA hval
  obtain ⟨v0, vs0, d0, ds0, p0, q0, hargs, rfl, rfl, h0, r0⟩ := trodAll_cons hA
  obtain ⟨v1, vs1, d1, ds1, p1, q1, rfl, rfl, rfl, h1, r1⟩ := trodAll_cons r0
  obtain ⟨rfl, rfl, rfl⟩ := trodAll_nil r1
  obtain rfl : args = #[v0, v1] := by cases args; simp_all
  obtain ⟨a, rfl, rfl, rfl, w0⟩ := open_int Tryd.underlying3 (hval 0 3 v0 rfl rfl) h0
  obtain ⟨b, rfl, rfl, rfl, w1⟩ := open_int Tryd.underlying3 (hval 1 3 v1 rfl rfl) h1
  clear hA0 hval0
  refine (walk a b W hE w0 w1).mono fun e W' ⟨he, hb⟩ => ?_
  subst he
  exact ⟨_, rfl, law_post (by kernel_rfl) (by kernel_rfl) rfl Tryd.underlying4 rfl hW' rfl hb⟩

theorem over : Rows.clockApartRow.holds Tryd.pinned (OpenSpec.ofChange Rows.clockApartSpec) :=
  OpenClaim.holds_of_wide 9 Tryd.f9 rfl rfl rfl rfl rfl rfl rfl ⟨rfl, rfl, rfl, rfl, rfl⟩ rfl rfl rfl rfl rfl (by kernel_rfl) Tryd.func9 (by kernel_rfl)
    (of_decide_eq_true (by kernel_rfl)) (by unfold Func.isWrapper; first | (rw [if_pos (by decide +kernel)]; kernel_rfl) | (rw [if_neg (by decide +kernel)]; exact ⟨rfl, rfl⟩))
    (fun os started H enc _ => lifted os started H enc)

theorem proved : Rows.ClockApartCardSaid :=
  Claim7.holds_tied_plain_at .later [] _ true _ false over (fun _ h => by cases h) (by kernel_rfl) (fun _ h => by cases h) clockApart_row_tie rfl ⟨rfl, rfl⟩ (by kernel_rfl) rfl
    (fun f fn hf hfn => by
      obtain rfl : f = 9 := Option.some.inj ((show Tryd.prog.funcNamed "ganger/gangerlaw07.ClockApart" = some 9 by kernel_rfl).symm.trans hf) |>.symm
      obtain rfl : fn = Tryd.f9 := (Option.some.inj (Tryd.func9.symm.trans hfn)).symm
      exact ⟨by kernel_rfl, fun j t ht => by
        rw [Tryd.params9] at ht
        have hm : t ∈ [3, 3] := by simpa using Array.mem_of_getElem? ht
        have hall : ([3, 3].all fun u => !Tryd.prog.wantsStandIn u) = true := by kernel_rfl
        exact (show Tryd.prog.wantsStandIn t = false by simpa using List.all_eq_true.1 hall t hm)⟩)
    (by kernel_rfl)
#print axioms proved
end Go.Proofs.YtndlgjphkpceoaaDoor.clockApart
