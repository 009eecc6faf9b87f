/-
  DecayEnds: at the time that Until tells a use counts for nothing, a half-life ahead of it for something: so the law returns true for every input.
-/
import Derived.Test.YtggamihjmggmlaaDecMath
import Derived.Test.YtggamihjmggmlaaDecKnown
import Derived.Test.YtggamihjmggmlaaRows
import Derived.Test.YtggamihjmggmlaaArgs2
namespace Go.Proofs.Ytggamihjmggmlaa.decayEnds
open Go.ChangeShapes Go.WideShapes Go.ChangeAt Go.RowKit
set_option linter.unusedVariables false

theorem own : ownKnob Try.prog.godebug = none := by kernel_rfl

theorem walk_out (n h m : Int) (w : World) (hn : I64 n) (c : ¬ UntilOk n h) :
    Calls Try.prog 8 #[.int .i64 n, .int .i64 h, .int .i64 m] w fun e w' => e = .returned (.bool true) ∧ Below w.heap.size w w' := by
  go_enter Try.func8, Try.ntmps8
  go_wp2_with fail
  refine (until_no _ _ _ c).mono ?_; rintro e w1 ⟨rfl, hw⟩; obtain rfl := hw
  go_wp2_with fail
  refine (known_any _).mono ?_; rintro e w5 ⟨rfl, b5⟩
  go_wp2_with fail
  go_ret
  exact ⟨rfl, b5⟩
theorem walk_in (N G : Nat) (m : Int) (w : World) (hN : N ≤ 9223372036854775807) (h1 : 1 ≤ G) (h2 : G ≤ 4294967296) (hm : I64 m) :
    Calls Try.prog 8 #[.int .i64 N, .int .i64 G, .int .i64 m] w fun e w' => e = .returned (.bool true) ∧ Below w.heap.size w w' := by
  have U : Hid (∀ w, Calls Try.prog 15 #[.int .i64 N, .int .i64 G] w fun e w' => e = .returned (.tuple #[.int .i64 (Lib.bitLen N * G : Nat), .int .i64 0]) ∧ w' = w) := fun w => until_ok N G w hN h1 h2
  obtain ⟨e1, e2⟩ := aftN_end (n := N) (h := G) (by omega) h1
  have hb : Lib.bitLen N ≤ 64 := Lib.bitLen_le N 64 (by omega) (by omega)
  have hb0 : 0 < N → 0 < Lib.bitLen N := fun h => (bitLen_bounds 64 N (by omega) (by omega) (by omega)).1
  have hs : 0 < N → ((Lib.bitLen N * G : Nat) : Int) - G = (((Lib.bitLen N - 1) * G : Nat) : Int) := fun h => by
    have := hb0 h
    have e : Lib.bitLen N * G = (Lib.bitLen N - 1) * G + G := by
      obtain ⟨q, hq⟩ : ∃ q, Lib.bitLen N = q + 1 := ⟨Lib.bitLen N - 1, by omega⟩
      rw [hq, Nat.add_sub_cancel, Nat.add_mul, Nat.one_mul]
    rw [e]; omega
  have ml : (Lib.bitLen N - 1) * G ≤ Lib.bitLen N * G := Nat.mul_le_mul_right _ (by omega)
  generalize (Lib.bitLen N - 1) * G = t0 at *
  generalize ht : Lib.bitLen N * G = t at *
  clear ht hb hb0
  by_cases c : 1099511627776 < t
  · have d : decide (1099511627776 < (t : Int)) = true := decide_eq_true (by omega)
    clear e1 e2 hs ml
    go_enter Try.func8, Try.ntmps8
    go_wp2_with fail
    refine (U.out _).mono ?_; rintro e w1 ⟨rfl, hw⟩; obtain rfl := hw
    go_wp2_with fail
    refine (known_any _).mono ?_; rintro e w5 ⟨rfl, b5⟩
    go_wp2_with fail
    go_ret
    exact ⟨rfl, b5⟩
  · have d : decide (1099511627776 < (t : Int)) = false := decide_eq_false (by omega)
    have tl : (t : Int) ≤ 1099511627776 := by omega
    have g2 : (G : Int) ≤ 4294967296 := by omega
    have A1 : Hid (∀ w, Calls Try.prog 13 #[.int .i64 N, .int .i64 t, .int .i64 G] w fun e w' => e = .returned (.tuple #[.int .i64 0, .int .i64 0]) ∧ Below w.heap.size w w') := fun w => by
      have := after_ok N t G w hN (by omega) h1 (by omega)
      rw [e1] at this; exact this
    have C : ∀ M : Nat, (m = M) → Hid (∀ w, Calls Try.prog 17 #[.agg #[.int .i64 N, .int .i64 0], .int .i64 t, .int .i64 m, .int .i64 G] w
        fun e w' => e = .returned (.tuple #[.agg #[.int .i64 m, .int .i64 t], .int .i64 0]) ∧ Below w.heap.size w w') := fun M hM w => by
      subst hM
      refine (charge_ok N 0 t M G w hN (by have := hm.2; omega) (by omega) (by omega) h1 (by omega)).mono ?_
      rintro e w' ⟨rfl, hb⟩
      refine ⟨ret_use ?_ rfl rfl, hb⟩
      rw [Nat.sub_zero, e1]
      simpa using endV_in hm
    have B : 0 < N → Hid (∀ w, Calls Try.prog 13 #[.int .i64 N, .int .i64 ((t : Int) - G), .int .i64 G] w fun e w' => (∃ x : Nat, e = .returned (.tuple #[.int .i64 x, .int .i64 0]) ∧ ((x : Int) == 0) = false) ∧ Below w.heap.size w w') := fun h0 w => by
      rw [hs h0]
      refine (after_ok N t0 G w hN (by omega) h1 (by omega)).mono ?_
      rintro e w' ⟨rfl, hb⟩
      have := e2 h0
      exact ⟨⟨_, rfl, by simpa using this⟩, hb⟩
    clear e1 e2 hs ml c
    by_cases h0 : N = 0
    · subst h0
      by_cases hneg : m < 0
      · have d2 : decide (m < 0) = true := decide_eq_true hneg
        clear B C
        go_enter Try.func8, Try.ntmps8
        go_wp2_with fail
        refine (U.out _).mono ?_; rintro e w1 ⟨rfl, hw⟩; obtain rfl := hw
        go_wp2_with fail
        refine (A1.out _).mono ?_; rintro e w2 ⟨rfl, b2⟩
        go_wp2_with fail
        refine (known_any _).mono ?_; rintro e w5 ⟨rfl, b5⟩
        go_wp2_with fail
        go_ret
        exact ⟨rfl, below_next b5 b2⟩
      · have d2 : decide (m < 0) = false := decide_eq_false hneg
        have C' := C m.toNat (by omega)
        clear B C hneg
        go_enter Try.func8, Try.ntmps8
        go_wp2_with fail
        refine (U.out _).mono ?_; rintro e w1 ⟨rfl, hw⟩; obtain rfl := hw
        go_wp2_with fail
        refine (A1.out _).mono ?_; rintro e w2 ⟨rfl, b2⟩
        go_wp2_with fail
        refine (C'.out _).mono ?_; rintro e w3 ⟨rfl, b3⟩
        have B3 := below_next b3 b2
        go_wp2_with fail
        refine (known_any _).mono ?_; rintro e w5 ⟨rfl, b5⟩
        go_wp2_with fail
        go_ret
        exact ⟨rfl, below_next b5 (B3.alloc B3.size _)⟩
    · have B' := B (by omega)
      have d3 : decide (0 < N) = true := decide_eq_true (by omega)
      have d3' : decide ((0 : Int) < N) = true := decide_eq_true (by omega)
      have t0' : -9223372036854775808 ≤ (t : Int) - G := by omega
      by_cases hneg : m < 0
      · have d2 : decide (m < 0) = true := decide_eq_true hneg
        clear B C
        go_enter Try.func8, Try.ntmps8
        go_wp2_with fail
        refine (U.out _).mono ?_; rintro e w1 ⟨rfl, hw⟩; obtain rfl := hw
        go_wp2_with fail
        refine (A1.out _).mono ?_; rintro e w2 ⟨rfl, b2⟩
        go_wp2_with fail
        refine (B'.out _).mono ?_; rintro e w3 ⟨⟨x, rfl, hx⟩, b3⟩
        go_wp2_with fail
        refine (known_any _).mono ?_; rintro e w5 ⟨rfl, b5⟩
        go_wp2_with fail
        go_ret
        exact ⟨rfl, below_next b5 (below_next b3 b2)⟩
      · have d2 : decide (m < 0) = false := decide_eq_false hneg
        have C' := C m.toNat (by omega)
        clear B C hneg
        go_enter Try.func8, Try.ntmps8
        go_wp2_with fail
        refine (U.out _).mono ?_; rintro e w1 ⟨rfl, hw⟩; obtain rfl := hw
        go_wp2_with fail
        refine (A1.out _).mono ?_; rintro e w2 ⟨rfl, b2⟩
        go_wp2_with fail
        refine (B'.out _).mono ?_; rintro e w3 ⟨⟨x, rfl, hx⟩, b3⟩
        go_wp2_with fail
        refine (C'.out _).mono ?_; rintro e w4 ⟨rfl, b4⟩
        have B4 := below_next b4 (below_next b3 b2)
        go_wp2_with fail
        refine (known_any _).mono ?_; rintro e w5 ⟨rfl, b5⟩
        go_wp2_with fail
        go_ret
        exact ⟨rfl, below_next b5 (B4.alloc B4.size _)⟩
theorem walk (n h m : Int) (w : World) (w0 : (Lit.int .i64 n).wf = true) (w1 : (Lit.int .i64 h).wf = true) (w2 : (Lit.int .i64 m).wf = true) :
    Calls Try.prog 8 #[.int .i64 n, .int .i64 h, .int .i64 m] w fun e w' => e = .returned (.bool true) ∧ Below w.heap.size w w' := by
  have hn := wf_i64' w0
  by_cases c : UntilOk n h
  · obtain ⟨c1, c2, c3⟩ := c
    obtain ⟨N, rfl⟩ := Int.eq_ofNat_of_zero_le c1
    obtain ⟨G, rfl⟩ := Int.eq_ofNat_of_zero_le (a := h) (by omega)
    exact walk_in N G m w (by omega) (by omega) (by omega) (wf_i64' w2)
  · exact walk_out n h m w hn c

set_option maxRecDepth 100000 in
theorem lifted (os : Os) (started : os.Started) (H : Type) (enc : TypeId × Value → H) :
    ReturnsInHanded {} Try.checked os 8 .any (Rows.decayEndsSpec.pre6 enc Try.prog Try.f8 Rows.decayEndsRow.domain false) (Rows.decayEndsSpec.post enc Try.prog Try.f8 false true false false) := by
  refine returnsInHanded_of_change (C := Try.checked) own started (by kernel_rfl) Try.func8
    (ChangeSpec.witness6 (enc := enc) (C := Try.checked) false ⟨#[], #[.int .i64 0, .int .i64 0, .int .i64 0], []⟩ 8 (by kernel_rfl) (by kernel_rfl) (by kernel_rfl) (by kernel_rfl)) ?_
  intro W base args ds gs before hval0 hW _ _
  have hval : ∀ (j : Nat) t v, Try.f8.params[j]? = some t → args[j]? = some v → Value.okWide Try.prog W .any base t v := hval0
  have hW' := hW
  obtain ⟨p, q, hA0, hV, rfl, hfz, hnd⟩ := hW
  have hA : DataW.TrodAll enc Try.prog W 0 (fun _ => true) true Try.f8.params.toList args.toList ds p := hA0
  rw [Try.params8] at hA hval
  obtain ⟨v0, vs0, d0, ds0, p0, q0, hargs, rfl, rfl, h0, r0⟩ := trodAll_cons hA
  obtain ⟨v1, vs1, d1, ds1, p1, q1, rfl, rfl, rfl, h1, r1⟩ := trodAll_cons r0
  obtain ⟨v2, vs2, d2, ds2, p2, q2, rfl, rfl, rfl, h2, r2⟩ := trodAll_cons r1
  obtain ⟨rfl, rfl, rfl⟩ := trodAll_nil r2
  obtain rfl : args = #[v0, v1, v2] := by cases args; simp_all
  obtain ⟨n, rfl, rfl, rfl, w0⟩ := open_int Try.underlying3 (hval 0 3 v0 rfl rfl) h0
  obtain ⟨h, rfl, rfl, rfl, w1⟩ := open_int Try.underlying3 (hval 1 3 v1 rfl rfl) h1
  obtain ⟨m, rfl, rfl, rfl, w2⟩ := open_int Try.underlying3 (hval 2 3 v2 rfl rfl) h2
  clear hA0 hval0
  refine (walk n h m W w0 w1 w2).mono fun e W' ⟨he, hb⟩ => ?_
  subst he
  exact ⟨_, rfl, law_post (by kernel_rfl) (by kernel_rfl) rfl Try.underlying4 rfl hW' rfl hb⟩

theorem over : Rows.decayEndsRow.holds Try.pinned (OpenSpec.ofChange Rows.decayEndsSpec) :=
  OpenClaim.holds_of_wide 8 Try.f8 rfl rfl rfl rfl rfl rfl rfl ⟨rfl, rfl, rfl, rfl, rfl⟩ rfl rfl rfl rfl rfl (by kernel_rfl) Try.func8 (by kernel_rfl)
    (of_decide_eq_true (by kernel_rfl)) (by unfold Func.isWrapper; first | (rw [if_pos (by decide +kernel)]; kernel_rfl) | (rw [if_neg (by decide +kernel)]; exact ⟨rfl, rfl⟩))
    (fun os started H enc _ => lifted os started H enc)

theorem proved : Rows.DecayEndsSaid :=
  over
#print axioms proved
end Go.Proofs.Ytggamihjmggmlaa.decayEnds
