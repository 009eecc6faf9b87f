/-
  DecayHalves: after a whole half-life a use counts for half, downwards, and times of which one is whole half-lives may be gone through one behind the other: so the law returns true for every input.
-/
import Derived.Test.YtggamihjmggmlaaDecMath
import Derived.Test.YtggamihjmggmlaaDecKnown
import Derived.Test.YtggamihjmggmlaaRows
import Derived.Test.YtggamihjmggmlaaArgs2
namespace Go.Proofs.Ytggamihjmggmlaa.decayHalves
open Go.ChangeShapes Go.WideShapes Go.ChangeAt Go.RowKit
set_option linter.unusedVariables false

theorem own : ownKnob Try.prog.godebug = none := by kernel_rfl

theorem walk_out (n k r h : Int) (w : World) (c : n < 0 ∨ h < 1 ∨ 1000000 < h) :
    Calls Try.prog 7 #[.int .i64 n, .int .i64 k, .int .i64 r, .int .i64 h] w fun e w' => e = .returned (.bool true) ∧ Below w.heap.size w w' := by
  have c' : decide (n < 0) = true ∨ decide (n < 0) = false ∧ (decide (h < 1) = true ∨ decide (h < 1) = false ∧ decide (1000000 < h) = true) := by
    simp only [decide_eq_true_eq, decide_eq_false_iff_not]; omega
  clear c
  rcases c' with c | ⟨c, c' | ⟨c', c''⟩⟩
  all_goals
    go_enter Try.func7, Try.ntmps7
    go_wp2_with fail
    refine (known_any _).mono ?_; rintro e w5 ⟨rfl, b5⟩
    go_wp2_with fail
    go_ret
    exact ⟨rfl, b5⟩
theorem walk_in (N G : Nat) (k r : Int) (w : World) (hN : N ≤ 9223372036854775807) (h1 : 1 ≤ G) (h2 : G ≤ 1000000) :
    Calls Try.prog 7 #[.int .i64 N, .int .i64 k, .int .i64 r, .int .i64 G] w fun e w' => e = .returned (.bool true) ∧ Below w.heap.size w w' := by
  have u1 : 0 ≤ IntKind.u64.wrap k ∧ IntKind.u64.wrap k ≤ 18446744073709551615 := by rw [IntKind.wrap_u64]; omega
  have u2 : 0 ≤ IntKind.u64.wrap r ∧ IntKind.u64.wrap r ≤ 18446744073709551615 := by rw [IntKind.wrap_u64]; omega
  obtain ⟨W, hW⟩ := Int.eq_ofNat_of_zero_le (a := IntKind.u64.wrap k % 70) (by omega)
  obtain ⟨L, hL⟩ := Int.eq_ofNat_of_zero_le (a := IntKind.u64.wrap r % (G : Int)) (Int.emod_nonneg _ (by omega))
  have wl : W < 70 := by omega
  have ll : L < G := by have := Int.emod_lt_of_pos (IntKind.u64.wrap r) (show (0 : Int) < G by omega); omega
  have m0 : W * G ≤ 69 * 1000000 := Nat.mul_le_mul (by omega) h2
  have m1 : (W : Int) * (G : Int) = ((W * G : Nat) : Int) := (Int.natCast_mul W G).symm
  have t1 : decide ((N : Int) < 0) = false := decide_eq_false (by omega)
  have t2 : decide ((G : Int) < 1) = false := decide_eq_false (by omega)
  have t3 : decide (1000000 < (G : Int)) = false := decide_eq_false (by omega)
  have t4 : ((G : Int) == 0) = false := by simpa using (show ((G : Int) ≠ 0) by omega)
  have A1 : Hid (∀ w, Calls Try.prog 13 #[.int .i64 N, .int .i64 G, .int .i64 G] w fun e w' => e = .returned (.tuple #[.int .i64 ((N : Int) / 2), .int .i64 0]) ∧ Below w.heap.size w w') := fun w => by
    have := after_ok N G G w hN (by omega) h1 (by omega)
    have e := aftN_whole (n := N) (w := 1) h1
    rw [Nat.one_mul, Nat.pow_one] at e
    rw [e, Int.natCast_ediv] at this; exact this
  have A2 : Hid (∀ w, Calls Try.prog 13 #[.int .i64 N, .int .i64 ((W : Int) * (G : Int)), .int .i64 G] w fun e w' => e = .returned (.tuple #[.int .i64 (N / 2 ^ W : Nat), .int .i64 0]) ∧ Below w.heap.size w w') := fun w => by
    have := after_ok N (W * G) G w hN (by omega) h1 (by omega)
    rw [aftN_whole h1, ← m1] at this; exact this
  have A3 : Hid (∀ w, Calls Try.prog 13 #[.int .i64 (N / 2 ^ W : Nat), .int .i64 L, .int .i64 G] w fun e w' => e = .returned (.tuple #[.int .i64 (aftN (N / 2 ^ W) L G : Nat), .int .i64 0]) ∧ Below w.heap.size w w') := fun w =>
    after_ok (N / 2 ^ W) L G w (Nat.le_trans (Nat.div_le_self _ _) hN) (by omega) h1 (by omega)
  have A4 : Hid (∀ w, Calls Try.prog 13 #[.int .i64 N, .int .i64 ((W : Int) * (G : Int) + (L : Int)), .int .i64 G] w fun e w' => e = .returned (.tuple #[.int .i64 (aftN (N / 2 ^ W) L G : Nat), .int .i64 0]) ∧ Below w.heap.size w w') := fun w => by
    have := after_ok N (W * G + L) G w hN (by omega) h1 (by omega)
    rw [aftN_add ll] at this
    rw [m1, ← Int.natCast_add]; exact this
  have m2 : 0 ≤ (W : Int) * (G : Int) := by rw [m1]; omega
  have m3 : (W : Int) * (G : Int) ≤ 69000000 := by rw [m1]; omega
  generalize aftN (N / 2 ^ W) L G = x at *
  generalize N / 2 ^ W = y at *
  have ll' : (L : Int) < G := by omega
  have wl' : (W : Int) < 70 := by omega
  have g1 : 1 ≤ (G : Int) := by omega
  have g2 : (G : Int) ≤ 1000000 := by omega
  have n2 : (N : Int) ≤ 9223372036854775807 := by omega
  clear m0 m1 h1 h2 hN wl ll
  go_enter Try.func7, Try.ntmps7
  go_wp2_with fail
  refine (A1.out _).mono ?_; rintro e w1 ⟨rfl, b1⟩
  go_wp2_with fail
  refine (A2.out _).mono ?_; rintro e w2 ⟨rfl, b2⟩
  go_wp2_with fail
  refine (A3.out _).mono ?_; rintro e w3 ⟨rfl, b3⟩
  go_wp2_with fail
  refine (A4.out _).mono ?_; rintro e w4 ⟨rfl, b4⟩
  go_wp2_with fail
  refine (known_any _).mono ?_; rintro e w5 ⟨rfl, b5⟩
  go_wp2_with fail
  go_ret
  exact ⟨rfl, below_next b5 (below_next b4 (below_next b3 (below_next b2 b1)))⟩
theorem walk (n k r h : Int) (w : World) (w0 : (Lit.int .i64 n).wf = true) (w1 : (Lit.int .i64 k).wf = true) (w2 : (Lit.int .i64 r).wf = true) (w3 : (Lit.int .i64 h).wf = true) :
    Calls Try.prog 7 #[.int .i64 n, .int .i64 k, .int .i64 r, .int .i64 h] w fun e w' => e = .returned (.bool true) ∧ Below w.heap.size w w' := by
  have hn := wf_i64' w0
  by_cases c : n < 0 ∨ h < 1 ∨ 1000000 < h
  · exact walk_out n k r h w c
  · obtain ⟨N, rfl⟩ := Int.eq_ofNat_of_zero_le (a := n) (by omega)
    obtain ⟨G, rfl⟩ := Int.eq_ofNat_of_zero_le (a := h) (by omega)
    exact walk_in N G k r w (by omega) (by omega) (by omega)

set_option maxRecDepth 100000 in
theorem lifted (os : Os) (started : os.Started) (H : Type) (enc : TypeId × Value → H) :
    ReturnsInHanded {} Try.checked os 7 .any (Rows.decayHalvesSpec.pre6 enc Try.prog Try.f7 Rows.decayHalvesRow.domain false) (Rows.decayHalvesSpec.post enc Try.prog Try.f7 false true false false) := by
  refine returnsInHanded_of_change (C := Try.checked) own started (by kernel_rfl) Try.func7
    (ChangeSpec.witness6 (enc := enc) (C := Try.checked) false ⟨#[], #[.int .i64 0, .int .i64 0, .int .i64 0, .int .i64 0], []⟩ 8 (by kernel_rfl) (by kernel_rfl) (by kernel_rfl) (by kernel_rfl)) ?_
  intro W base args ds gs before hval0 hW _ _
  have hval : ∀ (j : Nat) t v, Try.f7.params[j]? = some t → args[j]? = some v → Value.okWide Try.prog W .any base t v := hval0
  have hW' := hW
  obtain ⟨p, q, hA0, hV, rfl, hfz, hnd⟩ := hW
  have hA : DataW.TrodAll enc Try.prog W 0 (fun _ => true) true Try.f7.params.toList args.toList ds p := hA0
  rw [Try.params7] at hA hval
  obtain ⟨v0, vs0, d0, ds0, p0, q0, hargs, rfl, rfl, h0, r0⟩ := trodAll_cons hA
  obtain ⟨v1, vs1, d1, ds1, p1, q1, rfl, rfl, rfl, h1, r1⟩ := trodAll_cons r0
  obtain ⟨v2, vs2, d2, ds2, p2, q2, rfl, rfl, rfl, h2, r2⟩ := trodAll_cons r1
  obtain ⟨v3, vs3, d3, ds3, p3, q3, rfl, rfl, rfl, h3, r3⟩ := trodAll_cons r2
  obtain ⟨rfl, rfl, rfl⟩ := trodAll_nil r3
  obtain rfl : args = #[v0, v1, v2, v3] := by cases args; simp_all
  obtain ⟨n, rfl, rfl, rfl, w0⟩ := open_int Try.underlying3 (hval 0 3 v0 rfl rfl) h0
  obtain ⟨k, rfl, rfl, rfl, w1⟩ := open_int Try.underlying3 (hval 1 3 v1 rfl rfl) h1
  obtain ⟨r, rfl, rfl, rfl, w2⟩ := open_int Try.underlying3 (hval 2 3 v2 rfl rfl) h2
  obtain ⟨h, rfl, rfl, rfl, w3⟩ := open_int Try.underlying3 (hval 3 3 v3 rfl rfl) h3
  clear hA0 hval0
  refine (walk n k r h W w0 w1 w2 w3).mono fun e W' ⟨he, hb⟩ => ?_
  subst he
  exact ⟨_, rfl, law_post (by kernel_rfl) (by kernel_rfl) rfl Try.underlying4 rfl hW' rfl hb⟩

theorem over : Rows.decayHalvesRow.holds Try.pinned (OpenSpec.ofChange Rows.decayHalvesSpec) :=
  OpenClaim.holds_of_wide 7 Try.f7 rfl rfl rfl rfl rfl rfl rfl ⟨rfl, rfl, rfl, rfl, rfl⟩ rfl rfl rfl rfl rfl (by kernel_rfl) Try.func7 (by kernel_rfl)
    (of_decide_eq_true (by kernel_rfl)) (by unfold Func.isWrapper; first | (rw [if_pos (by decide +kernel)]; kernel_rfl) | (rw [if_neg (by decide +kernel)]; exact ⟨rfl, rfl⟩))
    (fun os started H enc _ => lifted os started H enc)

theorem proved : Rows.DecayHalvesSaid :=
  over
#print axioms proved
end Go.Proofs.Ytggamihjmggmlaa.decayHalves
