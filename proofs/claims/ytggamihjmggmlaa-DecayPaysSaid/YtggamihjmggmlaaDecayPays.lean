/-
  DecayPays: of two who used the same, whoever used it later counts for no less; charges add up as long as no time goes by: so the law returns true for every input.
-/
import Derived.Test.YtggamihjmggmlaaDecMath
import Derived.Test.YtggamihjmggmlaaDecKnown
import Derived.Test.YtggamihjmggmlaaRows
import Derived.Test.YtggamihjmggmlaaArgs2
namespace Go.Proofs.Ytggamihjmggmlaa.decayPays
open Go.ChangeShapes Go.WideShapes Go.ChangeAt Go.RowKit
set_option linter.unusedVariables false

theorem own : ownKnob Try.prog.godebug = none := by kernel_rfl

theorem wf_u32' {n : Int} (h : (Lit.int .u32 n).wf = true) : 0 ≤ n ∧ n ≤ 4294967295 := by
  simpa [Lit.wf, IntKind.min, IntKind.max, IntKind.bits, IntKind.signed] using h
theorem walk_out (n a b l h : Int) (w : World) (c : h < 1 ∨ 1099511627776 < h) :
    Calls Try.prog 9 #[.int .u32 n, .int .u32 a, .int .u32 b, .int .u32 l, .int .i64 h] w fun e w' => e = .returned (.bool true) ∧ Below w.heap.size w w' := by
  have c' : decide (h < 1) = true ∨ decide (h < 1) = false ∧ decide (1099511627776 < h) = true := by
    simp only [decide_eq_true_eq, decide_eq_false_iff_not]; omega
  clear c
  rcases c' with c' | ⟨c', c''⟩
  all_goals
    go_enter Try.func9, Try.ntmps9
    go_wp2_with fail
    refine (known_any _).mono ?_; rintro e w5 ⟨rfl, b5⟩
    go_wp2_with fail
    go_ret
    exact ⟨rfl, b5⟩
theorem ch (N At now more h : Nat) (nowI moreI v : Int) (w : World) (hN : N ≤ 9223372036854775807) (hm : more ≤ 9223372036854775807) (ha : At ≤ now) (hn : now ≤ 1099511627776) (h1 : 1 ≤ h) (h2 : h ≤ 1099511627776)
    (e1 : nowI = now) (e2 : moreI = more) (AtI : Int) (e3 : AtI = At) (hv : endV ((aftN N (now - At) h : Nat) + (more : Int)) = v) :
    Calls Try.prog 17 #[.agg #[.int .i64 N, .int .i64 AtI], .int .i64 nowI, .int .i64 moreI, .int .i64 h] w
      fun e w' => e = .returned (.tuple #[.agg #[.int .i64 v, .int .i64 nowI], .int .i64 0]) ∧ Below w.heap.size w w' := by
  subst e1 e2 e3 hv
  exact charge_ok N At now more h w hN hm ha hn h1 h2
set_option maxRecDepth 100000 in
theorem walk_in (n a b l G : Nat) (w : World) (n2 : n ≤ 4294967295) (a2 : a ≤ 4294967295) (b2' : b ≤ 4294967295) (l2' : l ≤ 4294967295) (h1 : 1 ≤ G) (h2 : G ≤ 1099511627776) :
    Calls Try.prog 9 #[.int .u32 n, .int .u32 a, .int .u32 b, .int .u32 l, .int .i64 G] w fun e w' => e = .returned (.bool true) ∧ Below w.heap.size w w' := by
  have z0 : ∀ t, aftN 0 t G = 0 := fun t => by have := aftN_le (n := 0) (t := t) h1; simp at this; exact this
  have en : ∀ x : Nat, x ≤ 9223372036854775807 → endV (x : Int) = x := fun x hx => endV_in (by unfold I64; omega)
  have al : ∀ t, aftN n t G ≤ n := fun t => Nat.le_trans (aftN_le h1) (Nat.div_le_self _ _)
  have C1 : Hid (∀ w, Calls Try.prog 17 #[.agg #[.int .i64 0, .int .i64 0], .int .i64 a, .int .i64 n, .int .i64 G] w
      fun e w' => e = .returned (.tuple #[.agg #[.int .i64 n, .int .i64 a], .int .i64 0]) ∧ Below w.heap.size w w') := fun w =>
    ch 0 0 a n G a n n w (by omega) (by omega) (by omega) (by omega) h1 h2 rfl rfl 0 rfl (by rw [z0]; simpa using en n (by omega))
  have C2 : Hid (∀ w, Calls Try.prog 17 #[.agg #[.int .i64 0, .int .i64 0], .int .i64 ((a : Int) + b), .int .i64 n, .int .i64 G] w
      fun e w' => e = .returned (.tuple #[.agg #[.int .i64 n, .int .i64 ((a : Int) + b)], .int .i64 0]) ∧ Below w.heap.size w w') := fun w =>
    ch 0 0 (a + b) n G (a + b) n n w (by omega) (by omega) (by omega) (by omega) h1 h2 (by omega) rfl 0 rfl (by rw [z0]; simpa using en n (by omega))
  have C3 : Hid (∀ w, Calls Try.prog 17 #[.agg #[.int .i64 n, .int .i64 a], .int .i64 ((a : Int) + b + l), .int .i64 0, .int .i64 G] w
      fun e w' => e = .returned (.tuple #[.agg #[.int .i64 (aftN n (b + l) G : Nat), .int .i64 ((a : Int) + b + l)], .int .i64 0]) ∧ Below w.heap.size w w') := fun w =>
    ch n a (a + b + l) 0 G (a + b + l) 0 _ w (by omega) (by omega) (by omega) (by omega) h1 h2 (by omega) rfl a rfl (by
      rw [show a + b + l - a = b + l by omega]; have := al (b + l); simpa using en _ (by omega))
  have C4 : Hid (∀ w, Calls Try.prog 17 #[.agg #[.int .i64 n, .int .i64 ((a : Int) + b)], .int .i64 ((a : Int) + b + l), .int .i64 0, .int .i64 G] w
      fun e w' => e = .returned (.tuple #[.agg #[.int .i64 (aftN n l G : Nat), .int .i64 ((a : Int) + b + l)], .int .i64 0]) ∧ Below w.heap.size w w') := fun w =>
    ch n (a + b) (a + b + l) 0 G (a + b + l) 0 _ w (by omega) (by omega) (by omega) (by omega) h1 h2 (by omega) rfl (a + b) (by omega) (by
      rw [show a + b + l - (a + b) = l by omega]; have := al l; simpa using en _ (by omega))
  have C5 : Hid (∀ w, Calls Try.prog 17 #[.agg #[.int .i64 n, .int .i64 a], .int .i64 a, .int .i64 b, .int .i64 G] w
      fun e w' => e = .returned (.tuple #[.agg #[.int .i64 ((n : Int) + b), .int .i64 a], .int .i64 0]) ∧ Below w.heap.size w w') := fun w =>
    ch n a a b G a b _ w (by omega) (by omega) (by omega) (by omega) h1 h2 rfl rfl a rfl (by
      rw [Nat.sub_self, aftN_zero, ← Int.natCast_add]; exact en _ (by omega))
  have C6 : Hid (∀ w, Calls Try.prog 17 #[.agg #[.int .i64 0, .int .i64 0], .int .i64 a, .int .i64 ((n : Int) + b), .int .i64 G] w
      fun e w' => e = .returned (.tuple #[.agg #[.int .i64 ((n : Int) + b), .int .i64 a], .int .i64 0]) ∧ Below w.heap.size w w') := fun w =>
    ch 0 0 a (n + b) G a (n + b) _ w (by omega) (by omega) (by omega) (by omega) h1 h2 rfl (by omega) 0 rfl (by
      rw [z0, ← Int.natCast_add]; simpa using en (n + b) (by omega))
  have le : aftN n (b + l) G ≤ aftN n l G := aftN_anti h1 (by omega)
  have t2 : decide ((G : Int) < 1) = false := decide_eq_false (by omega)
  have t3 : decide (1099511627776 < (G : Int)) = false := decide_eq_false (by omega)
  generalize aftN n (b + l) G = pv at *
  generalize aftN n l G = qv at *
  have t4 : decide (pv ≤ qv) = true := decide_eq_true le
  have n3 : (n : Int) ≤ 4294967295 := by omega
  have a3 : (a : Int) ≤ 4294967295 := by omega
  have b3' : (b : Int) ≤ 4294967295 := by omega
  have l3' : (l : Int) ≤ 4294967295 := by omega
  clear z0 en al le n2 a2 b2' l2' h1 h2
  go_enter Try.func9, Try.ntmps9
  go_wp2_with fail
  refine (C1.out _).mono ?_; rintro e w1 ⟨rfl, b1⟩
  have X1 := Blk.new w1 #[.int .i64 n, .int .i64 a] 37
  have B1 := b1.alloc b1.size (.cells #[.int .i64 n, .int .i64 a] 37)
  go_wp2_with fail
  refine (C2.out _).mono ?_; rintro e w2 ⟨rfl, b2⟩
  have X2 := X1.kept b2
  have Y2 := Blk.new w2 #[.int .i64 n, .int .i64 ((a : Int) + b)] 37
  have B2 := below_next b2 B1
  have B2' := B2.alloc B2.size (.cells #[.int .i64 n, .int .i64 ((a : Int) + b)] 37)
  clear b1 B1 X1 b2
  have xc0 := X2.cell 0
  have xc1 := X2.cell 1
  have xl := X2.lt
  go_wp2_with fail
  refine (C3.out _).mono ?_; rintro e w3 ⟨rfl, b3⟩
  have X3 := (X2.old _).kept b3
  have Y3 := Y2.kept b3
  have P3 := Blk.new w3 #[.int .i64 pv, .int .i64 ((a : Int) + b + l)] 37
  have B3 := below_next b3 B2'
  have B3' := B3.alloc B3.size (.cells #[.int .i64 pv, .int .i64 ((a : Int) + b + l)] 37)
  clear xc0 xc1 xl X2 Y2 b3 B2 B2'
  have yc0 := Y3.cell 0
  have yc1 := Y3.cell 1
  have yl := Y3.lt
  go_wp2_with fail
  refine (C4.out _).mono ?_; rintro e w4 ⟨rfl, b4⟩
  have X4 := (X3.old _).kept b4
  have P4 := P3.kept b4
  have Q4 := Blk.new w4 #[.int .i64 qv, .int .i64 ((a : Int) + b + l)] 37
  have B4 := below_next b4 B3'
  have B4' := B4.alloc B4.size (.cells #[.int .i64 qv, .int .i64 ((a : Int) + b + l)] 37)
  clear yc0 yc1 yl X3 Y3 P3 b4 B3 B3'
  have xc0 := X4.cell 0
  have xc1 := X4.cell 1
  have xl := X4.lt
  go_wp2_with fail
  refine (C5.out _).mono ?_; rintro e w5 ⟨rfl, b5⟩
  have P5 := (P4.old _).kept b5
  have Q5 := Q4.kept b5
  have R5 := Blk.new w5 #[.int .i64 ((n : Int) + b), .int .i64 a] 37
  have B5 := below_next b5 B4'
  have B5' := B5.alloc B5.size (.cells #[.int .i64 ((n : Int) + b), .int .i64 a] 37)
  clear xc0 xc1 xl X4 P4 Q4 b5 B4 B4'
  go_wp2_with fail
  refine (C6.out _).mono ?_; rintro e w6 ⟨rfl, b6⟩
  have P6 := (P5.old _).kept b6
  have Q6 := (Q5.old _).kept b6
  have R6 := R5.kept b6
  have B6 := below_next b6 B5'
  clear P5 Q5 R5 b6 B5 B5'
  have pc0 := P6.cell 0
  have pc1 := P6.cell 1
  have pl := P6.lt
  have qc0 := Q6.cell 0
  have qc1 := Q6.cell 1
  have ql := Q6.lt
  have rc0 := R6.cell 0
  have rc1 := R6.cell 1
  have rl := R6.lt
  clear P6 Q6 R6
  go_wp2_with fail
  refine (known_any _).mono ?_; rintro e w7 ⟨rfl, b7⟩
  go_wp2_with fail
  go_ret
  exact ⟨rfl, below_next b7 (B6.alloc B6.size _)⟩
theorem walk (n a b l h : Int) (w : World) (w0 : (Lit.int .u32 n).wf = true) (w1 : (Lit.int .u32 a).wf = true) (w2 : (Lit.int .u32 b).wf = true) (w3 : (Lit.int .u32 l).wf = true) (w4 : (Lit.int .i64 h).wf = true) :
    Calls Try.prog 9 #[.int .u32 n, .int .u32 a, .int .u32 b, .int .u32 l, .int .i64 h] w fun e w' => e = .returned (.bool true) ∧ Below w.heap.size w w' := by
  by_cases c : h < 1 ∨ 1099511627776 < h
  · exact walk_out n a b l h w c
  · have x0 := wf_u32' w0
    have x1 := wf_u32' w1
    have x2 := wf_u32' w2
    have x3 := wf_u32' w3
    obtain ⟨n, rfl⟩ := Int.eq_ofNat_of_zero_le x0.1
    obtain ⟨a, rfl⟩ := Int.eq_ofNat_of_zero_le x1.1
    obtain ⟨b, rfl⟩ := Int.eq_ofNat_of_zero_le x2.1
    obtain ⟨l, rfl⟩ := Int.eq_ofNat_of_zero_le x3.1
    obtain ⟨G, rfl⟩ := Int.eq_ofNat_of_zero_le (a := h) (by omega)
    exact walk_in n a b l G w (by omega) (by omega) (by omega) (by omega) (by omega) (by omega)

set_option maxRecDepth 100000 in
theorem lifted (os : Os) (started : os.Started) (H : Type) (enc : TypeId × Value → H) :
    ReturnsInHanded {} Try.checked os 9 .any (Rows.decayPaysSpec.pre6 enc Try.prog Try.f9 Rows.decayPaysRow.domain false) (Rows.decayPaysSpec.post enc Try.prog Try.f9 false true false false) := by
  refine returnsInHanded_of_change (C := Try.checked) own started (by kernel_rfl) Try.func9
    (ChangeSpec.witness6 (enc := enc) (C := Try.checked) false ⟨#[], #[.int .u32 0, .int .u32 0, .int .u32 0, .int .u32 0, .int .i64 0], []⟩ 8 (by kernel_rfl) (by kernel_rfl) (by kernel_rfl) (by kernel_rfl)) ?_
  intro W base args ds gs before hval0 hW _ _
  have hval : ∀ (j : Nat) t v, Try.f9.params[j]? = some t → args[j]? = some v → Value.okWide Try.prog W .any base t v := hval0
  have hW' := hW
  obtain ⟨p, q, hA0, hV, rfl, hfz, hnd⟩ := hW
  have hA : DataW.TrodAll enc Try.prog W 0 (fun _ => true) true Try.f9.params.toList args.toList ds p := hA0
  rw [Try.params9] at hA hval
  obtain ⟨v0, vs0, d0, ds0, p0, q0, hargs, rfl, rfl, h0, r0⟩ := trodAll_cons hA
  obtain ⟨v1, vs1, d1, ds1, p1, q1, rfl, rfl, rfl, h1, r1⟩ := trodAll_cons r0
  obtain ⟨v2, vs2, d2, ds2, p2, q2, rfl, rfl, rfl, h2, r2⟩ := trodAll_cons r1
  obtain ⟨v3, vs3, d3, ds3, p3, q3, rfl, rfl, rfl, h3, r3⟩ := trodAll_cons r2
  obtain ⟨v4, vs4, d4, ds4, p4, q4, rfl, rfl, rfl, h4, r4⟩ := trodAll_cons r3
  obtain ⟨rfl, rfl, rfl⟩ := trodAll_nil r4
  obtain rfl : args = #[v0, v1, v2, v3, v4] := by cases args; simp_all
  obtain ⟨n, rfl, rfl, rfl, w0⟩ := open_int Try.underlying46 (hval 0 46 v0 rfl rfl) h0
  obtain ⟨a, rfl, rfl, rfl, w1⟩ := open_int Try.underlying46 (hval 1 46 v1 rfl rfl) h1
  obtain ⟨b, rfl, rfl, rfl, w2⟩ := open_int Try.underlying46 (hval 2 46 v2 rfl rfl) h2
  obtain ⟨l, rfl, rfl, rfl, w3⟩ := open_int Try.underlying46 (hval 3 46 v3 rfl rfl) h3
  obtain ⟨h, rfl, rfl, rfl, w4⟩ := open_int Try.underlying3 (hval 4 3 v4 rfl rfl) h4
  clear hA0 hval0
  refine (walk n a b l h W w0 w1 w2 w3 w4).mono fun e W' ⟨he, hb⟩ => ?_
  subst he
  exact ⟨_, rfl, law_post (by kernel_rfl) (by kernel_rfl) rfl Try.underlying4 rfl hW' rfl hb⟩

theorem over : Rows.decayPaysRow.holds Try.pinned (OpenSpec.ofChange Rows.decayPaysSpec) :=
  OpenClaim.holds_of_wide 9 Try.f9 rfl rfl rfl rfl rfl rfl rfl ⟨rfl, rfl, rfl, rfl, rfl⟩ rfl rfl rfl rfl rfl (by kernel_rfl) Try.func9 (by kernel_rfl)
    (of_decide_eq_true (by kernel_rfl)) (by unfold Func.isWrapper; first | (rw [if_pos (by decide +kernel)]; kernel_rfl) | (rw [if_neg (by decide +kernel)]; exact ⟨rfl, rfl⟩))
    (fun os started H enc _ => lifted os started H enc)

theorem proved : Rows.DecayPaysSaid :=
  over
#print axioms proved
end Go.Proofs.Ytggamihjmggmlaa.decayPays
