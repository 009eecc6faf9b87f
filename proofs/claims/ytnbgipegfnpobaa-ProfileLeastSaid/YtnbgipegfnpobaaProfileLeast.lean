/-
  ProfileLeast: where it fits enough are free all the time, and not ahead of that; fewer, or for less long, fit no later; later asked, no earlier: so the law returns true for every input.
-/
import Derived.Test.YtnbgipegfnpobaaLvT
import Derived.Test.YtnbgipegfnpobaaLvS
import Derived.Test.YtnbgipegfnpobaaPrL
import Derived.Test.YtnbgipegfnpobaaRows
import Derived.Test.YtnbgipegfnpobaaArgs2
namespace Go.Proofs.Ytnbgipegfnpobaa.profileLeast
open Go.ChangeShapes Go.WideShapes Go.ChangeAt Go.RowKit
set_option linter.unusedVariables false

theorem own : ownKnob Try.prog.godebug = none := by kernel_rfl

open Go Go.ChangeShapes Go.WideShapes Go.ChangeAt Go.RowKit Go.Lib
theorem long (a : Option Addr) (L c : Nat) (f N n less later : Int) (w : World) (h : 100 < L) :
    Calls Try.prog 8 #[.slice a L c, .int .i64 f, .int .i64 N, .int .i64 n, .int .i64 less, .int .i64 later] w fun e w' => e = .returned (.bool true) ∧ Below w.heap.size w w' := by
  have HM := Lib.hid (many_yes a none L c 0 0 w (.inl h))
  have K : Hid (∀ w1, Calls Try.prog 12 #[] w1 fun e w' => e = .returned (.bool true) ∧ Below w1.heap.size w1 w') := known5_any
  clear h
  go_enter Try.func8, Try.ntmps8
  go_wp2_with fail
  refine HM.out.mono ?_; rintro e w1 ⟨rfl, hw⟩; subst hw
  have B5 : Hid (Below w1.heap.size w1 w1) := Below.refl _ _
  go_wp2_with fail
  refine (K.out _).mono ?_; rintro e wc ⟨rfl, bc⟩
  have BC := Lib.hid (below_next bc B5.out)
  clear bc B5
  go_wp2_with fail
  go_ret
  exact ⟨rfl, BC.out⟩

theorem i64_nat (n : Nat) (h : n ≤ 9223372036854775807) : IntKind.i64.wrap (n : Int) = (n : Int) := by rw [IntKind.wrap_i64]; omega
theorem u64_nat (n : Nat) (h : n ≤ 9223372036854775807) : IntKind.u64.wrap (n : Int) = (n : Int) := by rw [IntKind.wrap_u64]; omega
theorem u64_bd (x : Int) : 0 ≤ IntKind.u64.wrap x ∧ IntKind.u64.wrap x ≤ 18446744073709551615 := by rw [IntKind.wrap_u64]; omega
theorem pick (x : Int) (n : Nat) (h : 0 < n) (hn : n ≤ 1099511627776) : ∃ U K : Nat, IntKind.u64.wrap x = (U : Int) ∧ K < n ∧ (U : Int) % (n : Int) = (K : Int) ∧ (U : Int).tmod (n : Int) = (K : Int) ∧ IntKind.u64.wrap (n : Int) = (n : Int) := by
  obtain ⟨U, hU⟩ := Int.eq_ofNat_of_zero_le (u64_bd x).1
  have e : (U : Int) % (n : Int) = ((U % n : Nat) : Int) := by simp
  exact ⟨U, U % n, hU, Nat.mod_lt _ h, e, by rw [Int.tmod_eq_emod_of_nonneg (by omega), e], u64_nat n (by omega)⟩
set_option maxRecDepth 100000 in
theorem bad (a : Option Addr) (c : Nat) (xs : List Lv) (f N n less later : Int) (w : World) (hk : LRow w (.slice a xs.length c) xs) (h : xs.length ≤ 100) (hbad : ¬ (fitV xs f N n).2 = 0) :
    Calls Try.prog 8 #[.slice a xs.length c, .int .i64 f, .int .i64 N, .int .i64 n, .int .i64 less, .int .i64 later] w fun e w' => e = .returned (.bool true) ∧ Below w.heap.size w w' := by
  have HM := Lib.hid (many_few a none xs.length c 0 0 w h (by omega))
  have K : Hid (∀ w1, Calls Try.prog 12 #[] w1 fun e w' => e = .returned (.bool true) ∧ Below w1.heap.size w1 w') := known5_any
  have F1 : Hid (Calls Try.prog 23 #[.slice a xs.length c, .int .i64 f, .int .i64 N, .int .i64 n] w fun e w' => e = .returned (.tuple #[.int .i64 (fitV xs f N n).1, .int .i64 (fitV xs f N n).2]) ∧ Below w.heap.size w w') := fit_any _ xs f N n w (by omega) hk
  have t2 : ((fitV xs f N n).2 != 0) = true := bne_iff_ne.2 hbad
  generalize fitV xs f N n = ch at *
  obtain ⟨A, e1⟩ := ch
  dsimp only at F1 t2
  clear hk hbad
  go_enter Try.func8, Try.ntmps8
  go_wp2_with fail
  refine HM.out.mono ?_; rintro e w0 ⟨rfl, hw⟩; subst hw
  go_wp2_with fail
  refine F1.out.mono ?_; rintro e w1 ⟨rfl, b1⟩
  have B5 := Lib.hid b1
  clear b1 F1
  go_wp2_with fail
  refine (K.out _).mono ?_; rintro e wc ⟨rfl, bc⟩
  have BC := Lib.hid (below_next bc B5.out)
  clear bc B5
  go_wp2_with fail
  go_ret
  exact ⟨rfl, BC.out⟩

set_option maxRecDepth 100000 in
set_option maxHeartbeats 8000000 in
theorem main (b off c : Nat) (xs : List Lv) (f : Int) (N : Nat) (n less later T : Int) (w : World) (hca : LCells w b off xs) (hk : LRow w (.slice (some ⟨b, off, none⟩) xs.length c) xs) (h : xs.length ≤ 100) (I : FitAt xs f N n T) (hfit : fitV xs f N n = (T, 0)) :
    Calls Try.prog 8 #[.slice (some ⟨b, off, none⟩) xs.length c, .int .i64 f, .int .i64 N, .int .i64 n, .int .i64 less, .int .i64 later] w fun e w' => e = .returned (.bool true) ∧ Below w.heap.size w w' := by
  have HM := Lib.hid (many_few (some ⟨b, off, none⟩) none xs.length c 0 0 w h (by omega))
  have K : Hid (∀ w1, Calls Try.prog 12 #[] w1 fun e w' => e = .returned (.bool true) ∧ Below w1.heap.size w1 w') := known5_any
  have ho := I.ok
  have hlen : 0 < xs.length := List.length_pos_iff.2 ho.1
  have hleni : (0 : Int) < xs.length := by omega
  have t1 : ((xs.length : Int) == 0) = false := by rw [beq_eq_false_iff_ne]; omega
  have h00 := (ho.2 0 hlen).1.1
  have hb' : ¬ ((N : Int) < 1 ∨ MaxT < (N : Int) ∨ f < 0 ∨ MaxT < f ∨ n < 0) := I.nb
  have hbd := I.cand.bounds ho (by omega)
  have hge := I.cand.ge
  have hleast : n ≤ leastV xs T N := (least_free ho (by omega) hbd.1 hbd.2 (by omega)).2 I.free
  have hahead : ∀ s, f ≤ s → (lv xs 0).1 ≤ s → s < T → leastV xs s N < n := fun s h1 h2 h3 => by
    have := I.first (s := s) (by omega) h3
    rcases Int.lt_or_le (leastV xs s N) n with h4 | h4
    · exact h4
    · exact absurd ((least_free ho (by omega) h2 (by omega) (by omega)).1 h4) this
  unfold MaxT at hb' h00 hbd
  have f0 : 0 ≤ f := by omega
  have f1 : f ≤ 1099511627776 := by omega
  have N0 : 1 ≤ N := by omega
  have N1 : N ≤ 1099511627776 := by omega
  have T0 : 0 ≤ T := by omega
  have T1 : T ≤ 1099511627776 := by omega
  have fT : f ≤ T := by omega
  have n0 : 0 ≤ n := by omega
  obtain ⟨U, R, hU, hR, hm1, hm2, huN⟩ := pick less N N0 N1
  have L1 := I.less (n' := 1 + (R : Int)) (k' := n) (by omega) (by omega)
  have L2 := I.less (n' := (N : Int)) (k' := min (max less 0) n) (by omega) (by omega)
  have F1 : Hid (Calls Try.prog 23 #[.slice (some ⟨b, off, none⟩) xs.length c, .int .i64 f, .int .i64 N, .int .i64 n] w fun e w' => e = .returned (.tuple #[.int .i64 T, .int .i64 0]) ∧ Below w.heap.size w w') := by
    have := fit_any _ xs f N n w (by omega) hk
    rwa [hfit] at this
  have F2 : Hid (∀ w1, Below w.heap.size w w1 → Calls Try.prog 23 #[.slice (some ⟨b, off, none⟩) xs.length c, .int .i64 f, .int .i64 (1 + (R : Int)), .int .i64 n] w1 fun e w' => e = .returned (.tuple #[.int .i64 (fitV xs f (1 + (R : Int)) n).1, .int .i64 0]) ∧ Below w1.heap.size w1 w') := fun w1 hb => by
    have := fit_any _ xs f (1 + (R : Int)) n w1 (by omega) (hk.kept hb)
    rwa [L1.1] at this
  have F3 : Hid (∀ w1, Below w.heap.size w w1 → Calls Try.prog 23 #[.slice (some ⟨b, off, none⟩) xs.length c, .int .i64 f, .int .i64 N, .int .i64 (min (max less 0) n)] w1 fun e w' => e = .returned (.tuple #[.int .i64 (fitV xs f N (min (max less 0) n)).1, .int .i64 0]) ∧ Below w1.heap.size w1 w') := fun w1 hb => by
    have := fit_any _ xs f N (min (max less 0) n) w1 (by omega) (hk.kept hb)
    rwa [L2.1] at this
  have F4 : Hid (∀ w1, Below w.heap.size w w1 → Calls Try.prog 23 #[.slice (some ⟨b, off, none⟩) xs.length c, .int .i64 later, .int .i64 N, .int .i64 n] w1 fun e w' => e = .returned (.tuple #[.int .i64 (fitV xs later N n).1, .int .i64 (fitV xs later N n).2]) ∧ Below w1.heap.size w1 w') := fun w1 hb => fit_any _ xs later N n w1 (by omega) (hk.kept hb)
  have HLat : Hid ((fitV xs later N n).2 = 0 → (f ≤ later → T ≤ (fitV xs later N n).1) ∧ (later ≤ f → (fitV xs later N n).1 ≤ T)) := fun h0 => by
    have J := fit_zero h0
    exact ⟨fun h1 => I.later J h1, fun h1 => J.later I h1⟩
  have LE : Hid (∀ s w1, -9223372036854775808 ≤ s → s ≤ 9223372036854775807 → Below w.heap.size w w1 → Calls Try.prog 16 #[.slice (some ⟨b, off, none⟩) xs.length c, .int .i64 s, .int .i64 N] w1 fun e w' => e = .returned (.int .i64 (leastV xs s N)) ∧ Below w1.heap.size w1 w') := fun s w1 h1 h2 hb => least_any _ xs s N w1 (by omega) (hk.kept hb) h1 h2 (by omega)
  obtain ⟨_, hu⟩ := L1
  obtain ⟨_, hv⟩ := L2
  generalize (fitV xs f (1 + (R : Int)) n).1 = u at *
  generalize (fitV xs f N (min (max less 0) n)).1 = vv at *
  generalize fitV xs later N n = fl at *
  obtain ⟨W, hh⟩ := fl
  dsimp only at F4 HLat
  have HA := Lib.hid hahead
  have HCA := Lib.hid hca
  clear hca hk ho hfit I hb' hbd hge hahead
  have q1 : decide ((N : Int) < 1) = false := decide_eq_false (by omega)
  have q2 : decide (leastV xs T N < n) = false := decide_eq_false (by omega)
  have q3 : decide (T < f) = false := decide_eq_false (by omega)
  have q4 : decide (u > T) = false := decide_eq_false (by omega)
  have q4' : decide (T < u) = false := q4
  have q5 : decide (vv > T) = false := decide_eq_false (by omega)
  have q5' : decide (T < vv) = false := q5
  have zz : ((0 : Int) != 0) = false := rfl
  obtain ⟨p0, hp0⟩ : ∃ p0, p0 = (lv xs 0).1 := ⟨_, rfl⟩
  rw [← hp0] at HA h00
  have HP0 := Lib.hid hp0
  obtain ⟨lt, hlt0⟩ : ∃ lt, lt = leastV xs T N := ⟨_, rfl⟩
  have LT : Hid (∀ w1, Below w.heap.size w w1 → Calls Try.prog 16 #[.slice (some ⟨b, off, none⟩) xs.length c, .int .i64 T, .int .i64 N] w1 fun e w' => e = .returned (.int .i64 lt) ∧ Below w1.heap.size w1 w') := fun w1 hb => by
    rw [hlt0]; exact LE.out T w1 (by omega) (by omega) hb
  rw [← hlt0] at q2
  clear hp0 hleast hlt0
  go_enter Try.func8, Try.ntmps8
  go_wp2_with fail
  refine HM.out.mono ?_; rintro e w0 ⟨rfl, hw⟩; subst hw
  go_wp2_with fail
  refine F1.out.mono ?_; rintro e w1 ⟨rfl, b1⟩
  have B1 := Lib.hid b1
  clear b1 F1
  go_wp2_with fail
  refine (LT.out _ B1.out).mono ?_; rintro e w2 ⟨rfl, b2⟩
  have B2 := Lib.hid (below_next b2 B1.out)
  clear b2 LT B1
  go_wp2_with fail
  go_loopw [15] (fun i wr => ∃ j : Nat, 1 ≤ j ∧ j ≤ 4 ∧ i = .int .i64 j ∧ Below w0.heap.size w0 wr) (fun i _ => 4 - (RowKit.intOf i).toNat)
  case atStart => exact ⟨1, Nat.le_refl _, by omega, rfl, B2.out⟩
  case round =>
    obtain ⟨j, hj1, hj4, rfl, hB⟩ := hrel
    have HB := Lib.hid hB
    clear hB
    by_cases hj : j ≤ 3
    · have g0 : decide ((j : Int) ≤ 3) = true := decide_eq_true (by omega)
      obtain ⟨S, hS⟩ : ∃ S, S = T - (j : Int) := ⟨_, rfl⟩
      have hS0 : -9223372036854775808 ≤ S ∧ S ≤ 9223372036854775807 := by omega
      obtain ⟨c0, c1⟩ := HCA.out.at HB.out hlen
      simp only [Nat.zero_mul, Nat.add_zero] at c0 c1
      rw [← HP0.out] at c0
      by_cases h1 : f ≤ S
      · have s1 : decide (T - (j : Int) ≥ f) = true := decide_eq_true (by omega)
        have s1' : decide (f ≤ T - (j : Int)) = true := s1
        by_cases h2 : p0 ≤ S
        · have s2 : decide (T - (j : Int) ≥ p0) = true := decide_eq_true (by omega)
          have s2' : decide (p0 ≤ T - (j : Int)) = true := s2
          have hl := HA.out S h1 h2 (by omega)
          have LS : Hid (∀ w1, Below w0.heap.size w0 w1 → Calls Try.prog 16 #[.slice (some ⟨b, off, none⟩) xs.length c, .int .i64 (T - (j : Int)), .int .i64 N] w1 fun e w' => e = .returned (.int .i64 (leastV xs S N)) ∧ Below w1.heap.size w1 w') := fun w1 hb => by
            rw [← hS]; exact LE.out S w1 hS0.1 hS0.2 hb
          have s3 : decide (leastV xs S N ≥ n) = false := decide_eq_false (by omega)
          have s3' : decide (n ≤ leastV xs S N) = false := s3
          generalize leastV xs S N = ls at *
          clear hl h1 h2 hS hS0
          go_wp2_with fail
          refine (LS.out _ HB.out).mono ?_; rintro e w4 ⟨rfl, b4⟩
          have HB4 := Lib.hid (below_next b4 HB.out)
          clear b4
          go_wp2_with fail
          go_roundw
          case rel => exact ⟨j + 1, by omega, by omega, by go_num, HB4.out⟩
          case measure => simp [RowKit.intOf]; omega
        · have s2 : decide (T - (j : Int) ≥ p0) = false := decide_eq_false (by omega)
          have s2' : decide (p0 ≤ T - (j : Int)) = false := s2
          clear h1 h2 hS hS0
          go_wp2_with fail
          go_roundw
          case rel => exact ⟨j + 1, by omega, by omega, by go_num, HB.out⟩
          case measure => simp [RowKit.intOf]; omega
      · have s1 : decide (T - (j : Int) ≥ f) = false := decide_eq_false (by omega)
        have s1' : decide (f ≤ T - (j : Int)) = false := s1
        clear h1 hS hS0
        go_wp2_with fail
        go_roundw
        case rel => exact ⟨j + 1, by omega, by omega, by go_num, HB.out⟩
        case measure => simp [RowKit.intOf]; omega
    · obtain rfl : j = 4 := by omega
      have g0 : decide (((4 : Nat) : Int) ≤ 3) = false := by decide
      have g0' : decide ((4 : Int) ≤ 3) = false := by decide
      have hRN : ¬ (N : Int) = 0 := by omega
      have hR0 : IntKind.i64.wrap (R : Int) = (R : Int) := i64_nat R (by omega)
      have hR1 : (R : Int) < 1099511627776 := by omega
      clear HA HCA
      go_wp2_with fail
      refine (F2.out _ HB.out).mono ?_; rintro e w4 ⟨rfl, b4⟩
      have B4 := Lib.hid (below_next b4 HB.out)
      clear b4 F2 HB hU hm1 hm2 huN hRN hR0
      go_wp2_with fail
      refine (F3.out _ B4.out).mono ?_; rintro e w5 ⟨rfl, b5⟩
      have B6 := Lib.hid (below_next b5 B4.out)
      clear b5 F3 B4
      go_wp2_with fail
      refine (F4.out _ B6.out).mono ?_; rintro e w6 ⟨rfl, b6⟩
      have B5 := Lib.hid (below_next b6 B6.out)
      clear b6 F4 B6
      by_cases hz : hh = 0
      · have z1 : (hh == 0) = true := by simpa using hz
        obtain ⟨l1, l2⟩ := HLat.out hz
        clear hz HLat
        by_cases h1 : f ≤ later
        · have s1 : decide (later ≥ f) = true := decide_eq_true h1
          have s1' : decide (f ≤ later) = true := s1
          have s2 : decide (W < T) = false := decide_eq_false (by have := l1 h1; omega)
          by_cases h2 : later ≤ f
          · have s3 : decide (later ≤ f) = true := decide_eq_true h2
            have s4 : decide (later ≥ 0) = true := decide_eq_true (by omega)
            have s4' : decide (0 ≤ later) = true := s4
            have s5 : decide (W > T) = false := decide_eq_false (by have := l2 h2; omega)
            have s5' : decide (T < W) = false := s5
            clear l1 l2 h1 h2
            go_wp2_with fail
            refine (K.out _).mono ?_; rintro e wc ⟨rfl, bc⟩
            have BC := Lib.hid (below_next bc B5.out)
            clear bc B5
            go_wp2_with fail
            go_ret
            exact ⟨rfl, BC.out⟩
          · have s3 : decide (later ≤ f) = false := decide_eq_false h2
            clear l1 l2 h1 h2
            go_wp2_with fail
            refine (K.out _).mono ?_; rintro e wc ⟨rfl, bc⟩
            have BC := Lib.hid (below_next bc B5.out)
            clear bc B5
            go_wp2_with fail
            go_ret
            exact ⟨rfl, BC.out⟩
        · have s1 : decide (later ≥ f) = false := decide_eq_false h1
          have s1' : decide (f ≤ later) = false := s1
          have s3 : decide (later ≤ f) = true := decide_eq_true (by omega)
          have s5 : decide (W > T) = false := decide_eq_false (by have := l2 (by omega); omega)
          have s5' : decide (T < W) = false := s5
          clear l1 l2
          by_cases h2 : 0 ≤ later
          · have s4 : decide (later ≥ 0) = true := decide_eq_true h2
            have s4' : decide (0 ≤ later) = true := s4
            clear h1 h2
            go_wp2_with fail
            refine (K.out _).mono ?_; rintro e wc ⟨rfl, bc⟩
            have BC := Lib.hid (below_next bc B5.out)
            clear bc B5
            go_wp2_with fail
            go_ret
            exact ⟨rfl, BC.out⟩
          · have s4 : decide (later ≥ 0) = false := decide_eq_false h2
            have s4' : decide (0 ≤ later) = false := s4
            clear h1 h2
            go_wp2_with fail
            refine (K.out _).mono ?_; rintro e wc ⟨rfl, bc⟩
            have BC := Lib.hid (below_next bc B5.out)
            clear bc B5
            go_wp2_with fail
            go_ret
            exact ⟨rfl, BC.out⟩
      · have z1 : (hh == 0) = false := by simpa using hz
        clear hz HLat
        go_wp2_with fail
        refine (K.out _).mono ?_; rintro e wc ⟨rfl, bc⟩
        have BC := Lib.hid (below_next bc B5.out)
        clear bc B5
        go_wp2_with fail
        go_ret
        exact ⟨rfl, BC.out⟩

theorem walk (v : Value) (xs : List Lv) (f N n less later : Int) (w : World) (w0 : LArg w v xs) (w1 : (Lit.int .i64 f).wf = true) (w2 : (Lit.int .i64 N).wf = true) (w3 : (Lit.int .i64 n).wf = true) (w4 : (Lit.int .i64 less).wf = true) (w5 : (Lit.int .i64 later).wf = true) :
    Calls Try.prog 8 #[v, .int .i64 f, .int .i64 N, .int .i64 n, .int .i64 less, .int .i64 later] w fun e w' => e = .returned (.bool true) ∧ Below w.heap.size w w' := by
  obtain ⟨hk, ⟨a, c, rfl⟩, hm, hok⟩ := w0
  by_cases h : 100 < xs.length
  · exact long a xs.length c f N n less later w h
  · by_cases hgood : (fitV xs f N n).2 = 0
    · have I := fit_zero hgood
      have hk0 := hk
      rcases hk with ⟨rfl, _⟩ | ⟨b, off, c2, hav, _, r1, r2, hca⟩
      · exact absurd rfl I.ok.1
      obtain ⟨rfl, _, rfl⟩ : a = some ⟨b, off, none⟩ ∧ True ∧ c = c2 := by simpa using hav
      have hb' : ¬ (N < 1 ∨ MaxT < N ∨ f < 0 ∨ MaxT < f ∨ n < 0) := I.nb
      obtain ⟨M, rfl⟩ : ∃ M : Nat, N = (M : Int) := ⟨N.toNat, by omega⟩
      exact main b off c xs f M n less later _ w hca hk0 (by omega) I (Prod.ext rfl hgood)
    · exact bad a c xs f N n less later w hk (by omega) hgood


set_option maxRecDepth 100000 in
theorem lifted (os : Os) (started : os.Started) (H : Type) (enc : TypeId × Value → H) :
    ReturnsInHanded {} Try.checked os 8 .any (Rows.profileLeastSpec.pre6 enc Try.prog Try.f8 Rows.profileLeastRow.domain false) (Rows.profileLeastSpec.post enc Try.prog Try.f8 false true false false) := by
  refine returnsInHanded_of_change (C := Try.checked) own started (by kernel_rfl) Try.func8
    (ChangeSpec.witness6 (enc := enc) (C := Try.checked) false ⟨#[], #[.slice none 0 0, .int .i64 0, .int .i64 0, .int .i64 0, .int .i64 0, .int .i64 0], []⟩ 8 (by kernel_rfl) (by kernel_rfl) (by kernel_rfl) (by kernel_rfl)) ?_
  intro W base args ds gs before hval0 hW _ _
  have hval : ∀ (j : Nat) t v, Try.f8.params[j]? = some t → args[j]? = some v → Value.okWide Try.prog W .any base t v := hval0
  have hW' := hW
  obtain ⟨p, q, hA0, hV, rfl, hfz, hnd⟩ := hW
  have hA : DataW.TrodAll enc Try.prog W 0 (fun _ => true) true Try.f8.params.toList args.toList ds p := hA0
  rw [Try.params8] at hA hval
  obtain ⟨v0, vs0, d0, ds0, p0, q0, hargs, rfl, rfl, h0, r0⟩ := trodAll_cons hA
  obtain ⟨v1, vs1, d1, ds1, p1, q1, rfl, rfl, rfl, h1, r1⟩ := trodAll_cons r0
  obtain ⟨v2, vs2, d2, ds2, p2, q2, rfl, rfl, rfl, h2, r2⟩ := trodAll_cons r1
  obtain ⟨v3, vs3, d3, ds3, p3, q3, rfl, rfl, rfl, h3, r3⟩ := trodAll_cons r2
  obtain ⟨v4, vs4, d4, ds4, p4, q4, rfl, rfl, rfl, h4, r4⟩ := trodAll_cons r3
  obtain ⟨v5, vs5, d5, ds5, p5, q5, rfl, rfl, rfl, h5, r5⟩ := trodAll_cons r4
  obtain ⟨rfl, rfl, rfl⟩ := trodAll_nil r5
  obtain rfl : args = #[v0, v1, v2, v3, v4, v5] := by cases args; simp_all
  obtain ⟨p, w0⟩ := open_levels_arg h0 (okWide_slice Try.underlying22 (hval 0 22 v0 rfl rfl))
  obtain ⟨f, rfl, rfl, rfl, w1⟩ := open_int Try.underlying3 (hval 1 3 v1 rfl rfl) h1
  obtain ⟨length, rfl, rfl, rfl, w2⟩ := open_int Try.underlying3 (hval 2 3 v2 rfl rfl) h2
  obtain ⟨n, rfl, rfl, rfl, w3⟩ := open_int Try.underlying3 (hval 3 3 v3 rfl rfl) h3
  obtain ⟨less, rfl, rfl, rfl, w4⟩ := open_int Try.underlying3 (hval 4 3 v4 rfl rfl) h4
  obtain ⟨later, rfl, rfl, rfl, w5⟩ := open_int Try.underlying3 (hval 5 3 v5 rfl rfl) h5
  clear hA0 hval0
  refine (walk v0 p f length n less later W w0 w1 w2 w3 w4 w5).mono fun e W' ⟨he, hb⟩ => ?_
  subst he
  exact ⟨_, rfl, law_post (by kernel_rfl) (by kernel_rfl) rfl Try.underlying4 rfl hW' rfl hb⟩

theorem over : Rows.profileLeastRow.holds Try.pinned (OpenSpec.ofChange Rows.profileLeastSpec) :=
  OpenClaim.holds_of_wide 8 Try.f8 rfl rfl rfl rfl rfl rfl rfl ⟨rfl, rfl, rfl, rfl, rfl⟩ rfl rfl rfl rfl rfl (by kernel_rfl) Try.func8 (by kernel_rfl)
    (of_decide_eq_true (by kernel_rfl)) (by unfold Func.isWrapper; first | (rw [if_pos (by decide +kernel)]; kernel_rfl) | (rw [if_neg (by decide +kernel)]; exact ⟨rfl, rfl⟩))
    (fun os started H enc _ => lifted os started H enc)

theorem proved : Rows.ProfileLeastSaid :=
  over
#print axioms proved
end Go.Proofs.Ytnbgipegfnpobaa.profileLeast
