/-
  profile.Fit: at any levels.
-/
import Derived.Test.YtnbgipegfnpobaaLvD
namespace Go.Proofs.Ytnbgipegfnpobaa
open Go Go.RowKit Go.Lib
set_option linter.unusedVariables false

set_option maxRecDepth 100000 in
set_option maxHeartbeats 4000000 in
theorem fit_row (b off c : Nat) (xs : List Lv) (f n k : Int) (w : World) (hn : xs.length ≤ 1048576) (hcap : xs.length ≤ c) (hcm : c ≤ maxLen) (hc : LCells w b off xs) (hp : okP xs) (hb : ¬ badFit f n k) :
    Calls Try.prog 23 #[.slice (some ⟨b, off, none⟩) xs.length c, .int .i64 f, .int .i64 n, .int .i64 k] w fun e w' => e = .returned (.tuple #[.int .i64 (fitV xs f n k).1, .int .i64 (fitV xs f n k).2]) ∧ Below w.heap.size w w' := by
  have hlen : 0 < xs.length := List.length_pos_iff.2 hp.1
  have hleni : (0 : Int) < xs.length := by omega
  have hr : LRow w (.slice (some ⟨b, off, none⟩) xs.length c) xs := .inr ⟨b, off, c, rfl, hlen, hcap, hcm, hc⟩
  have C := Lib.hid (check_any _ xs w hn hr)
  rw [checkV_ok hp] at C
  have hb' : ¬ (n < 1 ∨ MaxT < n ∨ f < 0 ∨ MaxT < f ∨ k < 0) := hb
  unfold MaxT at hb'
  have W1 : Hid (∀ w, Calls Try.prog 32 #[.int .i64 n, .int .i64 1, .int .i64 1099511627776] w fun e w' => e = .returned (.bool true) ∧ w' = w) := fun w => by
    have := within_any n 1 1099511627776 w
    rw [show inB n 1 1099511627776 = true from decide_eq_true (by omega)] at this; exact this
  have W2 : Hid (∀ w, Calls Try.prog 32 #[.int .i64 f, .int .i64 0, .int .i64 1099511627776] w fun e w' => e = .returned (.bool true) ∧ w' = w) := fun w => by
    have := within_any f 0 1099511627776 w
    rw [show inB f 0 1099511627776 = true from decide_eq_true (by omega)] at this; exact this
  have t3 : decide (k < 0) = false := decide_eq_false (by omega)
  obtain ⟨T, hT⟩ : ∃ T, T = max f (lv xs 0).1 := ⟨_, rfl⟩
  have mT' : max f (lv xs 0).1 = T := hT.symm
  have FD : Hid (∀ w1, Below w.heap.size w w1 → Calls Try.prog 34 #[.slice (some ⟨b, off, none⟩) xs.length c, .int .i64 T] w1 fun e w' => e = .returned (.int .i64 ((num xs T - 1 : Nat) : Int)) ∧ Below w1.heap.size w1 w') := fun w1 hb => by
    have := find_any _ xs T w1 hn hp.1 (hr.kept hb) hp.inc
    have h0 : num xs T ≠ 0 := fun e => by
      have := (num_pos hp.inc hp.1 (t := T)).1 e; omega
    rw [show ((num xs T : Int) - 1) = ((num xs T - 1 : Nat) : Int) by omega] at this
    exact this
  have HC := Lib.hid hc
  have S0 : Hid (FitSt xs f n k T (num xs T - 1)) := by rw [hT]; exact FitSt.start hp
  have SF : Hid (∀ t a, FitSt xs f n k t a → (lv xs a).2 < k → a + 1 = xs.length → fitV xs f n k = (0, 5)) := fun t a h => h.full hp hb
  have SN : Hid (∀ t a, FitSt xs f n k t a → (lv xs a).2 < k → a + 1 < xs.length → FitSt xs f n k (lv xs (a + 1)).1 (a + 1)) := fun t a h => h.next hp
  have SO : Hid (∀ t a, FitSt xs f n k t a → k ≤ (lv xs a).2 → a + 1 < xs.length → (lv xs (a + 1)).1 - t < n → FitSt xs f n k t (a + 1)) := fun t a h => h.on hp
  have SD : Hid (∀ t a, FitSt xs f n k t a → k ≤ (lv xs a).2 → (a + 1 = xs.length ∨ (a + 1 < xs.length ∧ n ≤ (lv xs (a + 1)).1 - t)) → fitV xs f n k = (t, 0)) := fun t a h => h.done hp hb
  have SB : Hid (∀ t a, FitSt xs f n k t a → 0 ≤ t ∧ t ≤ 1099511627776) := fun t a h => by
    have := h.cand.bounds hp (by unfold MaxT; omega)
    have h0 := (hp.2 0 hlen).1.1
    unfold MaxT at *; omega
  have SL : Hid (∀ t a, FitSt xs f n k t a → a < xs.length) := fun t a h => h.lt
  have LB : Hid (∀ i, i < xs.length → 0 ≤ (lv xs i).1 ∧ (lv xs i).1 ≤ 1099511627776) := fun i hi => (hp.2 i hi).1.1
  clear hr hc hT hb
  generalize num xs T - 1 = a0 at *
  generalize fitV xs f n k = res at *
  go_enter Try.func23, Try.ntmps23
  go_wp2_with fail
  refine C.out.mono ?_; rintro e w1 ⟨rfl, b1⟩
  have B1 := Lib.hid b1; clear b1
  go_wp2_with fail
  refine (W1.out _).mono ?_; rintro e w9 ⟨rfl, hw⟩; subst hw
  go_wp2_with fail
  refine (W2.out _).mono ?_; rintro e w9 ⟨rfl, hw⟩; subst hw
  obtain ⟨c0, c1⟩ := HC.out.at B1.out hlen
  simp only [Nat.zero_mul, Nat.add_zero] at c0 c1
  go_wp2_with fail
  refine (FD.out _ B1.out).mono ?_; rintro e w2 ⟨rfl, b2⟩
  have B2 := Lib.hid (below_next b2 B1.out); clear b2 c0 c1 mT' FD C W1 W2
  go_wp2_with fail
  go_loop [11, 12] (fun t i => ∃ (tz : Int) (a : Nat), i = .int .i64 a ∧ t = .int .i64 tz ∧ Hid (FitSt xs f n k tz a)) (fun _ i => xs.length - (RowKit.intOf i).toNat)
  case atStart => exact ⟨T, a0, rfl, rfl, S0⟩
  case round =>
    obtain ⟨tz, a, rfl, rfl, hst⟩ := hrel
    have hal := SL.out _ _ hst.out
    have hai : (a : Int) < xs.length := by omega
    have htb := SB.out _ _ hst.out
    obtain ⟨d0, d1⟩ := HC.out.at B2.out hal
    have sf := Lib.hid (SF.out _ _ hst.out)
    have sn := Lib.hid (SN.out _ _ hst.out)
    have so := Lib.hid (SO.out _ _ hst.out)
    have sd := Lib.hid (SD.out _ _ hst.out)
    by_cases hl : a + 1 = xs.length
    · have l1 : ((a : Int) == (xs.length : Int) - 1) = true := by rw [beq_iff_eq]; omega
      by_cases hlow : (lv xs a).2 < k
      · have hr := Lib.hid (sf.out hlow hl)
        generalize lv xs a = x at *
        obtain ⟨x1, x2⟩ := x
        dsimp only at d0 d1 hlow
        have v1 : decide (x2 < k) = true := decide_eq_true hlow
        clear sf sn so sd
        go_wp2_with fail
        go_ret2
        exact ⟨by rw [hr.out]; rfl, B2.out⟩
      · have hr := Lib.hid (sd.out (by omega) (.inl hl))
        generalize lv xs a = x at *
        obtain ⟨x1, x2⟩ := x
        dsimp only at d0 d1 hlow
        have v1 : decide (x2 < k) = false := decide_eq_false hlow
        clear sf sn so sd
        go_wp2_with fail
        go_ret2
        exact ⟨by rw [hr.out]; rfl, B2.out⟩
    · have hl2 : a + 1 < xs.length := by omega
      have l1 : ((a : Int) == (xs.length : Int) - 1) = false := by rw [beq_eq_false_iff_ne]; omega
      obtain ⟨i, hi⟩ : ∃ i, i = a + 1 := ⟨_, rfl⟩
      have ei : (a : Int) + 1 = (i : Int) := by omega
      have hii : (i : Int) < xs.length := by omega
      have hil : i < xs.length := by omega
      rw [← hi] at sn so sd
      obtain ⟨g0, g1⟩ := HC.out.at B2.out hil
      have lb := LB.out i hil
      by_cases hlow : (lv xs a).2 < k
      · have hs := Lib.hid (sn.out hlow hil)
        generalize lv xs a = x at *
        obtain ⟨x1, x2⟩ := x
        dsimp only at d0 d1 hlow
        have v1 : decide (x2 < k) = true := decide_eq_true hlow
        have HI := Lib.hid hi
        clear sf sn so sd hi
        go_wp2_with fail
        go_round
        case rel => exact ⟨_, i, by first | rfl | go_num, rfl, hs⟩
        case measure => simp [RowKit.intOf]; omega
      · by_cases hd : (lv xs i).1 - tz < n
        · have hs := Lib.hid (so.out (by omega) hil hd)
          have v2 : decide ((lv xs i).1 - tz ≥ n) = false := decide_eq_false (by omega)
          have v3 : decide (n ≤ (lv xs i).1 - tz) = false := decide_eq_false (by omega)
          generalize lv xs a = x at *
          obtain ⟨x1, x2⟩ := x
          dsimp only at d0 d1 hlow
          have v1 : decide (x2 < k) = false := decide_eq_false hlow
          have HI := Lib.hid hi
          clear sf sn so sd hi
          go_wp2_with fail
          go_round
          case rel => exact ⟨tz, i, by first | rfl | go_num, rfl, hs⟩
          case measure => simp [RowKit.intOf]; omega
        · have hr := Lib.hid (sd.out (by omega) (.inr ⟨hil, by omega⟩))
          have v2 : decide ((lv xs i).1 - tz ≥ n) = true := decide_eq_true (by omega)
          have v3 : decide (n ≤ (lv xs i).1 - tz) = true := decide_eq_true (by omega)
          generalize lv xs a = x at *
          obtain ⟨x1, x2⟩ := x
          dsimp only at d0 d1 hlow
          have v1 : decide (x2 < k) = false := decide_eq_false hlow
          clear sf sn so sd hi
          go_wp2_with fail
          go_ret2
          exact ⟨by rw [hr.out]; rfl, B2.out⟩
theorem within_eq (n low high : Int) (r : Bool) (h : inB n low high = r) (w : World) : Calls Try.prog 32 #[.int .i64 n, .int .i64 low, .int .i64 high] w fun e w' => e = .returned (.bool r) ∧ w' = w := by
  subst h; exact within_any n low high w
theorem fit_any (v : Value) (xs : List Lv) (f n k : Int) (w : World) (hn : xs.length ≤ 1048576) (h : LRow w v xs) :
    Calls Try.prog 23 #[v, .int .i64 f, .int .i64 n, .int .i64 k] w fun e w' => e = .returned (.tuple #[.int .i64 (fitV xs f n k).1, .int .i64 (fitV xs f n k).2]) ∧ Below w.heap.size w w' := by
  have C := Lib.hid (check_any v xs w hn h)
  by_cases hp : okP xs
  · by_cases hb : badFit f n k
    · rw [fit_bad hp hb]
      rw [checkV_ok hp] at C
      unfold badFit MaxT at hb
      clear hp h
      by_cases h1 : 1 ≤ n ∧ n ≤ 1099511627776
      · have W1 : Hid (∀ w, Calls Try.prog 32 #[.int .i64 n, .int .i64 1, .int .i64 1099511627776] w fun e w' => e = .returned (.bool true) ∧ w' = w) := fun w => within_eq _ _ _ _ (decide_eq_true h1) w
        by_cases h2 : 0 ≤ f ∧ f ≤ 1099511627776
        · have W2 : Hid (∀ w, Calls Try.prog 32 #[.int .i64 f, .int .i64 0, .int .i64 1099511627776] w fun e w' => e = .returned (.bool true) ∧ w' = w) := fun w => within_eq _ _ _ _ (decide_eq_true h2) w
          have t3 : decide (k < 0) = true := decide_eq_true (by omega)
          clear hb h1 h2
          go_enter Try.func23, Try.ntmps23
          go_wp2_with fail
          refine C.out.mono ?_; rintro e w1 ⟨rfl, b1⟩
          go_wp2_with fail
          refine (W1.out _).mono ?_; rintro e w9 ⟨rfl, hw⟩; subst hw
          go_wp2_with fail
          refine (W2.out _).mono ?_; rintro e w9 ⟨rfl, hw⟩; subst hw
          go_wp2_with fail
          go_ret2
          exact ⟨rfl, b1⟩
        · have W2 : Hid (∀ w, Calls Try.prog 32 #[.int .i64 f, .int .i64 0, .int .i64 1099511627776] w fun e w' => e = .returned (.bool false) ∧ w' = w) := fun w => within_eq _ _ _ _ (decide_eq_false h2) w
          clear hb h1 h2
          go_enter Try.func23, Try.ntmps23
          go_wp2_with fail
          refine C.out.mono ?_; rintro e w1 ⟨rfl, b1⟩
          go_wp2_with fail
          refine (W1.out _).mono ?_; rintro e w9 ⟨rfl, hw⟩; subst hw
          go_wp2_with fail
          refine (W2.out _).mono ?_; rintro e w9 ⟨rfl, hw⟩; subst hw
          go_wp2_with fail
          go_ret2
          exact ⟨rfl, b1⟩
      · have W1 : Hid (∀ w, Calls Try.prog 32 #[.int .i64 n, .int .i64 1, .int .i64 1099511627776] w fun e w' => e = .returned (.bool false) ∧ w' = w) := fun w => within_eq _ _ _ _ (decide_eq_false h1) w
        clear hb h1
        go_enter Try.func23, Try.ntmps23
        go_wp2_with fail
        refine C.out.mono ?_; rintro e w1 ⟨rfl, b1⟩
        go_wp2_with fail
        refine (W1.out _).mono ?_; rintro e w9 ⟨rfl, hw⟩; subst hw
        go_wp2_with fail
        go_ret2
        exact ⟨rfl, b1⟩
    · rcases h with ⟨rfl, _⟩ | ⟨b, off, c, rfl, h0, h2, h3, hc⟩
      · exact absurd rfl hp.1
      · exact fit_row b off c xs f n k w hn h2 h3 hc hp hb
  · rw [fit_no hp]
    rw [checkV_no hp] at C
    clear h hp
    go_enter Try.func23, Try.ntmps23
    go_wp2_with fail
    refine C.out.mono ?_; rintro e w1 ⟨rfl, b1⟩
    go_wp2_with fail
    go_ret2
    exact ⟨rfl, b1⟩
end Go.Proofs.Ytnbgipegfnpobaa
