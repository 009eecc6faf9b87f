/-
  slices.BinarySearchFunc at levels, profile.find, profile.freeAt, profile.At, gangerref05.At.
-/
import Derived.Test.YtnbgipegfnpobaaLvB
import Derived.Test.YtnbgipegfnpobaaShelf
namespace Go.Proofs.Ytnbgipegfnpobaa
open Go Go.RowKit Go.Lib
set_option linter.unusedVariables false

theorem cl_any (x1 x2 t : Int) (w : World) : Calls Try.prog 45 #[.agg #[.int .i64 x1, .int .i64 x2], .int .i64 t] w fun e w' => e = .returned (.int .i64 (Lib.compareInt x1 t)) ∧ Below w.heap.size w w' := by
  have C : Hid (∀ w, Calls Try.prog 43 #[.int .i64 x1, .int .i64 t] w fun e w' => e = .returned (.int .i64 (Lib.compareInt x1 t)) ∧ w' = w) := fun w => Try.cmp_Compare_int x1 t w
  generalize Lib.compareInt x1 t = r at *
  go_enter Try.func45, Try.ntmps45
  go_wp2_with fail
  refine (C.out _).mono ?_; rintro e w1 ⟨rfl, hw⟩; subst hw
  go_wp2_with fail
  go_ret
  exact ⟨rfl, (Below.refl _ _).alloc (Nat.le_refl _) _⟩
theorem cmp_neg {x t : Int} : Lib.compareInt x t < 0 ↔ x < t := by
  unfold Lib.compareInt; split <;> (try split) <;> omega
theorem cmp_zero {x t : Int} : Lib.compareInt x t = 0 ↔ x = t := by
  unfold Lib.compareInt; split <;> (try split) <;> omega

abbrev fnc : Value := .func (.func 45) #[] #[]
set_option maxHeartbeats 2000000 in
theorem bs_row (b off c : Nat) (xs : List Lv) (t : Int) (w : World) (hn : xs.length ≤ 1048576) (hc : LCells w b off xs) (hi : Inc xs) :
    Calls Try.prog 44 #[.slice (some ⟨b, off, none⟩) xs.length c, .int .i64 t, .func (.func 45) #[] #[]] w
      fun e w' => ∃ (p : Nat) (f : Bool), e = .returned (.tuple #[.int .i64 (p : Nat), .bool f]) ∧ (p ≤ xs.length ∧ (∀ q, q < p → (lv xs q).1 < t) ∧ (∀ q, p ≤ q → q < xs.length → t ≤ (lv xs q).1) ∧ (f = true ↔ p < xs.length ∧ (lv xs p).1 = t)) ∧ Below w.heap.size w w' := by
  have HC := Lib.hid hc
  have HM : Hid (∀ q r, q ≤ r → r < xs.length → (lv xs q).1 ≤ (lv xs r).1) := fun q r h1 h2 => by
    rcases Nat.lt_or_ge q r with h | h
    · exact Int.le_of_lt (hi.at q r h h2)
    · rw [show q = r by omega]; exact Int.le_refl _
  have HK : Hid (∀ x1 x2 w, Calls Try.prog 45 #[.agg #[.int .i64 x1, .int .i64 x2], .int .i64 t] w fun e w' => e = .returned (.int .i64 (Lib.compareInt x1 t)) ∧ Below w.heap.size w w') := fun x1 x2 w => cl_any x1 x2 t w
  clear hc hi
  go_enter Try.func44, Try.ntmps44
  go_wp2_with fail
  go_loopw [9, 10] (fun i j wr => ∃ I J : Nat, i = .int .i64 I ∧ j = .int .i64 J ∧ I ≤ J ∧ J ≤ xs.length ∧ Hid ((∀ q, q < I → (lv xs q).1 < t) ∧ (∀ q, J ≤ q → q < xs.length → t ≤ (lv xs q).1)) ∧ Below w.heap.size w wr) (fun i j _ => (RowKit.intOf j).toNat - (RowKit.intOf i).toNat)
  case atStart => exact ⟨0, xs.length, rfl, rfl, Nat.zero_le _, Nat.le_refl _, ⟨fun q h => by omega, fun q h h' => by omega⟩, Below.refl _ _⟩
  case round =>
    obtain ⟨I, J, rfl, rfl, hIJ, hJ, hq0, hB⟩ := hrel
    by_cases hlt : I < J
    · have hlt' : decide (I < J) = true := decide_eq_true hlt
      obtain ⟨h, hh⟩ : ∃ h, h = (I + J) / 2 := ⟨_, rfl⟩
      have hhI : I ≤ h := by omega
      have hhJ : h < J := by omega
      have hhn : h < xs.length := by omega
      have hhi : (h : Int) < xs.length := by omega
      have eh : ((I : Int) + (J : Int)) / 2 = (h : Int) := by omega
      obtain ⟨c0, c1⟩ := HC.out.at hB hhn
      have HB := Lib.hid hB
      have hneg := Lib.hid (@cmp_neg (lv xs h).1 t)
      obtain ⟨x, hx⟩ : ∃ x, x = lv xs h := ⟨_, rfl⟩
      have HX := Lib.hid hx
      rw [← hx] at c0 c1 hneg
      obtain ⟨x1, x2⟩ := x
      have HKh := Lib.hid (HK.out x1 x2)
      dsimp only at c0 c1 hneg
      obtain ⟨r, hr⟩ : ∃ r, r = Lib.compareInt x1 t := ⟨_, rfl⟩
      rw [← hr] at HKh hneg
      clear hr hx hh hB
      by_cases hq : r < 0
      · have hq' : decide (r < 0) = true := decide_eq_true hq
        have hxt := Lib.hid (hneg.out.1 hq)
        clear hneg
        go_wp2_with fail
        refine (HKh.out _).mono ?_; rintro e w2 ⟨rfl, b2⟩
        have HB2 := Lib.hid (below_next b2 HB.out); clear b2
        go_wp2_with fail
        go_roundw
        case rel =>
          refine ⟨h + 1, J, by go_num, by go_num, by omega, hJ, ⟨fun q h1 => ?_, hq0.out.2⟩, HB2.out⟩
          have := HM.out q h (by omega) hhn
          rw [← HX.out] at this
          have := hxt.out
          dsimp only at *; omega
        case measure => simp [RowKit.intOf]; omega
      · have hq' : decide (r < 0) = false := decide_eq_false hq
        have hxt : Hid (t ≤ x1) := by
          unfold Hid
          rcases Int.lt_or_le x1 t with h1 | h1
          · exact absurd (hneg.out.2 h1) hq
          · exact h1
        clear hneg
        go_wp2_with fail
        refine (HKh.out _).mono ?_; rintro e w2 ⟨rfl, b2⟩
        have HB2 := Lib.hid (below_next b2 HB.out); clear b2
        go_wp2_with fail
        go_roundw
        case rel =>
          refine ⟨I, h, by go_num, by go_num, hhI, by omega, ⟨hq0.out.1, fun q h1 h2 => ?_⟩, HB2.out⟩
          have := HM.out h q h1 h2
          rw [← HX.out] at this
          have := hxt.out
          dsimp only at *; omega
        case measure => simp [RowKit.intOf]; omega
    · obtain rfl : I = J := by omega
      have hlt' : decide (I < I) = false := decide_eq_false (by omega)
      have HQ := hq0
      by_cases hIn : I < xs.length
      · have hIn' : decide (I < xs.length) = true := decide_eq_true hIn
        have hIi : (I : Int) < xs.length := by omega
        obtain ⟨c0, c1⟩ := HC.out.at hB hIn
        have HB := Lib.hid hB
        have hz := Lib.hid (@cmp_zero (lv xs I).1 t)
        obtain ⟨x, hx⟩ : ∃ x, x = lv xs I := ⟨_, rfl⟩
        have HX := Lib.hid hx
        rw [← hx] at c0 c1 hz
        obtain ⟨x1, x2⟩ := x
        have HKh := Lib.hid (HK.out x1 x2)
        dsimp only at c0 c1 hz
        obtain ⟨r, hr⟩ : ∃ r, r = Lib.compareInt x1 t := ⟨_, rfl⟩
        rw [← hr] at HKh hz
        clear hr hx hB
        go_wp2_with fail
        refine (HKh.out _).mono ?_; rintro e w2 ⟨rfl, b2⟩
        have HB2 := Lib.hid (below_next b2 HB.out); clear b2
        go_wp2_with fail
        go_ret2
        refine ⟨I, (r == 0), rfl, ⟨hJ, HQ.out.1, HQ.out.2, ?_⟩, HB2.out⟩
        rw [beq_iff_eq, hz.out, ← HX.out]
        exact ⟨fun h => ⟨hIn, h⟩, fun h => h.2⟩
      · have hIe : I = xs.length := by omega
        have hIn' : decide (I < xs.length) = false := decide_eq_false hIn
        go_wp2_with fail
        go_ret2
        exact ⟨I, false, rfl, ⟨hJ, HQ.out.1, HQ.out.2, by simp; omega⟩, hB⟩

theorem find_any (v : Value) (xs : List Lv) (t : Int) (w : World) (hn : xs.length ≤ 1048576) (h0 : xs ≠ []) (h : LRow w v xs) (hi : Inc xs) :
    Calls Try.prog 34 #[v, .int .i64 t] w fun e w' => e = .returned (.int .i64 ((num xs t : Int) - 1)) ∧ Below w.heap.size w w' := by
  rcases h with ⟨rfl, _⟩ | ⟨b, off, c, rfl, hp, _, _, hc⟩
  · exact absurd rfl h0
  · have B := Lib.hid (bs_row b off c xs t w hn hc hi)
    have HN1 : Hid (∀ p, p ≤ xs.length → (∀ q, q < p → (lv xs q).1 < t) → (∀ q, p ≤ q → q < xs.length → t ≤ (lv xs q).1) → (p < xs.length ∧ (lv xs p).1 = t) → num xs t = p + 1) := fun p h1 h2 h3 h4 =>
      num_uniq hi (by omega) (fun i hh => by
        rcases Nat.lt_or_ge i p with h5 | h5
        · have := h2 i h5; omega
        · rw [show i = p by omega]; omega) (fun i h5 h6 => by have := hi.at p i (by omega) h6; omega)
    have HN0 : Hid (∀ p, p ≤ xs.length → (∀ q, q < p → (lv xs q).1 < t) → (∀ q, p ≤ q → q < xs.length → t ≤ (lv xs q).1) → ¬ (p < xs.length ∧ (lv xs p).1 = t) → num xs t = p) := fun p h1 h2 h3 h4 =>
      num_uniq hi h1 (fun i hh => by have := h2 i hh; omega) (fun i h5 h6 => by
        have a1 := h3 i h5 h6
        rcases Nat.lt_or_ge p i with h7 | h7
        · have := hi.at p i h7 h6
          have := h3 p (Nat.le_refl _) (by omega)
          omega
        · obtain rfl : i = p := by omega
          have : ¬ (lv xs i).1 = t := fun e => h4 ⟨h6, e⟩
          omega)
    clear hi hc
    generalize num xs t = m at *
    go_enter Try.func34, Try.ntmps34
    go_wp2_with fail
    refine B.out.mono ?_; rintro e w1 ⟨p, f, rfl, ⟨h1, h2, h3, h4⟩, b1⟩
    cases f with
    | true =>
      have hm := Lib.hid (HN1.out p h1 h2 h3 (h4.1 rfl))
      clear HN1 HN0 h2 h3 h4
      go_wp2_with fail
      go_ret
      exact ⟨ret_int (by have := hm.out; omega), b1⟩
    | false =>
      have hm := Lib.hid (HN0.out p h1 h2 h3 (fun h => by have := h4.2 h; cases this))
      clear HN1 HN0 h2 h3 h4
      go_wp2_with fail
      go_ret
      exact ⟨ret_int (by have := hm.out; omega), b1⟩
theorem freeAt_any (v : Value) (xs : List Lv) (t : Int) (w : World) (hn : xs.length ≤ 1048576) (h0 : xs ≠ []) (h : LRow w v xs) (hi : Inc xs) :
    Calls Try.prog 33 #[v, .int .i64 t] w fun e w' => e = .returned (.int .i64 (vA xs t)) ∧ Below w.heap.size w w' := by
  have F := Lib.hid (find_any v xs t w hn h0 h hi)
  have hv := vA_num hi t
  have hl := num_le xs t
  rcases h with ⟨rfl, _⟩ | ⟨b, off, c, rfl, hp, _, _, hc⟩
  · exact absurd rfl h0
  · have HC := Lib.hid hc
    clear hc hi
    by_cases hm : num xs t = 0
    · rw [if_pos hm] at hv
      rw [hm] at F
      have HV := Lib.hid hv
      clear hv
      generalize vA xs t = r at *
      go_enter Try.func33, Try.ntmps33
      go_wp2_with fail
      refine F.out.mono ?_; rintro e w1 ⟨rfl, b1⟩
      go_wp2_with fail
      go_ret
      exact ⟨ret_int HV.out.symm, b1⟩
    · rw [if_neg hm] at hv
      obtain ⟨k, hk⟩ : ∃ k, num xs t = k + 1 := ⟨num xs t - 1, by omega⟩
      rw [hk, Nat.add_sub_cancel] at hv
      have hkn : k < xs.length := by omega
      have F2 : Hid (Calls Try.prog 34 #[.slice (some ⟨b, off, none⟩) xs.length c, .int .i64 t] w fun e w' => e = .returned (.int .i64 (k : Nat)) ∧ Below w.heap.size w w') := by
        have := F.out
        rw [hk, show (((k + 1 : Nat) : Int) - 1) = (k : Nat) by omega] at this
        exact this
      have HV := Lib.hid hv
      have hki : (k : Int) < xs.length := by omega
      clear hv F hk hm hl
      generalize vA xs t = r at *
      go_enter Try.func33, Try.ntmps33
      go_wp2_with fail
      refine F2.out.mono ?_; rintro e w1 ⟨rfl, b1⟩
      obtain ⟨c0, c1⟩ := HC.out.at b1 hkn
      go_wp2_with fail
      go_ret
      exact ⟨ret_int HV.out.symm, b1⟩
theorem at_any (v : Value) (xs : List Lv) (t : Int) (w : World) (hn : xs.length ≤ 1048576) (h : LRow w v xs) :
    Calls Try.prog 15 #[v, .int .i64 t] w fun e w' => e = .returned (.int .i64 (atV xs t)) ∧ Below w.heap.size w w' := by
  have C := Lib.hid (check_any v xs w hn h)
  by_cases hp : okP xs
  · rw [atV_ok hp]
    rw [checkV_ok hp] at C
    have F : Hid (∀ w1, Below w.heap.size w w1 → Calls Try.prog 33 #[v, .int .i64 t] w1 fun e w' => e = .returned (.int .i64 (vA xs t)) ∧ Below w1.heap.size w1 w') := fun w1 hb => freeAt_any v xs t w1 hn hp.1 (h.kept hb) hp.inc
    clear h
    generalize vA xs t = r at *
    go_enter Try.func15, Try.ntmps15
    go_wp2_with fail
    refine C.out.mono ?_; rintro e w1 ⟨rfl, b1⟩
    have B1 := Lib.hid b1; clear b1
    go_wp2_with fail
    refine (F.out _ B1.out).mono ?_; rintro e w2 ⟨rfl, b2⟩
    have B2 := Lib.hid (below_next b2 B1.out); clear b2
    go_wp2_with fail
    go_ret
    exact ⟨rfl, B2.out⟩
  · rw [atV_no hp]
    rw [checkV_no hp] at C
    clear h
    go_enter Try.func15, Try.ntmps15
    go_wp2_with fail
    refine C.out.mono ?_; rintro e w1 ⟨rfl, b1⟩
    go_wp2_with fail
    go_ret
    exact ⟨rfl, b1⟩
set_option maxHeartbeats 1000000 in
theorem refAt_row (b off c : Nat) (xs : List Lv) (t : Int) (w : World) (hn : xs.length ≤ 1048576) (h0 : 0 < xs.length) (hc : LCells w b off xs)
    (C : Hid (Calls Try.prog 19 #[.slice (some ⟨b, off, none⟩) xs.length c] w fun e w' => e = .returned (.int .i64 (checkV xs)) ∧ Below w.heap.size w w')) :
    Calls Try.prog 20 #[.slice (some ⟨b, off, none⟩) xs.length c, .int .i64 t] w fun e w' => e = .returned (.int .i64 (atV xs t)) ∧ Below w.heap.size w w' := by
  have HC := Lib.hid hc
  clear hc
  by_cases hp : okP xs
  · rw [atV_ok hp]
    rw [checkV_ok hp] at C
    have V0 := Lib.hid (vT_all xs t)
    have V1 : Hid (∀ i, i < xs.length → vT xs t (i + 1) = if (lv xs i).1 ≤ t then (lv xs i).2 else vT xs t i) := fun i hi => vT_succ hi t
    have VZ := Lib.hid (vT_zero xs t)
    clear hp
    generalize vA xs t = r at *
    go_enter Try.func20, Try.ntmps20
    go_wp2_with fail
    refine C.out.mono ?_; rintro e w1 ⟨rfl, b1⟩
    have B1 := Lib.hid b1; clear b1
    go_wp2_with fail
    go_loop [6, 7] (fun n i => ∃ k : Nat, k ≤ xs.length ∧ i = .int .i64 k ∧ n = .int .i64 (vT xs t k)) (fun _ i => xs.length - (RowKit.intOf i).toNat)
    case atStart => exact ⟨0, Nat.zero_le _, rfl, by rw [VZ.out]⟩
    case round =>
      obtain ⟨k, hk, rfl, rfl⟩ := hrel
      by_cases hlt : k < xs.length
      · have hlt' : decide (k < xs.length) = true := decide_eq_true hlt
        have hlt2 : (k : Int) < xs.length := by omega
        obtain ⟨c0, c1⟩ := HC.out.at B1.out hlt
        have Vk := Lib.hid (V1.out k hlt)
        generalize vT xs t k = q at *
        generalize lv xs k = x at *
        obtain ⟨x1, x2⟩ := x
        dsimp only at c0 c1 Vk
        by_cases hx : x1 ≤ t
        · have hx' : decide (x1 ≤ t) = true := decide_eq_true hx
          have HV := Lib.hid (Vk.out.trans (if_pos hx))
          clear Vk
          go_wp2_with fail
          go_round
          case rel => exact ⟨k + 1, hlt, by go_num, by rw [HV.out]⟩
          case measure => simp [RowKit.intOf]; omega
        · have hx' : decide (x1 ≤ t) = false := decide_eq_false hx
          have HV := Lib.hid (Vk.out.trans (if_neg hx))
          clear Vk
          go_wp2_with fail
          go_round
          case rel => exact ⟨k + 1, hlt, by go_num, by rw [HV.out]⟩
          case measure => simp [RowKit.intOf]; omega
      · obtain rfl : k = xs.length := by omega
        have hlt' : decide (xs.length < xs.length) = false := decide_eq_false hlt
        rw [V0.out]
        go_wp2_with fail
        go_ret
        exact ⟨rfl, B1.out⟩
  · rw [atV_no hp]
    rw [checkV_no hp] at C
    go_enter Try.func20, Try.ntmps20
    go_wp2_with fail
    refine C.out.mono ?_; rintro e w1 ⟨rfl, b1⟩
    have hlt2 : (0 : Int) < xs.length := by omega
    have hlt3 : decide (0 < xs.length) = true := decide_eq_true h0
    go_wp2_with fail
    refine wp_loop_rounds 1 ?_
    rw [rounds_succ]
    go_wp2_with fail
    go_ret
    exact ⟨rfl, b1⟩
theorem refAt_nil (a : Option Addr) (c : Nat) (t : Int) (w : World) : Calls Try.prog 20 #[.slice a 0 c, .int .i64 t] w fun e w' => e = .returned (.int .i64 0) ∧ Below w.heap.size w w' := by
  have C := Lib.hid (refCheck_nil a c w)
  go_enter Try.func20, Try.ntmps20
  go_wp2_with fail
  refine C.out.mono ?_; rintro e w1 ⟨rfl, b1⟩
  go_wp2_with fail
  refine wp_loop_rounds 1 ?_
  rw [rounds_succ]
  go_wp2_with fail
  go_ret
  exact ⟨rfl, b1⟩
theorem refAt_any (v : Value) (xs : List Lv) (t : Int) (w : World) (hn : xs.length ≤ 1048576) (h : LRow w v xs) :
    Calls Try.prog 20 #[v, .int .i64 t] w fun e w' => e = .returned (.int .i64 (atV xs t)) ∧ Below w.heap.size w w' := by
  have C := Lib.hid (refCheck_any v xs w hn h)
  rcases h with ⟨rfl, a, c, rfl, _⟩ | ⟨b, off, c, rfl, h0, _, _, hc⟩
  · rw [atV_no not_ok_nil]; exact refAt_nil a c t w
  · exact refAt_row b off c xs t w hn h0 hc C
end Go.Proofs.Ytnbgipegfnpobaa
