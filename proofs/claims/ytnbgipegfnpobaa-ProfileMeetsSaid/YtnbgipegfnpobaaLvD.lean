/-
  profile.Least, gangerref05.Least, profile.New, gangerref05.New.
-/
import Derived.Test.YtnbgipegfnpobaaLvC
namespace Go.Proofs.Ytnbgipegfnpobaa
open Go Go.RowKit Go.Lib
set_option linter.unusedVariables false

set_option maxHeartbeats 2000000 in
theorem least_row (b off c : Nat) (xs : List Lv) (f n : Int) (w : World) (hn : xs.length ≤ 1048576) (hcap : xs.length ≤ c) (hcm : c ≤ maxLen) (hc : LCells w b off xs) (hp : okP xs) (h1 : 1 ≤ n) (f0 : -9223372036854775808 ≤ f) (f1 : f ≤ 9223372036854775807) (n1 : n ≤ 9223372036854775807) :
    Calls Try.prog 16 #[.slice (some ⟨b, off, none⟩) xs.length c, .int .i64 f, .int .i64 n] w fun e w' => e = .returned (.int .i64 (leastV xs f n)) ∧ Below w.heap.size w w' := by
  have hlen : 0 < xs.length := List.length_pos_iff.2 hp.1
  have hr : LRow w (.slice (some ⟨b, off, none⟩) xs.length c) xs := .inr ⟨b, off, c, rfl, hlen, hcap, hcm, hc⟩
  have C := Lib.hid (check_any _ xs w hn hr)
  rw [checkV_ok hp] at C
  obtain ⟨F, hF⟩ : ∃ F, F = min f MaxT := ⟨_, rfl⟩
  obtain ⟨N, hN⟩ : ∃ N, N = min n MaxT := ⟨_, rfl⟩
  have mF : min f 1099511627776 = F := hF.symm
  have mN : min n 1099511627776 = N := hN.symm
  have bF : F ≤ 1099511627776 := by rw [hF]; exact Int.min_le_right _ _
  have bF0 : -9223372036854775808 ≤ F := by rw [hF]; unfold MaxT; omega
  have bN : N ≤ 1099511627776 := by rw [hN]; exact Int.min_le_right _ _
  have bN0 : 1 ≤ N := by rw [hN]; unfold MaxT; omega
  have FD : Hid (∀ w1, Below w.heap.size w w1 → Calls Try.prog 34 #[.slice (some ⟨b, off, none⟩) xs.length c, .int .i64 F] w1 fun e w' => e = .returned (.int .i64 ((num xs F : Int) - 1)) ∧ Below w1.heap.size w1 w') := fun w1 hb => find_any _ xs F w1 hn hp.1 (hr.kept hb) hp.inc
  have HC := Lib.hid hc
  have t1 : decide (n < 1) = false := decide_eq_false (by omega)
  have hlv : Hid ((lv xs 0).1 ≤ f ↔ num xs F ≠ 0) := by
    have h2 := num_pos hp.inc hp.1 (t := F)
    have h3 := (hp.2 0 hlen).1.1
    unfold Hid
    rw [Ne, h2, hF]
    unfold MaxT at *
    omega
  by_cases hz : num xs F = 0
  · have hv : Hid (leastV xs f n = 0) := leastV_no fun h => (hlv.out.1 h.2.2) hz
    rw [hz] at FD
    clear hlv hr hc hF hN
    go_enter Try.func16, Try.ntmps16
    go_wp2_with fail
    refine C.out.mono ?_; rintro e w1 ⟨rfl, b1⟩
    have B1 := Lib.hid b1; clear b1
    go_wp2_with fail
    refine (FD.out _ B1.out).mono ?_; rintro e w2 ⟨rfl, b2⟩
    have B2 := Lib.hid (below_next b2 B1.out); clear b2
    go_wp2_with fail
    go_ret
    exact ⟨ret_int hv.out.symm, B2.out⟩
  · obtain ⟨k, hk⟩ : ∃ k, num xs F = k + 1 := ⟨num xs F - 1, by omega⟩
    have hkn : k < xs.length := by have := num_le xs F; omega
    have hki : (k : Int) < xs.length := by omega
    have FD2 : Hid (∀ w1, Below w.heap.size w w1 → Calls Try.prog 34 #[.slice (some ⟨b, off, none⟩) xs.length c, .int .i64 F] w1 fun e w' => e = .returned (.int .i64 (k : Nat)) ∧ Below w1.heap.size w1 w') := fun w1 hb => by
      have := FD.out w1 hb
      rw [hk, show (((k + 1 : Nat) : Int) - 1) = (k : Nat) by omega] at this
      exact this
    have hv : Hid (leastV xs f n = mG F (F + N) (lv xs k).2 xs) := by
      have := leastV_yes (p := xs) (f := f) (n := n) ⟨hp, h1, hlv.out.2 hz⟩
      rw [← hF, ← hN, vA_num hp.inc, if_neg hz, hk, Nat.add_sub_cancel] at this
      exact this
    have hm0 : Hid (mT xs F (F + N) (lv xs k).2 (k + 1) = (lv xs k).2) := by
      have := mT_skip (p := xs) F (F + N) (lv xs k).2
      rw [hk] at this; exact this
    have hms : Hid (∀ i, k + 1 ≤ i → i < xs.length → (lv xs i).1 < F + N → mT xs F (F + N) (lv xs k).2 (i + 1) = min (mT xs F (F + N) (lv xs k).2 i) (lv xs i).2) := fun i h3 h4 h5 => by
      have h6 := num_ge hp.inc F i (by omega) h4
      rw [mT_succ h4]
      by_cases h7 : (lv xs i).2 < mT xs F (F + N) (lv xs k).2 i
      · rw [if_pos ⟨h6, h5, h7⟩]; omega
      · rw [if_neg fun h => h7 h.2.2]; omega
    have hme : Hid (∀ i, i < xs.length → F + N ≤ (lv xs i).1 → mG F (F + N) (lv xs k).2 xs = mT xs F (F + N) (lv xs k).2 i) := fun i h3 h4 => mT_end hp.inc h3 h4
    have hma := Lib.hid (mT_all xs F (F + N) (lv xs k).2)
    obtain ⟨m0, hm⟩ : ∃ m0, m0 = (lv xs k).2 := ⟨_, rfl⟩
    rw [← hm] at hv hm0 hms hme hma
    have HM := Lib.hid hm
    clear hlv hr hc hF hN FD hz hk hm
    go_enter Try.func16, Try.ntmps16
    go_wp2_with fail
    refine C.out.mono ?_; rintro e w1 ⟨rfl, b1⟩
    have B1 := Lib.hid b1; clear b1
    go_wp2_with fail
    refine (FD2.out _ B1.out).mono ?_; rintro e w2 ⟨rfl, b2⟩
    have B2 := Lib.hid (below_next b2 B1.out); clear b2
    obtain ⟨c0, c1⟩ := HC.out.at B2.out hkn
    rw [← HM.out] at c1
    by_cases hck : c = k + 1
    · have hxk : xs.length = k + 1 := by omega
      have hfin : Hid (leastV xs f n = m0) := by
        have := hma.out
        rw [hxk, hm0.out] at this
        unfold Hid; rw [hv.out, ← this]
      clear hv hm0 hms hme hma
      subst hck
      go_wp2_with fail
      all_goals
        clear hxk
        refine wp_loop_rounds 1 ?_
        rw [rounds_succ]
        go_wp2_with fail
        go_ret
        exact ⟨ret_int hfin.out.symm, B2.out⟩
    · go_wp2_with fail
      all_goals
        obtain ⟨R, hR⟩ : ∃ R, R = xs.length - (k + 1) := ⟨_, rfl⟩
        rw [← hR]
        have hkR : Hid (k + 1 + R = xs.length) := by unfold Hid; omega
        have HR := Lib.hid hR
        have hR63 : R ≤ 1048576 := by omega
        clear hR
        go_loopw [8, 37] (fun m i wr => ∃ j : Nat, j ≤ R ∧ i = .int .i64 j ∧ m = .int .i64 (mT xs F (F + N) m0 (k + 1 + j)) ∧ Below w.heap.size w wr) (fun _ i _ => R - (RowKit.intOf i).toNat)
        case atStart => exact ⟨0, Nat.zero_le _, rfl, by rw [Nat.add_zero, hm0.out], B2.out⟩
        case round =>
          obtain ⟨j, hj, rfl, rfl, hB⟩ := hrel
          by_cases hlt : j < R
          · have hlt' : decide (j < R) = true := decide_eq_true hlt
            have hlt2 : (j : Int) < R := by omega
            have hix : k + 1 + j < xs.length := by have := hkR.out; omega
            obtain ⟨d0, d1⟩ := HC.out.at hB hix
            rw [show off + (k + 1 + j) * 2 = off + (k + 1) * 2 + j * 2 by omega] at d0 d1
            have hbl : b < wr.heap.size := Nat.lt_of_lt_of_le HC.out.1 hB.size
            have hz : w.heap.size ≤ wr.heap.size := hB.size
            have BA : Hid (Below w.heap.size w (wr.alloc (.cells #[.int .i64 (lv xs (k + 1 + j)).1, .int .i64 (lv xs (k + 1 + j)).2] 49))) := hB.alloc hz _
            have hs := Lib.hid (hms.out (k + 1 + j) (by omega) hix)
            have he := Lib.hid (hme.out (k + 1 + j) hix)
            clear hB
            generalize mT xs F (F + N) m0 (k + 1 + j) = q at *
            generalize lv xs (k + 1 + j) = x at *
            obtain ⟨x1, x2⟩ := x
            dsimp only at d0 d1 hs he BA
            by_cases hx : x1 < F + N
            · have hx' : decide (x1 ≥ F + N) = false := decide_eq_false (by omega)
              have hx2 : decide (F + N ≤ x1) = false := decide_eq_false (by omega)
              have hq := Lib.hid (hs.out hx)
              clear hs he
              go_wp2_with fail
              go_roundw
              case rel => exact ⟨j + 1, hlt, by go_num, by rw [← Nat.add_assoc, hq.out], BA.out⟩
              case measure => simp [RowKit.intOf]; omega
            · have hx' : decide (x1 ≥ F + N) = true := decide_eq_true (by omega)
              have hx2 : decide (F + N ≤ x1) = true := decide_eq_true (by omega)
              have hq := Lib.hid (hv.out.trans (he.out (by omega)))
              clear hs he
              go_wp2_with fail
              go_ret
              exact ⟨ret_int hq.out.symm, BA.out⟩
          · obtain rfl : j = R := by omega
            have hlt' : decide (j < j) = false := decide_eq_false hlt
            have hq : Hid (leastV xs f n = mT xs F (F + N) m0 (k + 1 + j)) := by
              have := hma.out
              unfold Hid; rw [hv.out, ← this, hkR.out]
            go_wp2_with fail
            go_ret
            exact ⟨ret_int hq.out.symm, hB⟩
theorem least_any (v : Value) (xs : List Lv) (f n : Int) (w : World) (hn : xs.length ≤ 1048576) (h : LRow w v xs) (f0 : -9223372036854775808 ≤ f) (f1 : f ≤ 9223372036854775807) (n1 : n ≤ 9223372036854775807) :
    Calls Try.prog 16 #[v, .int .i64 f, .int .i64 n] w fun e w' => e = .returned (.int .i64 (leastV xs f n)) ∧ Below w.heap.size w w' := by
  have C := Lib.hid (check_any v xs w hn h)
  by_cases hp : okP xs
  · by_cases h1 : 1 ≤ n
    · rcases h with ⟨rfl, _⟩ | ⟨b, off, c, rfl, h0, h2, h3, hc⟩
      · exact absurd rfl hp.1
      · exact least_row b off c xs f n w hn h2 h3 hc hp h1 f0 f1 n1
    · rw [leastV_no fun h => h1 h.2.1]
      rw [checkV_ok hp] at C
      have t1 : decide (n < 1) = true := decide_eq_true (by omega)
      go_enter Try.func16, Try.ntmps16
      go_wp2_with fail
      refine C.out.mono ?_; rintro e w1 ⟨rfl, b1⟩
      go_wp2_with fail
      go_ret
      exact ⟨rfl, b1⟩
  · rw [leastV_no fun h => hp h.1]
    rw [checkV_no hp] at C
    go_enter Try.func16, Try.ntmps16
    go_wp2_with fail
    refine C.out.mono ?_; rintro e w1 ⟨rfl, b1⟩
    go_wp2_with fail
    go_ret
    exact ⟨rfl, b1⟩

set_option maxHeartbeats 2000000 in
theorem refLeast_row (b off c : Nat) (xs : List Lv) (f n : Int) (w : World) (hn : xs.length ≤ 1048576) (hr : LRow w (.slice (some ⟨b, off, none⟩) xs.length c) xs) (hc : LCells w b off xs) (hp : okP xs) (h1 : 1 ≤ n) (f0 : -9223372036854775808 ≤ f) (f1 : f ≤ 9223372036854775807) (n1 : n ≤ 9223372036854775807) :
    Calls Try.prog 21 #[.slice (some ⟨b, off, none⟩) xs.length c, .int .i64 f, .int .i64 n] w fun e w' => e = .returned (.int .i64 (leastV xs f n)) ∧ Below w.heap.size w w' := by
  have hlen : 0 < xs.length := List.length_pos_iff.2 hp.1
  have hleni : (0 : Int) < xs.length := by omega
  have C := Lib.hid (refCheck_any _ xs w hn hr)
  rw [checkV_ok hp] at C
  obtain ⟨F, hF⟩ : ∃ F, F = min f MaxT := ⟨_, rfl⟩
  obtain ⟨N, hN⟩ : ∃ N, N = min n MaxT := ⟨_, rfl⟩
  have mF : min f 1099511627776 = F := hF.symm
  have mN : min n 1099511627776 = N := hN.symm
  have bF : F ≤ 1099511627776 := by rw [hF]; exact Int.min_le_right _ _
  have bF0 : -9223372036854775808 ≤ F := by rw [hF]; unfold MaxT; omega
  have bN : N ≤ 1099511627776 := by rw [hN]; exact Int.min_le_right _ _
  have bN0 : 1 ≤ N := by rw [hN]; unfold MaxT; omega
  have AT : Hid (∀ w1, Below w.heap.size w w1 → Calls Try.prog 20 #[.slice (some ⟨b, off, none⟩) xs.length c, .int .i64 F] w1 fun e w' => e = .returned (.int .i64 (vA xs F)) ∧ Below w1.heap.size w1 w') := fun w1 hb => by
    have := refAt_any _ xs F w1 hn (hr.kept hb)
    rw [atV_ok hp] at this; exact this
  have HC := Lib.hid hc
  have t1 : decide (n < 1) = false := decide_eq_false (by omega)
  by_cases hz : f < (lv xs 0).1
  · have hv : Hid (leastV xs f n = 0) := leastV_no fun h => by have := h.2.2; omega
    have hz' : decide (f < (lv xs 0).1) = true := decide_eq_true hz
    clear hr hc hF hN
    go_enter Try.func21, Try.ntmps21
    go_wp2_with fail
    refine C.out.mono ?_; rintro e w1 ⟨rfl, b1⟩
    obtain ⟨c0, c1⟩ := HC.out.at b1 hlen
    simp only [Nat.zero_mul, Nat.add_zero] at c0 c1
    go_wp2_with fail
    go_ret
    exact ⟨ret_int hv.out.symm, b1⟩
  · have hz' : decide (f < (lv xs 0).1) = false := decide_eq_false hz
    have hv : Hid (leastV xs f n = mG F (F + N) (vA xs F) xs) := by
      have := leastV_yes (p := xs) (f := f) (n := n) ⟨hp, h1, by omega⟩
      rw [← hF, ← hN] at this
      exact this
    have hm0 : Hid (mT xs F (F + N) (vA xs F) 0 = vA xs F) := mT_zero _ _ _ _
    have hms : Hid (∀ i, i < xs.length → mT xs F (F + N) (vA xs F) (i + 1) = if F < (lv xs i).1 ∧ (lv xs i).1 < F + N ∧ (lv xs i).2 < mT xs F (F + N) (vA xs F) i then (lv xs i).2 else mT xs F (F + N) (vA xs F) i) := fun i h4 => mT_succ h4 _ _ _
    have hma := Lib.hid (mT_all xs F (F + N) (vA xs F))
    generalize vA xs F = m0 at *
    clear hr hc hF hN
    go_enter Try.func21, Try.ntmps21
    go_wp2_with fail
    refine C.out.mono ?_; rintro e w1 ⟨rfl, b1⟩
    obtain ⟨c0, c1⟩ := HC.out.at b1 hlen
    simp only [Nat.zero_mul, Nat.add_zero] at c0 c1
    have B1 := Lib.hid b1; clear b1
    go_wp2_with fail
    refine (AT.out _ B1.out).mono ?_; rintro e w2 ⟨rfl, b2⟩
    have B2 := Lib.hid (below_next b2 B1.out); clear b2 c0 c1
    go_wp2_with fail
    go_loop [8, 9] (fun m i => ∃ j : Nat, j ≤ xs.length ∧ i = .int .i64 j ∧ m = .int .i64 (mT xs F (F + N) m0 j)) (fun _ i => xs.length - (RowKit.intOf i).toNat)
    case atStart => exact ⟨0, Nat.zero_le _, rfl, by rw [hm0.out]⟩
    case round =>
      obtain ⟨j, hj, rfl, rfl⟩ := hrel
      by_cases hlt : j < xs.length
      · have hlt' : decide (j < xs.length) = true := decide_eq_true hlt
        have hlt2 : (j : Int) < xs.length := by omega
        obtain ⟨d0, d1⟩ := HC.out.at B2.out hlt
        have hs := Lib.hid (hms.out j hlt)
        generalize mT xs F (F + N) m0 j = q at *
        generalize lv xs j = x at *
        obtain ⟨x1, x2⟩ := x
        dsimp only at d0 d1 hs
        by_cases hx : F < x1
        · have hx' : decide (x1 > F) = true := decide_eq_true hx
          have hx1 : decide (F < x1) = true := decide_eq_true hx
          by_cases hy : x1 < F + N
          · have hy' : decide (x1 < F + N) = true := decide_eq_true hy
            by_cases hu : x2 < q
            · have hu' : decide (x2 < q) = true := decide_eq_true hu
              have hq := Lib.hid (hs.out.trans (if_pos ⟨hx, hy, hu⟩))
              clear hs
              go_wp2_with fail
              go_round
              case rel => exact ⟨j + 1, hlt, by go_num, by rw [hq.out]⟩
              case measure => simp [RowKit.intOf]; omega
            · have hu' : decide (x2 < q) = false := decide_eq_false hu
              have hq := Lib.hid (hs.out.trans (if_neg fun h => hu h.2.2))
              clear hs
              go_wp2_with fail
              go_round
              case rel => exact ⟨j + 1, hlt, by go_num, by rw [hq.out]⟩
              case measure => simp [RowKit.intOf]; omega
          · have hy' : decide (x1 < F + N) = false := decide_eq_false hy
            have hq := Lib.hid (hs.out.trans (if_neg fun h => hy h.2.1))
            clear hs
            go_wp2_with fail
            go_round
            case rel => exact ⟨j + 1, hlt, by go_num, by rw [hq.out]⟩
            case measure => simp [RowKit.intOf]; omega
        · have hx' : decide (x1 > F) = false := decide_eq_false hx
          have hx1 : decide (F < x1) = false := decide_eq_false hx
          have hq := Lib.hid (hs.out.trans (if_neg fun h => hx h.1))
          clear hs
          go_wp2_with fail
          go_round
          case rel => exact ⟨j + 1, hlt, by go_num, by rw [hq.out]⟩
          case measure => simp [RowKit.intOf]; omega
      · obtain rfl : j = xs.length := by omega
        have hlt' : decide (xs.length < xs.length) = false := decide_eq_false hlt
        have hq := Lib.hid (hv.out.trans hma.out.symm)
        go_wp2_with fail
        go_ret
        exact ⟨ret_int hq.out.symm, B2.out⟩
theorem refLeast_any (v : Value) (xs : List Lv) (f n : Int) (w : World) (hn : xs.length ≤ 1048576) (h : LRow w v xs) (f0 : -9223372036854775808 ≤ f) (f1 : f ≤ 9223372036854775807) (n1 : n ≤ 9223372036854775807) :
    Calls Try.prog 21 #[v, .int .i64 f, .int .i64 n] w fun e w' => e = .returned (.int .i64 (leastV xs f n)) ∧ Below w.heap.size w w' := by
  have C := Lib.hid (refCheck_any v xs w hn h)
  by_cases hp : okP xs
  · by_cases h1 : 1 ≤ n
    · have hr := h
      rcases h with ⟨rfl, _⟩ | ⟨b, off, c, rfl, h0, h2, h3, hc⟩
      · exact absurd rfl hp.1
      · exact refLeast_row b off c xs f n w hn hr hc hp h1 f0 f1 n1
    · rw [leastV_no fun h => h1 h.2.1]
      rw [checkV_ok hp] at C
      have t1 : decide (n < 1) = true := decide_eq_true (by omega)
      go_enter Try.func21, Try.ntmps21
      go_wp2_with fail
      refine C.out.mono ?_; rintro e w1 ⟨rfl, b1⟩
      go_wp2_with fail
      go_ret
      exact ⟨rfl, b1⟩
  · rw [leastV_no fun h => hp h.1]
    rw [checkV_no hp] at C
    go_enter Try.func21, Try.ntmps21
    go_wp2_with fail
    refine C.out.mono ?_; rintro e w1 ⟨rfl, b1⟩
    go_wp2_with fail
    go_ret
    exact ⟨rfl, b1⟩

/-! New. -/
open Classical in
noncomputable def newV (t f : Int) : List Lv × Int := if okP [(t, f)] then ([(t, f)], 0) else ([], 50)
theorem one_row {w : World} {b : Nat} {t f : Int} {ty : TypeId} (h : Blk w b #[.int .i64 t, .int .i64 f] ty) : LRow w (.slice (some ⟨b, 0, none⟩) 1 1) [(t, f)] :=
  .inr ⟨b, 0, 1, rfl, Nat.zero_lt_one, Nat.le_refl _, by unfold maxLen; omega, h.lt, fun j hj => by
    obtain rfl : j = 0 := by simpa using hj
    exact ⟨by simpa [lv] using h.cell 0, by simpa [lv] using h.cell 1⟩⟩
theorem nil_row (w : World) : LRow w (.slice none 0 0) [] := .inl ⟨rfl, none, 0, rfl, Nat.zero_le _⟩
theorem new_any (t f : Int) (w : World) : Calls Try.prog 17 #[.int .i64 t, .int .i64 f] w fun e w' => ∃ v, e = .returned (.tuple #[v, .int .i64 (newV t f).2]) ∧ LRow w' v (newV t f).1 ∧ Below w.heap.size w w' := by
  have K := Blk.new w #[.int .i64 t, .int .i64 f] 49
  have C := Lib.hid (check_any _ [(t, f)] _ (by simp) (one_row K))
  have B0 : Hid (Below w.heap.size w (w.alloc (.cells #[.int .i64 t, .int .i64 f] 49))) := (Below.refl _ _).alloc (Nat.le_refl _) _
  have HK := Lib.hid K
  clear K
  by_cases hp : okP [(t, f)]
  · have e : Hid (newV t f = ([(t, f)], 0)) := if_pos hp
    rw [checkV_ok hp] at C
    clear hp
    go_enter Try.func17, Try.ntmps17
    go_wp2_with fail
    refine C.out.mono ?_; rintro e1 w1 ⟨rfl, b1⟩
    have K1 := Lib.hid (HK.out.kept b1)
    have B1 := Lib.hid (below_next b1 B0.out)
    clear b1 HK
    go_wp2_with fail
    go_ret2
    exact ⟨_, by rw [e.out]; rfl, by rw [e.out]; exact one_row K1.out, B1.out⟩
  · have e : Hid (newV t f = ([], 50)) := if_neg hp
    rw [checkV_no hp] at C
    clear hp
    go_enter Try.func17, Try.ntmps17
    go_wp2_with fail
    refine C.out.mono ?_; rintro e1 w1 ⟨rfl, b1⟩
    have B1 := Lib.hid (below_next b1 B0.out)
    clear b1 HK
    go_wp2_with fail
    go_ret2
    exact ⟨_, by rw [e.out]; rfl, by rw [e.out]; exact nil_row _, B1.out⟩
theorem refNew_any (t f : Int) (w : World) : Calls Try.prog 18 #[.int .i64 t, .int .i64 f] w fun e w' => ∃ v, e = .returned (.tuple #[v, .int .i64 (newV t f).2]) ∧ LRow w' v (newV t f).1 ∧ Below w.heap.size w w' := by
  have K := Blk.new w #[.int .i64 t, .int .i64 f] 49
  have C := Lib.hid (refCheck_any _ [(t, f)] _ (by simp) (one_row K))
  have B0 : Hid (Below w.heap.size w (w.alloc (.cells #[.int .i64 t, .int .i64 f] 49))) := (Below.refl _ _).alloc (Nat.le_refl _) _
  have HK := Lib.hid K
  clear K
  by_cases hp : okP [(t, f)]
  · have e : Hid (newV t f = ([(t, f)], 0)) := if_pos hp
    rw [checkV_ok hp] at C
    clear hp
    go_enter Try.func18, Try.ntmps18
    go_wp2_with fail
    refine C.out.mono ?_; rintro e1 w1 ⟨rfl, b1⟩
    have K1 := Lib.hid (HK.out.kept b1)
    have B1 := Lib.hid (below_next b1 B0.out)
    clear b1 HK
    go_wp2_with fail
    go_ret2
    exact ⟨_, by rw [e.out]; rfl, by rw [e.out]; exact one_row K1.out, B1.out⟩
  · have e : Hid (newV t f = ([], 50)) := if_neg hp
    rw [checkV_no hp] at C
    clear hp
    go_enter Try.func18, Try.ntmps18
    go_wp2_with fail
    refine C.out.mono ?_; rintro e1 w1 ⟨rfl, b1⟩
    have B1 := Lib.hid (below_next b1 B0.out)
    clear b1 HK
    go_wp2_with fail
    go_ret2
    exact ⟨_, by rw [e.out]; rfl, by rw [e.out]; exact nil_row _, B1.out⟩
end Go.Proofs.Ytnbgipegfnpobaa
