/-
  Rows of levels in memory; profile.within, profile.Check, gangerref05.Check: at any levels.
-/
import Derived.Test.YtnbgipegfnpobaaProg
import Derived.Test.YtnbgipegfnpobaaMem
import Derived.Test.YtnbgipegfnpobaaPr5
import Derived.Maps.OwnSet
import Derived.Deep.RegionHeld3
import Derived.Lib.Hide
import Derived.Lib.SliceRun
namespace Go.Proofs.Ytnbgipegfnpobaa
open Go Go.RowKit Go.Lib
set_option linter.unusedVariables false

/-- The levels xs lie from off on in block b. -/
def LCells (w : World) (b off : Nat) (xs : List Lv) : Prop := b < w.heap.size ∧ ∀ j, j < xs.length →
  w.cell? ⟨b, off + j * 2, none⟩ = some (.int .i64 (lv xs j).1) ∧ w.cell? ⟨b, off + j * 2 + 1, none⟩ = some (.int .i64 (lv xs j).2)
theorem LCells.kept {w w' : World} {b off : Nat} {xs : List Lv} (h : LCells w b off xs) (hb : Below w.heap.size w w') : LCells w' b off xs :=
  ⟨Nat.lt_of_lt_of_le h.1 hb.size, fun j hj => ⟨cell_next hb (h.2 j hj).1, cell_next hb (h.2 j hj).2⟩⟩
theorem LCells.at {w wr : World} {b off : Nat} {xs : List Lv} (h : LCells w b off xs) (hB : Below w.heap.size w wr) {k : Nat} (hk : k < xs.length) :
    wr.cell? ⟨b, off + k * 2, none⟩ = some (.int .i64 (lv xs k).1) ∧ wr.cell? ⟨b, off + k * 2 + 1, none⟩ = some (.int .i64 (lv xs k).2) := (h.kept hB).2 k hk
/-- v is a slice of the levels xs. -/
def LRow (w : World) (v : Value) (xs : List Lv) : Prop :=
  (xs = [] ∧ ∃ a c, v = .slice a 0 c ∧ c ≤ maxLen) ∨ ∃ b off c, v = .slice (some ⟨b, off, none⟩) xs.length c ∧ 0 < xs.length ∧ xs.length ≤ c ∧ c ≤ maxLen ∧ LCells w b off xs
theorem LRow.kept {w w' : World} {v : Value} {xs : List Lv} (h : LRow w v xs) (hb : Below w.heap.size w w') : LRow w' v xs := by
  rcases h with h | ⟨b, off, c, h1, h2, h3, h4, h5⟩
  · exact .inl h
  · exact .inr ⟨b, off, c, h1, h2, h3, h4, h5.kept hb⟩
/-- The levels' numbers are ints. -/
def LWf (xs : List Lv) : Prop := ∀ x ∈ xs, (-9223372036854775808 ≤ x.1 ∧ x.1 ≤ 9223372036854775807) ∧ (-9223372036854775808 ≤ x.2 ∧ x.2 ≤ 9223372036854775807)
theorem LWf.at {xs : List Lv} (h : LWf xs) {i : Nat} (hi : i < xs.length) : (-9223372036854775808 ≤ (lv xs i).1 ∧ (lv xs i).1 ≤ 9223372036854775807) ∧ (-9223372036854775808 ≤ (lv xs i).2 ∧ (lv xs i).2 ≤ 9223372036854775807) := h _ (lv_mem hi)
theorem okP.wf {xs : List Lv} (h : okP xs) : LWf xs := fun x hx => by
  have := h.all x hx
  unfold okL MaxT at this; omega
theorem ret_int {a b : Int} (h : a = b) : Ending.returned (.int .i64 a) = Ending.returned (.int .i64 b) := by rw [h]

def inB (n low high : Int) : Bool := decide (low ≤ n ∧ n ≤ high)
theorem within_any (n low high : Int) (w : World) : Calls Try.prog 32 #[.int .i64 n, .int .i64 low, .int .i64 high] w fun e w' => e = .returned (.bool (inB n low high)) ∧ w' = w := by
  by_cases h1 : low ≤ n
  · have t1 : decide (n ≥ low) = true := decide_eq_true h1
    have t2 : decide (low ≤ n) = true := decide_eq_true h1
    have e : Hid (inB n low high = decide (n ≤ high)) := by unfold Hid inB; simp [h1]
    go_enter Try.func32, Try.ntmps32
    go_wp2_with fail
    go_ret
    exact ⟨by rw [e.out]; rfl, rfl⟩
  · have t1 : decide (n ≥ low) = false := decide_eq_false h1
    have t2 : decide (low ≤ n) = false := decide_eq_false h1
    have e : Hid (inB n low high = false) := by unfold Hid inB; simp [h1]
    go_enter Try.func32, Try.ntmps32
    go_wp2_with fail
    go_ret
    exact ⟨by rw [e.out]; rfl, rfl⟩
theorem inB_yes {n : Int} (h : 0 ≤ n ∧ n ≤ MaxT) : inB n 0 1099511627776 = true := decide_eq_true h
theorem inB_no {n : Int} (h : ¬ (0 ≤ n ∧ n ≤ MaxT)) : inB n 0 1099511627776 = false := decide_eq_false h

set_option maxRecDepth 100000 in
set_option maxHeartbeats 2000000 in
theorem check_row (b off c : Nat) (xs : List Lv) (w : World) (hn : xs.length ≤ 1048576) (h0 : 0 < xs.length) (hc : LCells w b off xs) :
    Calls Try.prog 14 #[.slice (some ⟨b, off, none⟩) xs.length c] w fun e w' => e = .returned (.int .i64 (checkV xs)) ∧ Below w.heap.size w w' := by
  have HC := Lib.hid hc
  have HBAD : Hid (∀ i, i < xs.length → ¬ okAt xs i → checkV xs = 50) := fun i hi h => checkV_no fun hh => h (hh.2 i hi)
  have HGOOD : Hid ((∀ i, i < xs.length → okAt xs i) → checkV xs = 0) := fun h => checkV_ok ⟨List.length_pos_iff.1 h0, h⟩
  have W : Hid (∀ (n : Int) (w : World), Calls Try.prog 32 #[.int .i64 n, .int .i64 0, .int .i64 1099511627776] w fun e w' => e = .returned (.bool (inB n 0 1099511627776)) ∧ w' = w) := fun n w => within_any n _ _ w
  have t0 : ((xs.length : Int) == 0) = false := by rw [beq_eq_false_iff_ne]; omega
  have t0b : (xs.length == 0) = false := by rw [beq_eq_false_iff_ne]; omega
  clear hc
  go_enter Try.func14, Try.ntmps14
  go_wp2_with fail
  go_loopw [10] (fun i wr => ∃ k : Nat, k ≤ xs.length ∧ i = .int .i64 k ∧ Hid (∀ j, j < k → okAt xs j) ∧ Below w.heap.size w wr)
    (fun i _ => xs.length - (RowKit.intOf i).toNat)
  case atStart => exact ⟨0, Nat.zero_le _, rfl, fun j hj => absurd hj (Nat.not_lt_zero _), Below.refl _ _⟩
  case round =>
    obtain ⟨k, hk, rfl, hok, hB⟩ := hrel
    by_cases hlt : k < xs.length
    · have hlt' : decide (k < xs.length) = true := decide_eq_true hlt
      have hlt2 : (k : Int) < xs.length := by omega
      obtain ⟨c0, c1⟩ := HC.out.at hB hlt
      have hbl : b < wr.heap.size := Nat.lt_of_lt_of_le HC.out.1 hB.size
      have HBk := Lib.hid (HBAD.out k hlt)
      have HB := Lib.hid hB
      have hz : w.heap.size ≤ wr.heap.size := hB.size
      have HP : Hid (0 < k → wr.cell? ⟨b, off + (k - 1) * 2, none⟩ = some (.int .i64 (lv xs (k - 1)).1) ∧ wr.cell? ⟨b, off + (k - 1) * 2 + 1, none⟩ = some (.int .i64 (lv xs (k - 1)).2)) := fun _ => HC.out.at hB (by omega)
      have HOK : Hid (okAt xs k ↔ okL (lv xs k) ∧ (0 < k → (lv xs (k - 1)).1 < (lv xs k).1 ∧ (lv xs (k - 1)).2 ≠ (lv xs k).2)) := Iff.rfl
      have HN : Hid (okAt xs k → ∀ j, j < k + 1 → okAt xs j) := fun h j hj => by
        rcases Nat.lt_or_ge j k with h1 | h1
        · exact hok.out j h1
        · rw [show j = k by omega]; exact h
      clear hB hok
      obtain ⟨x, hx⟩ : ∃ x, x = lv xs k := ⟨_, rfl⟩
      obtain ⟨y, hy⟩ : ∃ y, y = lv xs (k - 1) := ⟨_, rfl⟩
      rw [← hx] at c0 c1 HOK
      rw [← hy] at HP HOK
      clear hx hy
      obtain ⟨x1, x2⟩ := x
      obtain ⟨y1, y2⟩ := y
      dsimp only at c0 c1 HP HOK
      have fin50 : Hid (¬ (okL (x1, x2) ∧ (0 < k → y1 < x1 ∧ y2 ≠ x2)) → checkV xs = 50) := fun h => HBk.out fun hh => h (HOK.out.1 hh)
      have BA : Hid (Below w.heap.size w (wr.alloc (.cells #[.int .i64 x1, .int .i64 x2] 49))) := HB.out.alloc hz _
      by_cases o1 : 0 ≤ x1 ∧ x1 ≤ MaxT
      · have i1 := inB_yes o1
        have W1 := W.out x1
        rw [i1] at W1
        have HW1 := Lib.hid W1
        clear W1 i1
        by_cases o2 : 0 ≤ x2 ∧ x2 ≤ MaxT
        · have i2 := inB_yes o2
          have W2 := W.out x2
          rw [i2] at W2
          have HW2 := Lib.hid W2
          have Ho : Hid (okL (x1, x2)) := ⟨o1, o2⟩
          clear W2 i2 o1 o2
          by_cases hk0 : 0 < k
          · have u1 : decide (0 < (k : Int)) = true := decide_eq_true (by omega)
            have u2 : decide (0 < k) = true := decide_eq_true hk0
            obtain ⟨t, ht⟩ : ∃ t, t = k - 1 := ⟨_, rfl⟩
            have Et : Hid (IntKind.i64.wrap ((k : Int) - 1) = (t : Int)) := by unfold Hid; rw [IntKind.wrap_i64]; omega
            have tl : (t : Int) < xs.length := by omega
            obtain ⟨d0, d1⟩ := HP.out hk0
            rw [← ht] at d0 d1
            have d0' : (wr.alloc (.cells #[.int .i64 x1, .int .i64 x2] 49)).cell? ⟨b, off + t * 2, none⟩ = some (.int .i64 y1) := Lib.cell?_alloc_some _ d0
            have d1' : (wr.alloc (.cells #[.int .i64 x1, .int .i64 x2] 49)).cell? ⟨b, off + t * 2 + 1, none⟩ = some (.int .i64 y2) := Lib.cell?_alloc_some _ d1
            clear ht HP HBk d0 d1
            by_cases q1 : y1 < x1
            · have v1 : decide (x1 ≤ y1) = false := decide_eq_false (by omega)
              by_cases q2 : y2 = x2
              · have v2 : (x2 == y2) = true := by rw [q2]; simp
                have hr := Lib.hid (fin50.out fun h => (h.2 hk0).2 q2)
                clear fin50 HOK HN Ho q2
                go_wp2_with fail
                refine (HW1.out _).mono ?_; rintro e w9 ⟨rfl, hw⟩; subst hw
                go_wp2_with fail
                refine (HW2.out _).mono ?_; rintro e w9 ⟨rfl, hw⟩; subst hw
                go_wp2_with fail
                have et := Et.out
                go_region
                clear et
                go_wp2_with fail
                go_ret
                exact ⟨ret_int hr.out.symm, below_drewN BA.out _⟩
              · have v2 : (x2 == y2) = false := by rw [beq_eq_false_iff_ne]; exact fun e => q2 e.symm
                have hn := Lib.hid (HN.out (HOK.out.2 ⟨Ho.out, fun _ => ⟨q1, q2⟩⟩))
                clear fin50 HOK HN Ho q2
                go_wp2_with fail
                refine (HW1.out _).mono ?_; rintro e w9 ⟨rfl, hw⟩; subst hw
                go_wp2_with fail
                refine (HW2.out _).mono ?_; rintro e w9 ⟨rfl, hw⟩; subst hw
                go_wp2_with fail
                have et := Et.out
                go_region
                clear et
                go_wp2_with fail
                go_roundw
                case rel => exact ⟨k + 1, hlt, by go_num, hn, below_drewN BA.out _⟩
                case measure => simp [RowKit.intOf]; omega
            · have v1 : decide (x1 ≤ y1) = true := decide_eq_true (by omega)
              have hr := Lib.hid (fin50.out fun h => q1 (h.2 hk0).1)
              clear fin50 HOK HN Ho
              go_wp2_with fail
              refine (HW1.out _).mono ?_; rintro e w9 ⟨rfl, hw⟩; subst hw
              go_wp2_with fail
              refine (HW2.out _).mono ?_; rintro e w9 ⟨rfl, hw⟩; subst hw
              go_wp2_with fail
              have et := Et.out
              go_region
              clear et
              go_wp2_with fail
              go_ret
              exact ⟨ret_int hr.out.symm, below_drewN BA.out _⟩
          · have hn := Lib.hid (HN.out (HOK.out.2 ⟨Ho.out, fun h => absurd h hk0⟩))
            have u1 : decide (0 < (k : Int)) = false := decide_eq_false (by omega)
            have u2 : decide (0 < k) = false := decide_eq_false hk0
            have u3 : decide ((k : Int) > 0) = false := decide_eq_false (by omega)
            have HK0 := Lib.hid hk0
            clear fin50 HOK HN Ho HP HBk hk0
            go_wp2_with fail
            refine (HW1.out _).mono ?_; rintro e w9 ⟨rfl, hw⟩; subst hw
            go_wp2_with fail
            refine (HW2.out _).mono ?_; rintro e w9 ⟨rfl, hw⟩; subst hw
            go_wp2_with fail
            go_region
            go_wp2_with fail
            go_roundw
            case rel => exact ⟨k + 1, hlt, by go_num, hn, below_drewN BA.out _⟩
            case measure => simp [RowKit.intOf]; omega
        · have i2 := inB_no o2
          have W2 := W.out x2
          rw [i2] at W2
          have HW2 := Lib.hid W2
          have hr := Lib.hid (fin50.out fun h => o2 h.1.2)
          clear W2 i2 o1 o2 fin50 HOK HN HP HBk
          go_wp2_with fail
          refine (HW1.out _).mono ?_; rintro e w9 ⟨rfl, hw⟩; subst hw
          go_wp2_with fail
          refine (HW2.out _).mono ?_; rintro e w9 ⟨rfl, hw⟩; subst hw
          go_wp2_with fail
          go_ret
          exact ⟨ret_int hr.out.symm, BA.out⟩
      · have i1 := inB_no o1
        have W1 := W.out x1
        rw [i1] at W1
        have HW1 := Lib.hid W1
        have hr := Lib.hid (fin50.out fun h => o1 h.1.1)
        clear W1 i1 o1 fin50 HOK HN HP HBk
        go_wp2_with fail
        refine (HW1.out _).mono ?_; rintro e w9 ⟨rfl, hw⟩; subst hw
        go_wp2_with fail
        go_ret
        exact ⟨ret_int hr.out.symm, BA.out⟩
    · obtain rfl : k = xs.length := by omega
      have hlt' : decide (xs.length < xs.length) = false := decide_eq_false hlt
      have hr := Lib.hid (HGOOD.out hok.out)
      clear HBAD HGOOD hok
      go_wp2_with fail
      go_ret
      exact ⟨ret_int hr.out.symm, hB⟩
theorem check_nil (a : Option Addr) (c : Nat) (w : World) : Calls Try.prog 14 #[.slice a 0 c] w fun e w' => e = .returned (.int .i64 50) ∧ Below w.heap.size w w' := by
  go_enter Try.func14, Try.ntmps14
  go_wp2_with fail
  go_ret
  exact ⟨rfl, Below.refl _ _⟩
theorem not_ok_nil : ¬ okP [] := fun h => h.1 rfl
theorem check_any (v : Value) (xs : List Lv) (w : World) (hn : xs.length ≤ 1048576) (h : LRow w v xs) :
    Calls Try.prog 14 #[v] w fun e w' => e = .returned (.int .i64 (checkV xs)) ∧ Below w.heap.size w w' := by
  rcases h with ⟨rfl, a, c, rfl, _⟩ | ⟨b, off, c, rfl, h0, _, _, hc⟩
  · rw [checkV_no not_ok_nil]; exact check_nil a c w
  · exact check_row b off c xs w hn h0 hc
end Go.Proofs.Ytnbgipegfnpobaa
