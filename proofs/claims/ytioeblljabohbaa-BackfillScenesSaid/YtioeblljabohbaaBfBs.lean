/-
  slices.BinarySearchFunc at rows of Held, sorted by from, by to. Written by wip/gen/bsheld.py.
-/
import Derived.Test.YtioeblljabohbaaBfW
import Derived.Deep.RegionHeld3
import Derived.Deep.QuietTactic
import Derived.BigQuiet
namespace Go.Proofs.Ytioeblljabohbaa
open Go Go.RowKit Go.Lib Go.Sort
set_option linter.unusedVariables false

set_option maxRecDepth 100000 in
theorem bsH_nil (a : Option Addr) (c : Nat) (k : HeT) (f : Value) (w : World) :
    Calls Try.prog 66 #[.slice a 0 c, .agg #[.int .i64 (k.1 : Nat), .int .i64 (k.2.1 : Nat), .int .i64 (k.2.2.1 : Nat), .int .i64 (k.2.2.2 : Nat)], f] w
      fun e w' => ∃ f, e = .returned (.tuple #[.int .i64 0, .bool f]) ∧ Below w.heap.size w w' := by
  go_enter Try.func66, Try.ntmps66
  go_wp2_with fail
  refine wp_loop_rounds 1 ?_
  rw [rounds_succ]
  go_wp2_with fail
  go_quiet (fail)
  go_wp2_with fail
  go_ret2
  exact ⟨_, rfl, below_drewN ((Below.refl _ _).alloc (Nat.le_refl _) _) _⟩

/-- How element q compares with k. -/
def cFr (F : List HeT) (k : HeT) (q : Nat) : Int := Lib.compareInt ((F.getD q (0, 0, 0, 0)).2.2.1 : Int) (k.2.2.1 : Int)
theorem cFr_neg (F : List HeT) (k : HeT) (q : Nat) : cFr F k q < 0 ↔ (F.getD q (0, 0, 0, 0)).2.2.1 < k.2.2.1 := by unfold cFr; rw [cmpF_neg]; omega
theorem cloFr_below (x k : HeT) (w : World) :
    Calls Try.prog 50 #[.agg #[.int .i64 (x.1 : Nat), .int .i64 (x.2.1 : Nat), .int .i64 (x.2.2.1 : Nat), .int .i64 (x.2.2.2 : Nat)], .agg #[.int .i64 (k.1 : Nat), .int .i64 (k.2.1 : Nat), .int .i64 (k.2.2.1 : Nat), .int .i64 (k.2.2.2 : Nat)]] w fun e w' => e = .returned (.int .i64 (Lib.compareInt (x.2.2.1 : Int) (k.2.2.1 : Int))) ∧ Below w.heap.size w w' := by
  have C : Hid (∀ w, Calls Try.prog 64 #[.int .i64 (x.2.2.1 : Nat), .int .i64 (k.2.2.1 : Nat)] w fun e w' => e = .returned (.int .i64 (Lib.compareInt (x.2.2.1 : Int) (k.2.2.1 : Int))) ∧ w' = w) := fun w => Try.cmp_Compare_int (x.2.2.1 : Int) (k.2.2.1 : Int) w
  generalize Lib.compareInt (x.2.2.1 : Int) (k.2.2.1 : Int) = r at *
  obtain ⟨x1, x2, x3, x4⟩ := x
  obtain ⟨k1, k2, k3, k4⟩ := k
  dsimp only at *
  go_enter Try.func50, Try.ntmps50
  go_wp2_with fail
  refine (C.out _).mono ?_; rintro e w1 ⟨rfl, hw⟩; subst hw
  go_wp2_with fail
  go_ret
  exact ⟨rfl, ((Below.refl _ w).alloc (Nat.le_refl _) _).alloc (by simp) _⟩
set_option maxHeartbeats 4000000 in
set_option maxRecDepth 100000 in
theorem bsFr_row (b off c : Nat) (xs : List HeT) (k : HeT) (w : World) (hn : xs.length ≤ 1048576) (hc : HRow w (.slice (some ⟨b, off, none⟩) xs.length c) (xs.map heZ)) (hs : SortedF xs) :
    Calls Try.prog 66 #[.slice (some ⟨b, off, none⟩) xs.length c, .agg #[.int .i64 (k.1 : Nat), .int .i64 (k.2.1 : Nat), .int .i64 (k.2.2.1 : Nat), .int .i64 (k.2.2.2 : Nat)], .func (.func 50) #[] #[]] w
      fun e w' => ∃ p f, e = .returned (.tuple #[.int .i64 (p : Nat), .bool f]) ∧ (p ≤ xs.length ∧ (∀ q, q < p → cFr xs k q < 0) ∧ (∀ q, p ≤ q → q < xs.length → 0 ≤ cFr xs k q)) ∧ Below w.heap.size w w' := by
  have HC := Lib.hid hc
  have HM : Hid (∀ q r, q ≤ r → r < xs.length → cFr xs k r < 0 → cFr xs k q < 0) := fun q r h1 h2 h3 => by
    rw [cFr_neg] at h3 ⊢
    have h4 := sortedF_at hs h1 h2
    have e1 : xs.getD q (0, 0, 0, 0) = xs[q]'(by omega) := by rw [List.getD_eq_getElem?_getD, List.getElem?_eq_getElem (by omega)]; rfl
    have e2 : xs.getD r (0, 0, 0, 0) = xs[r] := by rw [List.getD_eq_getElem?_getD, List.getElem?_eq_getElem h2]; rfl
    rw [e2] at h3
    rw [e1]
    omega
  clear hc hs
  have HK : Hid (∀ j (h : j < xs.length) w, Calls Try.prog 50 #[.agg #[.int .i64 (xs[j].1 : Nat), .int .i64 (xs[j].2.1 : Nat), .int .i64 (xs[j].2.2.1 : Nat), .int .i64 (xs[j].2.2.2 : Nat)], .agg #[.int .i64 (k.1 : Nat), .int .i64 (k.2.1 : Nat), .int .i64 (k.2.2.1 : Nat), .int .i64 (k.2.2.2 : Nat)]] w fun e w' => e = .returned (.int .i64 (cFr xs k j)) ∧ Below w.heap.size w w') := fun j h w => by
    have e2 : xs.getD j (0, 0, 0, 0) = xs[j] := by rw [List.getD_eq_getElem?_getD, List.getElem?_eq_getElem h]; rfl
    unfold cFr
    rw [e2]
    exact cloFr_below xs[j] k w
  obtain ⟨cQ, hcQ⟩ : ∃ f : Nat → Int, f = cFr xs k := ⟨_, rfl⟩
  rw [← hcQ] at HM HK ⊢
  clear hcQ
  obtain ⟨k1, k2, k3, k4⟩ := k
  dsimp only at HK ⊢
  go_enter Try.func66, Try.ntmps66
  go_wp2_with fail
  go_loopw [9, 10] (fun i j wr => ∃ I J : Nat, i = .int .i64 I ∧ j = .int .i64 J ∧ I ≤ J ∧ J ≤ xs.length ∧ Hid ((∀ q, q < I → cQ q < 0) ∧ (∀ q, J ≤ q → q < xs.length → 0 ≤ cQ q)) ∧
      Blk wr w.heap.size #[.int .i64 (k1 : Nat), .int .i64 (k2 : Nat), .int .i64 (k3 : Nat), .int .i64 (k4 : Nat)] 57 ∧ Below w.heap.size w wr) (fun i j _ => (RowKit.intOf j).toNat - (RowKit.intOf i).toNat)
  case atStart => exact ⟨0, xs.length, rfl, rfl, Nat.zero_le _, Nat.le_refl _, ⟨fun q h => by omega, fun q h h' => by omega⟩, Blk.new _ _ _, (Below.refl _ _).alloc (Nat.le_refl _) _⟩
  case round =>
    obtain ⟨I, J, rfl, rfl, hIJ, hJ, hq0, hb0, hB⟩ := hrel
    by_cases hlt : I < J
    · have hlt' : decide (I < J) = true := decide_eq_true hlt
      obtain ⟨h, hh⟩ : ∃ h, h = (I + J) / 2 := ⟨_, rfl⟩
      have hhI : I ≤ h := by omega
      have hhJ : h < J := by omega
      have hhn : h < xs.length := by omega
      have eh : ((I : Int) + (J : Int)) / 2 = (h : Int) := by omega
      obtain ⟨c0, c1, c2, c3⟩ := he_cells HC.out hhn hB
      have d0 := hb0.cell 0; simp at d0
      have d1 := hb0.cell 1; simp at d1
      have d2 := hb0.cell 2; simp at d2
      have d3 := hb0.cell 3; simp at d3
      have HKh := Lib.hid (HK.out h hhn)
      obtain ⟨r, hr⟩ : ∃ r, r = cQ h := ⟨_, rfl⟩
      rw [← hr] at HKh
      have HR := Lib.hid hr
      obtain ⟨x, hx⟩ : ∃ x, x = xs[h] := ⟨_, rfl⟩
      rw [← hx] at c0 c1 c2 c3 HKh
      obtain ⟨x1, x2, x3, x4⟩ := x
      dsimp only at c0 c1 c2 c3 HKh
      have hbs := hb0
      have HB0 := Lib.hid hbs
      have hw0 : w.heap.size < wr.heap.size := hb0.lt
      clear hr hx hh hb0 hbs
      cases hq : decide (r < 0)
      all_goals
        go_wp2_with fail
        go_region_held3 (fun w' => w'.cell? ⟨b, off + h * 4, none⟩ = some (.int .i64 (x1 : Nat)) ∧ w'.cell? ⟨b, off + h * 4 + 1, none⟩ = some (.int .i64 (x2 : Nat)) ∧ w'.cell? ⟨b, off + h * 4 + 2, none⟩ = some (.int .i64 (x3 : Nat)) ∧ w'.cell? ⟨b, off + h * 4 + 3, none⟩ = some (.int .i64 (x4 : Nat)) ∧ w'.cell? ⟨w.heap.size, 0, none⟩ = some (.int .i64 (k1 : Nat)) ∧ w'.cell? ⟨w.heap.size, 1, none⟩ = some (.int .i64 (k2 : Nat)) ∧ w'.cell? ⟨w.heap.size, 2, none⟩ = some (.int .i64 (k3 : Nat)) ∧ w'.cell? ⟨w.heap.size, 3, none⟩ = some (.int .i64 (k4 : Nat)) ∧ Below wr.heap.size wr w')
          (first
            | exact ⟨c0, c1, c2, c3, d0, d1, d2, d3, (Below.refl _ wr).drew⟩
            | (rcases ‹_ ∧ _ ∧ _ ∧ _ ∧ _ ∧ _ ∧ _ ∧ _ ∧ Below _ _ _› with ⟨g0, g1, g2, g3, g4, g5, g6, g7, g8⟩; exact ⟨cell_next (by assumption) g0, cell_next (by assumption) g1, cell_next (by assumption) g2, cell_next (by assumption) g3, cell_next (by assumption) g4, cell_next (by assumption) g5, cell_next (by assumption) g6, cell_next (by assumption) g7, below_next (by assumption) g8⟩))
          (first
            | (go_at_call 50; ((with_reducible refine (HKh.out _).mono ?_); rintro e w2 ⟨rfl, b2⟩)))
        rcases ‹_ ∧ _ ∧ _ ∧ _ ∧ _ ∧ _ ∧ _ ∧ _ ∧ Below _ _ _› with ⟨_, _, _, _, _, _, _, _, g6⟩
      · go_wp2_with fail
        go_roundw
        case rel =>
          refine ⟨I, h, by go_num, by go_num, hhI, by omega, ⟨hq0.out.1, fun q h1 h2 => ?_⟩, HB0.out.kept g6, below_next g6 hB⟩
          rcases Int.lt_or_le (cQ q) 0 with h3 | h3
          · have := HM.out h q h1 h2 h3
            rw [← HR.out] at this
            have := of_decide_eq_false hq
            omega
          · exact h3
        case measure => simp [RowKit.intOf]; omega
      · go_wp2_with fail
        go_roundw
        case rel =>
          refine ⟨h + 1, J, by go_num, by go_num, by omega, hJ, ⟨fun q h1 => ?_, hq0.out.2⟩, HB0.out.kept g6, below_next g6 hB⟩
          have h0 := of_decide_eq_true hq
          rw [HR.out] at h0
          exact HM.out q h (by omega) hhn h0
        case measure => simp [RowKit.intOf]; omega
    · obtain rfl : I = J := by omega
      have hlt' : decide (I < I) = false := decide_eq_false (by omega)
      by_cases hIn : I < xs.length
      · have hIn' : decide (I < xs.length) = true := decide_eq_true hIn
        obtain ⟨c0, c1, c2, c3⟩ := he_cells HC.out hIn hB
        have d0 := hb0.cell 0; simp at d0
        have d1 := hb0.cell 1; simp at d1
        have d2 := hb0.cell 2; simp at d2
        have d3 := hb0.cell 3; simp at d3
        have HKh := Lib.hid (HK.out I hIn)
        obtain ⟨r, hr⟩ : ∃ r, r = cQ I := ⟨_, rfl⟩
        rw [← hr] at HKh
        obtain ⟨x, hx⟩ : ∃ x, x = xs[I] := ⟨_, rfl⟩
        rw [← hx] at c0 c1 c2 c3 HKh
        obtain ⟨x1, x2, x3, x4⟩ := x
        dsimp only at c0 c1 c2 c3 HKh
        have HQ := hq0
        have hw0 : w.heap.size < wr.heap.size := hb0.lt
        clear hb0 hq0 hr hx
        cases hf : (r == 0)
        all_goals
          go_wp2_with fail
          go_region_held3 (fun w' => w'.cell? ⟨b, off + I * 4, none⟩ = some (.int .i64 (x1 : Nat)) ∧ w'.cell? ⟨b, off + I * 4 + 1, none⟩ = some (.int .i64 (x2 : Nat)) ∧ w'.cell? ⟨b, off + I * 4 + 2, none⟩ = some (.int .i64 (x3 : Nat)) ∧ w'.cell? ⟨b, off + I * 4 + 3, none⟩ = some (.int .i64 (x4 : Nat)) ∧ w'.cell? ⟨w.heap.size, 0, none⟩ = some (.int .i64 (k1 : Nat)) ∧ w'.cell? ⟨w.heap.size, 1, none⟩ = some (.int .i64 (k2 : Nat)) ∧ w'.cell? ⟨w.heap.size, 2, none⟩ = some (.int .i64 (k3 : Nat)) ∧ w'.cell? ⟨w.heap.size, 3, none⟩ = some (.int .i64 (k4 : Nat)) ∧ Below wr.heap.size wr w')
            (first
              | exact ⟨c0, c1, c2, c3, d0, d1, d2, d3, (Below.refl _ wr).drew⟩
              | (rcases ‹_ ∧ _ ∧ _ ∧ _ ∧ _ ∧ _ ∧ _ ∧ _ ∧ Below _ _ _› with ⟨g0, g1, g2, g3, g4, g5, g6, g7, g8⟩; exact ⟨cell_next (by assumption) g0, cell_next (by assumption) g1, cell_next (by assumption) g2, cell_next (by assumption) g3, cell_next (by assumption) g4, cell_next (by assumption) g5, cell_next (by assumption) g6, cell_next (by assumption) g7, below_next (by assumption) g8⟩))
            (first
              | (go_at_call 50; ((with_reducible refine (HKh.out _).mono ?_); rintro e w2 ⟨rfl, b2⟩)))
          rcases ‹_ ∧ _ ∧ _ ∧ _ ∧ _ ∧ _ ∧ _ ∧ _ ∧ Below _ _ _› with ⟨_, _, _, _, _, _, _, _, g6⟩
          go_wp2_with fail
          go_ret2
          exact ⟨I, _, rfl, ⟨hJ, HQ.out.1, HQ.out.2⟩, below_next g6 hB⟩
      · obtain rfl : I = xs.length := by omega
        have hIn' : decide (xs.length < xs.length) = false := decide_eq_false (by omega)
        go_wp2_with fail
        go_quiet (fail)
        go_wp2_with fail
        go_ret2
        exact ⟨xs.length, _, rfl, ⟨Nat.le_refl _, hq0.out.1, hq0.out.2⟩, below_drewN hB _⟩
theorem bsFr_any (v : Value) (xs : List HeT) (k : HeT) (w : World) (hn : xs.length ≤ 1048576) (h : HRow w v (xs.map heZ)) (hs : SortedF xs) :
    Calls Try.prog 66 #[v, .agg #[.int .i64 (k.1 : Nat), .int .i64 (k.2.1 : Nat), .int .i64 (k.2.2.1 : Nat), .int .i64 (k.2.2.2 : Nat)], .func (.func 50) #[] #[]] w
      fun e w' => ∃ p f, e = .returned (.tuple #[.int .i64 (p : Nat), .bool f]) ∧ p ≤ xs.length ∧ SortedF (xs.take p ++ k :: xs.drop p) ∧ Below w.heap.size w w' := by
  have key : ∀ p, p ≤ xs.length → (∀ q, q < p → cFr xs k q < 0) → (∀ q, p ≤ q → q < xs.length → 0 ≤ cFr xs k q) → SortedF (xs.take p ++ k :: xs.drop p) := fun p hp h1 h2 => by
    have e : ∀ q (h : q < xs.length), xs.getD q (0, 0, 0, 0) = xs[q] := fun q h => by rw [List.getD_eq_getElem?_getD, List.getElem?_eq_getElem h]; rfl
    have g1 : ∀ x ∈ xs.take p, x.2.2.1 ≤ k.2.2.1 := fun x hx => by
      obtain ⟨j, hj, rfl⟩ := List.mem_iff_getElem.1 hx
      rw [List.length_take] at hj
      have := (cFr_neg xs k j).1 (h1 j (by omega))
      rw [e j (by omega)] at this
      rw [List.getElem_take]
      omega
    have g2 : ∀ x ∈ xs.drop p, k.2.2.1 ≤ x.2.2.1 := fun x hx => by
      obtain ⟨j, hj, rfl⟩ := List.mem_iff_getElem.1 hx
      rw [List.length_drop] at hj
      have h3 := h2 (p + j) (by omega) (by omega)
      have := mt (cFr_neg xs k (p + j)).2 (by omega)
      rw [e (p + j) (by omega)] at this
      rw [List.getElem_drop]
      omega
    unfold SortedF at hs ⊢
    have hs' := hs
    rw [← List.take_append_drop p xs, List.pairwise_append] at hs'
    rw [List.pairwise_append]
    refine ⟨hs'.1, List.pairwise_cons.2 ⟨g2, hs'.2.1⟩, fun x hx y hy => ?_⟩
    rcases List.mem_cons.1 hy with rfl | h3
    · exact g1 x hx
    · exact hs'.2.2 x hx y h3
  have h0 := h
  rcases h with ⟨h0', a, c, rfl⟩ | ⟨bb, off, c, rfl, hc⟩
  · have : xs = [] := by simpa using h0'
    subst this
    refine (bsH_nil a c k _ w).mono ?_
    rintro e w' ⟨f, rfl, hb⟩
    exact ⟨0, f, rfl, Nat.le_refl _, key 0 (Nat.le_refl _) (fun q h => by omega) (fun q _ h => by simp at h), hb⟩
  · rw [List.length_map] at h0 ⊢
    refine (bsFr_row bb off c xs k w hn h0 hs).mono ?_
    rintro e w' ⟨p, f, rfl, ⟨h1, h2, h3⟩, hb⟩
    exact ⟨p, f, rfl, h1, key p h1 h2 h3, hb⟩

/-- How element q compares with k. -/
def cTo (F : List HeT) (k : HeT) (q : Nat) : Int := Lib.compareInt ((F.getD q (0, 0, 0, 0)).2.2.2 : Int) (k.2.2.2 : Int)
theorem cTo_neg (F : List HeT) (k : HeT) (q : Nat) : cTo F k q < 0 ↔ (F.getD q (0, 0, 0, 0)).2.2.2 < k.2.2.2 := by unfold cTo; rw [cmpF_neg]; omega
theorem cloTo_below (x k : HeT) (w : World) :
    Calls Try.prog 51 #[.agg #[.int .i64 (x.1 : Nat), .int .i64 (x.2.1 : Nat), .int .i64 (x.2.2.1 : Nat), .int .i64 (x.2.2.2 : Nat)], .agg #[.int .i64 (k.1 : Nat), .int .i64 (k.2.1 : Nat), .int .i64 (k.2.2.1 : Nat), .int .i64 (k.2.2.2 : Nat)]] w fun e w' => e = .returned (.int .i64 (Lib.compareInt (x.2.2.2 : Int) (k.2.2.2 : Int))) ∧ Below w.heap.size w w' := by
  have C : Hid (∀ w, Calls Try.prog 64 #[.int .i64 (x.2.2.2 : Nat), .int .i64 (k.2.2.2 : Nat)] w fun e w' => e = .returned (.int .i64 (Lib.compareInt (x.2.2.2 : Int) (k.2.2.2 : Int))) ∧ w' = w) := fun w => Try.cmp_Compare_int (x.2.2.2 : Int) (k.2.2.2 : Int) w
  generalize Lib.compareInt (x.2.2.2 : Int) (k.2.2.2 : Int) = r at *
  obtain ⟨x1, x2, x3, x4⟩ := x
  obtain ⟨k1, k2, k3, k4⟩ := k
  dsimp only at *
  go_enter Try.func51, Try.ntmps51
  go_wp2_with fail
  refine (C.out _).mono ?_; rintro e w1 ⟨rfl, hw⟩; subst hw
  go_wp2_with fail
  go_ret
  exact ⟨rfl, ((Below.refl _ w).alloc (Nat.le_refl _) _).alloc (by simp) _⟩
set_option maxHeartbeats 4000000 in
set_option maxRecDepth 100000 in
theorem bsTo_row (b off c : Nat) (xs : List HeT) (k : HeT) (w : World) (hn : xs.length ≤ 1048576) (hc : HRow w (.slice (some ⟨b, off, none⟩) xs.length c) (xs.map heZ)) (hs : SortedT xs) :
    Calls Try.prog 66 #[.slice (some ⟨b, off, none⟩) xs.length c, .agg #[.int .i64 (k.1 : Nat), .int .i64 (k.2.1 : Nat), .int .i64 (k.2.2.1 : Nat), .int .i64 (k.2.2.2 : Nat)], .func (.func 51) #[] #[]] w
      fun e w' => ∃ p f, e = .returned (.tuple #[.int .i64 (p : Nat), .bool f]) ∧ (p ≤ xs.length ∧ (∀ q, q < p → cTo xs k q < 0) ∧ (∀ q, p ≤ q → q < xs.length → 0 ≤ cTo xs k q)) ∧ Below w.heap.size w w' := by
  have HC := Lib.hid hc
  have HM : Hid (∀ q r, q ≤ r → r < xs.length → cTo xs k r < 0 → cTo xs k q < 0) := fun q r h1 h2 h3 => by
    rw [cTo_neg] at h3 ⊢
    have h4 := sortedT_at hs h1 h2
    have e1 : xs.getD q (0, 0, 0, 0) = xs[q]'(by omega) := by rw [List.getD_eq_getElem?_getD, List.getElem?_eq_getElem (by omega)]; rfl
    have e2 : xs.getD r (0, 0, 0, 0) = xs[r] := by rw [List.getD_eq_getElem?_getD, List.getElem?_eq_getElem h2]; rfl
    rw [e2] at h3
    rw [e1]
    omega
  clear hc hs
  have HK : Hid (∀ j (h : j < xs.length) w, Calls Try.prog 51 #[.agg #[.int .i64 (xs[j].1 : Nat), .int .i64 (xs[j].2.1 : Nat), .int .i64 (xs[j].2.2.1 : Nat), .int .i64 (xs[j].2.2.2 : Nat)], .agg #[.int .i64 (k.1 : Nat), .int .i64 (k.2.1 : Nat), .int .i64 (k.2.2.1 : Nat), .int .i64 (k.2.2.2 : Nat)]] w fun e w' => e = .returned (.int .i64 (cTo xs k j)) ∧ Below w.heap.size w w') := fun j h w => by
    have e2 : xs.getD j (0, 0, 0, 0) = xs[j] := by rw [List.getD_eq_getElem?_getD, List.getElem?_eq_getElem h]; rfl
    unfold cTo
    rw [e2]
    exact cloTo_below xs[j] k w
  obtain ⟨cQ, hcQ⟩ : ∃ f : Nat → Int, f = cTo xs k := ⟨_, rfl⟩
  rw [← hcQ] at HM HK ⊢
  clear hcQ
  obtain ⟨k1, k2, k3, k4⟩ := k
  dsimp only at HK ⊢
  go_enter Try.func66, Try.ntmps66
  go_wp2_with fail
  go_loopw [9, 10] (fun i j wr => ∃ I J : Nat, i = .int .i64 I ∧ j = .int .i64 J ∧ I ≤ J ∧ J ≤ xs.length ∧ Hid ((∀ q, q < I → cQ q < 0) ∧ (∀ q, J ≤ q → q < xs.length → 0 ≤ cQ q)) ∧
      Blk wr w.heap.size #[.int .i64 (k1 : Nat), .int .i64 (k2 : Nat), .int .i64 (k3 : Nat), .int .i64 (k4 : Nat)] 57 ∧ Below w.heap.size w wr) (fun i j _ => (RowKit.intOf j).toNat - (RowKit.intOf i).toNat)
  case atStart => exact ⟨0, xs.length, rfl, rfl, Nat.zero_le _, Nat.le_refl _, ⟨fun q h => by omega, fun q h h' => by omega⟩, Blk.new _ _ _, (Below.refl _ _).alloc (Nat.le_refl _) _⟩
  case round =>
    obtain ⟨I, J, rfl, rfl, hIJ, hJ, hq0, hb0, hB⟩ := hrel
    by_cases hlt : I < J
    · have hlt' : decide (I < J) = true := decide_eq_true hlt
      obtain ⟨h, hh⟩ : ∃ h, h = (I + J) / 2 := ⟨_, rfl⟩
      have hhI : I ≤ h := by omega
      have hhJ : h < J := by omega
      have hhn : h < xs.length := by omega
      have eh : ((I : Int) + (J : Int)) / 2 = (h : Int) := by omega
      obtain ⟨c0, c1, c2, c3⟩ := he_cells HC.out hhn hB
      have d0 := hb0.cell 0; simp at d0
      have d1 := hb0.cell 1; simp at d1
      have d2 := hb0.cell 2; simp at d2
      have d3 := hb0.cell 3; simp at d3
      have HKh := Lib.hid (HK.out h hhn)
      obtain ⟨r, hr⟩ : ∃ r, r = cQ h := ⟨_, rfl⟩
      rw [← hr] at HKh
      have HR := Lib.hid hr
      obtain ⟨x, hx⟩ : ∃ x, x = xs[h] := ⟨_, rfl⟩
      rw [← hx] at c0 c1 c2 c3 HKh
      obtain ⟨x1, x2, x3, x4⟩ := x
      dsimp only at c0 c1 c2 c3 HKh
      have hbs := hb0
      have HB0 := Lib.hid hbs
      have hw0 : w.heap.size < wr.heap.size := hb0.lt
      clear hr hx hh hb0 hbs
      cases hq : decide (r < 0)
      all_goals
        go_wp2_with fail
        go_region_held3 (fun w' => w'.cell? ⟨b, off + h * 4, none⟩ = some (.int .i64 (x1 : Nat)) ∧ w'.cell? ⟨b, off + h * 4 + 1, none⟩ = some (.int .i64 (x2 : Nat)) ∧ w'.cell? ⟨b, off + h * 4 + 2, none⟩ = some (.int .i64 (x3 : Nat)) ∧ w'.cell? ⟨b, off + h * 4 + 3, none⟩ = some (.int .i64 (x4 : Nat)) ∧ w'.cell? ⟨w.heap.size, 0, none⟩ = some (.int .i64 (k1 : Nat)) ∧ w'.cell? ⟨w.heap.size, 1, none⟩ = some (.int .i64 (k2 : Nat)) ∧ w'.cell? ⟨w.heap.size, 2, none⟩ = some (.int .i64 (k3 : Nat)) ∧ w'.cell? ⟨w.heap.size, 3, none⟩ = some (.int .i64 (k4 : Nat)) ∧ Below wr.heap.size wr w')
          (first
            | exact ⟨c0, c1, c2, c3, d0, d1, d2, d3, (Below.refl _ wr).drew⟩
            | (rcases ‹_ ∧ _ ∧ _ ∧ _ ∧ _ ∧ _ ∧ _ ∧ _ ∧ Below _ _ _› with ⟨g0, g1, g2, g3, g4, g5, g6, g7, g8⟩; exact ⟨cell_next (by assumption) g0, cell_next (by assumption) g1, cell_next (by assumption) g2, cell_next (by assumption) g3, cell_next (by assumption) g4, cell_next (by assumption) g5, cell_next (by assumption) g6, cell_next (by assumption) g7, below_next (by assumption) g8⟩))
          (first
            | (go_at_call 51; ((with_reducible refine (HKh.out _).mono ?_); rintro e w2 ⟨rfl, b2⟩)))
        rcases ‹_ ∧ _ ∧ _ ∧ _ ∧ _ ∧ _ ∧ _ ∧ _ ∧ Below _ _ _› with ⟨_, _, _, _, _, _, _, _, g6⟩
      · go_wp2_with fail
        go_roundw
        case rel =>
          refine ⟨I, h, by go_num, by go_num, hhI, by omega, ⟨hq0.out.1, fun q h1 h2 => ?_⟩, HB0.out.kept g6, below_next g6 hB⟩
          rcases Int.lt_or_le (cQ q) 0 with h3 | h3
          · have := HM.out h q h1 h2 h3
            rw [← HR.out] at this
            have := of_decide_eq_false hq
            omega
          · exact h3
        case measure => simp [RowKit.intOf]; omega
      · go_wp2_with fail
        go_roundw
        case rel =>
          refine ⟨h + 1, J, by go_num, by go_num, by omega, hJ, ⟨fun q h1 => ?_, hq0.out.2⟩, HB0.out.kept g6, below_next g6 hB⟩
          have h0 := of_decide_eq_true hq
          rw [HR.out] at h0
          exact HM.out q h (by omega) hhn h0
        case measure => simp [RowKit.intOf]; omega
    · obtain rfl : I = J := by omega
      have hlt' : decide (I < I) = false := decide_eq_false (by omega)
      by_cases hIn : I < xs.length
      · have hIn' : decide (I < xs.length) = true := decide_eq_true hIn
        obtain ⟨c0, c1, c2, c3⟩ := he_cells HC.out hIn hB
        have d0 := hb0.cell 0; simp at d0
        have d1 := hb0.cell 1; simp at d1
        have d2 := hb0.cell 2; simp at d2
        have d3 := hb0.cell 3; simp at d3
        have HKh := Lib.hid (HK.out I hIn)
        obtain ⟨r, hr⟩ : ∃ r, r = cQ I := ⟨_, rfl⟩
        rw [← hr] at HKh
        obtain ⟨x, hx⟩ : ∃ x, x = xs[I] := ⟨_, rfl⟩
        rw [← hx] at c0 c1 c2 c3 HKh
        obtain ⟨x1, x2, x3, x4⟩ := x
        dsimp only at c0 c1 c2 c3 HKh
        have HQ := hq0
        have hw0 : w.heap.size < wr.heap.size := hb0.lt
        clear hb0 hq0 hr hx
        cases hf : (r == 0)
        all_goals
          go_wp2_with fail
          go_region_held3 (fun w' => w'.cell? ⟨b, off + I * 4, none⟩ = some (.int .i64 (x1 : Nat)) ∧ w'.cell? ⟨b, off + I * 4 + 1, none⟩ = some (.int .i64 (x2 : Nat)) ∧ w'.cell? ⟨b, off + I * 4 + 2, none⟩ = some (.int .i64 (x3 : Nat)) ∧ w'.cell? ⟨b, off + I * 4 + 3, none⟩ = some (.int .i64 (x4 : Nat)) ∧ w'.cell? ⟨w.heap.size, 0, none⟩ = some (.int .i64 (k1 : Nat)) ∧ w'.cell? ⟨w.heap.size, 1, none⟩ = some (.int .i64 (k2 : Nat)) ∧ w'.cell? ⟨w.heap.size, 2, none⟩ = some (.int .i64 (k3 : Nat)) ∧ w'.cell? ⟨w.heap.size, 3, none⟩ = some (.int .i64 (k4 : Nat)) ∧ Below wr.heap.size wr w')
            (first
              | exact ⟨c0, c1, c2, c3, d0, d1, d2, d3, (Below.refl _ wr).drew⟩
              | (rcases ‹_ ∧ _ ∧ _ ∧ _ ∧ _ ∧ _ ∧ _ ∧ _ ∧ Below _ _ _› with ⟨g0, g1, g2, g3, g4, g5, g6, g7, g8⟩; exact ⟨cell_next (by assumption) g0, cell_next (by assumption) g1, cell_next (by assumption) g2, cell_next (by assumption) g3, cell_next (by assumption) g4, cell_next (by assumption) g5, cell_next (by assumption) g6, cell_next (by assumption) g7, below_next (by assumption) g8⟩))
            (first
              | (go_at_call 51; ((with_reducible refine (HKh.out _).mono ?_); rintro e w2 ⟨rfl, b2⟩)))
          rcases ‹_ ∧ _ ∧ _ ∧ _ ∧ _ ∧ _ ∧ _ ∧ _ ∧ Below _ _ _› with ⟨_, _, _, _, _, _, _, _, g6⟩
          go_wp2_with fail
          go_ret2
          exact ⟨I, _, rfl, ⟨hJ, HQ.out.1, HQ.out.2⟩, below_next g6 hB⟩
      · obtain rfl : I = xs.length := by omega
        have hIn' : decide (xs.length < xs.length) = false := decide_eq_false (by omega)
        go_wp2_with fail
        go_quiet (fail)
        go_wp2_with fail
        go_ret2
        exact ⟨xs.length, _, rfl, ⟨Nat.le_refl _, hq0.out.1, hq0.out.2⟩, below_drewN hB _⟩
theorem bsTo_any (v : Value) (xs : List HeT) (k : HeT) (w : World) (hn : xs.length ≤ 1048576) (h : HRow w v (xs.map heZ)) (hs : SortedT xs) :
    Calls Try.prog 66 #[v, .agg #[.int .i64 (k.1 : Nat), .int .i64 (k.2.1 : Nat), .int .i64 (k.2.2.1 : Nat), .int .i64 (k.2.2.2 : Nat)], .func (.func 51) #[] #[]] w
      fun e w' => ∃ p f, e = .returned (.tuple #[.int .i64 (p : Nat), .bool f]) ∧ p ≤ xs.length ∧ SortedT (xs.take p ++ k :: xs.drop p) ∧ Below w.heap.size w w' := by
  have key : ∀ p, p ≤ xs.length → (∀ q, q < p → cTo xs k q < 0) → (∀ q, p ≤ q → q < xs.length → 0 ≤ cTo xs k q) → SortedT (xs.take p ++ k :: xs.drop p) := fun p hp h1 h2 => by
    have e : ∀ q (h : q < xs.length), xs.getD q (0, 0, 0, 0) = xs[q] := fun q h => by rw [List.getD_eq_getElem?_getD, List.getElem?_eq_getElem h]; rfl
    have g1 : ∀ x ∈ xs.take p, x.2.2.2 ≤ k.2.2.2 := fun x hx => by
      obtain ⟨j, hj, rfl⟩ := List.mem_iff_getElem.1 hx
      rw [List.length_take] at hj
      have := (cTo_neg xs k j).1 (h1 j (by omega))
      rw [e j (by omega)] at this
      rw [List.getElem_take]
      omega
    have g2 : ∀ x ∈ xs.drop p, k.2.2.2 ≤ x.2.2.2 := fun x hx => by
      obtain ⟨j, hj, rfl⟩ := List.mem_iff_getElem.1 hx
      rw [List.length_drop] at hj
      have h3 := h2 (p + j) (by omega) (by omega)
      have := mt (cTo_neg xs k (p + j)).2 (by omega)
      rw [e (p + j) (by omega)] at this
      rw [List.getElem_drop]
      omega
    unfold SortedT at hs ⊢
    have hs' := hs
    rw [← List.take_append_drop p xs, List.pairwise_append] at hs'
    rw [List.pairwise_append]
    refine ⟨hs'.1, List.pairwise_cons.2 ⟨g2, hs'.2.1⟩, fun x hx y hy => ?_⟩
    rcases List.mem_cons.1 hy with rfl | h3
    · exact g1 x hx
    · exact hs'.2.2 x hx y h3
  have h0 := h
  rcases h with ⟨h0', a, c, rfl⟩ | ⟨bb, off, c, rfl, hc⟩
  · have : xs = [] := by simpa using h0'
    subst this
    refine (bsH_nil a c k _ w).mono ?_
    rintro e w' ⟨f, rfl, hb⟩
    exact ⟨0, f, rfl, Nat.le_refl _, key 0 (Nat.le_refl _) (fun q h => by omega) (fun q _ h => by simp at h), hb⟩
  · rw [List.length_map] at h0 ⊢
    refine (bsTo_row bb off c xs k w hn h0 hs).mono ?_
    rintro e w' ⟨p, f, rfl, ⟨h1, h2, h3⟩, hb⟩
    exact ⟨p, f, rfl, h1, key p h1 h2 h3, hb⟩
end Go.Proofs.Ytioeblljabohbaa
