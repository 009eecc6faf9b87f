/-
  slices.BinarySearchFunc at keys, with rank.compare: where the key's place is.
-/
import Derived.Test.YtpgiladbljnpcaaKeyE
namespace Go.Proofs.Ytpgiladbljnpcaa
open Go.ChangeShapes Go.WideShapes Go.ChangeAt Go.RowKit Go.Lib Go.Sort Go.Maps
set_option linter.unusedVariables false

set_option maxHeartbeats 4000000 in
set_option maxRecDepth 100000 in
theorem bs_row (b off c : Nat) (xs : List Key) (k : Key) (w : World) (hn : xs.length ≤ 1048576) (hc : KCells w b off xs)
    (hmono : ∀ q r, q ≤ r → r < xs.length → cmpK (at_ xs r) k < 0 → cmpK (at_ xs q) k < 0) :
    Calls Try.prog 40 #[.slice (some ⟨b, off, none⟩) xs.length c, keyV k, .func (.func 32) #[] #[]] w
      fun e w' => ∃ p f, e = .returned (.tuple #[.int .i64 (p : Nat), .bool f]) ∧ (p ≤ xs.length ∧ (∀ q, q < p → cmpK (at_ xs q) k < 0) ∧ (∀ q, p ≤ q → q < xs.length → 0 ≤ cmpK (at_ xs q) k)) ∧ Below w.heap.size w w' := by
  have HC := Lib.hid hc
  have HM := Lib.hid hmono
  clear hc hmono
  obtain ⟨kp, kt, ki⟩ := k
  obtain ⟨K, hK⟩ : ∃ K : Key, K = (kp, kt, ki) := ⟨_, rfl⟩
  have HK : Hid (∀ j w, Calls Try.prog 32 #[keyV (at_ xs j), .agg #[.int .i64 kp, .int .i64 kt, .int .u32 ki]] w fun e w' => e = .returned (.int .i64 (cmpK (at_ xs j) K)) ∧ Grew w w') := fun j w => by
    rw [hK]; exact compare_any _ _ w
  rw [← hK] at HM ⊢
  have eV : keyV K = .agg #[.int .i64 kp, .int .i64 kt, .int .u32 ki] := by rw [hK]; rfl
  rw [eV]
  clear hK eV
  unfold keyV at HK
  go_enter Try.func40, Try.ntmps40
  go_wp2_with fail
  go_loopw [9, 10] (fun i j wr => ∃ I J : Nat, i = .int .i64 I ∧ j = .int .i64 J ∧ I ≤ J ∧ J ≤ xs.length ∧ Hid ((∀ q, q < I → cmpK (at_ xs q) K < 0) ∧ (∀ q, J ≤ q → q < xs.length → 0 ≤ cmpK (at_ xs q) K)) ∧
      Blk wr w.heap.size #[.int .i64 kp, .int .i64 kt, .int .u32 ki] 24 ∧ Below w.heap.size w wr) (fun i j _ => (intOf j).toNat - (intOf i).toNat)
  case atStart => exact ⟨0, xs.length, rfl, rfl, Nat.zero_le _, Nat.le_refl _, ⟨fun q h => by omega, fun q h h' => by omega⟩, Blk.new _ _ _, (Below.refl _ _).alloc (Nat.le_refl _) _⟩
  case round =>
    obtain ⟨I, J, rfl, rfl, hIJ, hJ, hq0, hb0, hB⟩ := hrel
    by_cases hlt : I < J
    · have hlt' : decide (I < J) = true := decide_eq_true hlt
      obtain ⟨h, hh⟩ : ∃ h, h = (I + J) / 2 := ⟨_, rfl⟩
      have hhI : I ≤ h := by omega
      have hhJ : h < J := by omega
      have hhn : h < xs.length := by omega
      have eh : ((I : Int) + (J : Int)) / 2 = (h : Int) := by omega
      obtain ⟨c0, c1, c2⟩ := HC.out.at hB hhn
      have d0 := hb0.cell 0; simp at d0
      have d1 := hb0.cell 1; simp at d1
      have d2 := hb0.cell 2; simp at d2
      have HKh : Hid (∀ w, Calls Try.prog 32 #[.agg #[.int .i64 (at_ xs h).1, .int .i64 (at_ xs h).2.1, .int .u32 (at_ xs h).2.2], .agg #[.int .i64 kp, .int .i64 kt, .int .u32 ki]] w fun e w' => e = .returned (.int .i64 (cmpK (at_ xs h) K)) ∧ Grew w w') := fun w => HK.out h w
      obtain ⟨r, hr⟩ : ∃ r, r = cmpK (at_ xs h) K := ⟨_, rfl⟩
      rw [← hr] at HKh
      have HR := Lib.hid hr
      obtain ⟨x, hx⟩ : ∃ x, x = at_ xs h := ⟨_, rfl⟩
      rw [← hx] at c0 c1 c2 HKh
      have hbs := hb0
      have HB0 := Lib.hid hbs
      have hw0 : w.heap.size < wr.heap.size := hb0.lt
      clear hr hx hh hb0 hbs
      cases hq : decide (r < 0)
      all_goals
        go_wp2_with fail
        go_region_held3 (fun w' => w'.cell? ⟨b, off + h * 3, none⟩ = some (.int .i64 x.1) ∧ w'.cell? ⟨b, off + h * 3 + 1, none⟩ = some (.int .i64 x.2.1) ∧ w'.cell? ⟨b, off + h * 3 + 2, none⟩ = some (.int .u32 x.2.2) ∧
            w'.cell? ⟨w.heap.size, 0, none⟩ = some (.int .i64 kp) ∧ w'.cell? ⟨w.heap.size, 1, none⟩ = some (.int .i64 kt) ∧ w'.cell? ⟨w.heap.size, 2, none⟩ = some (.int .u32 ki) ∧ Below wr.heap.size wr w')
          (first
            | exact ⟨c0, c1, c2, d0, d1, d2, (Below.refl _ wr).drew⟩
            | (rcases ‹_ ∧ _ ∧ _ ∧ _ ∧ _ ∧ _ ∧ Below _ _ _› with ⟨g0, g1, g2, g3, g4, g5, g6⟩; exact ⟨cell_next (Grew.below (by assumption)) g0, cell_next (Grew.below (by assumption)) g1, cell_next (Grew.below (by assumption)) g2, cell_next (Grew.below (by assumption)) g3, cell_next (Grew.below (by assumption)) g4, cell_next (Grew.below (by assumption)) g5, below_next (Grew.below (by assumption)) g6⟩))
          (first
            | (go_at_call 32; ((with_reducible refine (HKh.out _).mono ?_); rintro e w2 ⟨rfl, b2⟩)))
        rcases ‹_ ∧ _ ∧ _ ∧ _ ∧ _ ∧ _ ∧ Below _ _ _› with ⟨_, _, _, _, _, _, g6⟩
      · go_wp2_with fail
        go_roundw
        case rel =>
          refine ⟨I, h, by go_num, by go_num, hhI, by omega, ⟨hq0.out.1, fun q h1 h2 => ?_⟩, HB0.out.kept g6, below_next g6 hB⟩
          rcases Int.lt_or_le (cmpK (at_ xs q) K) 0 with h3 | h3
          · have := HM.out h q h1 h2 h3
            rw [← HR.out] at this
            have := of_decide_eq_false hq
            omega
          · exact h3
        case measure => simp [intOf]; omega
      · go_wp2_with fail
        go_roundw
        case rel =>
          refine ⟨h + 1, J, by go_num, by go_num, by omega, hJ, ⟨fun q h1 => ?_, hq0.out.2⟩, HB0.out.kept g6, below_next g6 hB⟩
          have h0 := of_decide_eq_true hq
          rw [HR.out] at h0
          exact HM.out q h (by omega) hhn h0
        case measure => simp [intOf]; omega
    · obtain rfl : I = J := by omega
      have hlt' : decide (I < I) = false := decide_eq_false (by omega)
      by_cases hIn : I < xs.length
      · have hIn' : decide (I < xs.length) = true := decide_eq_true hIn
        obtain ⟨c0, c1, c2⟩ := HC.out.at hB hIn
        have d0 := hb0.cell 0; simp at d0
        have d1 := hb0.cell 1; simp at d1
        have d2 := hb0.cell 2; simp at d2
        have HKh : Hid (∀ w, Calls Try.prog 32 #[.agg #[.int .i64 (at_ xs I).1, .int .i64 (at_ xs I).2.1, .int .u32 (at_ xs I).2.2], .agg #[.int .i64 kp, .int .i64 kt, .int .u32 ki]] w fun e w' => e = .returned (.int .i64 (cmpK (at_ xs I) K)) ∧ Grew w w') := fun w => HK.out I w
        generalize cmpK (at_ xs I) K = r at HKh
        generalize at_ xs I = x at c0 c1 c2 HKh
        have HQ := hq0
        have hw0 : w.heap.size < wr.heap.size := hb0.lt
        clear hb0 hq0
        cases hf : (r == 0)
        all_goals
          go_wp2_with fail
          go_region_held3 (fun w' => w'.cell? ⟨b, off + I * 3, none⟩ = some (.int .i64 x.1) ∧ w'.cell? ⟨b, off + I * 3 + 1, none⟩ = some (.int .i64 x.2.1) ∧ w'.cell? ⟨b, off + I * 3 + 2, none⟩ = some (.int .u32 x.2.2) ∧
              w'.cell? ⟨w.heap.size, 0, none⟩ = some (.int .i64 kp) ∧ w'.cell? ⟨w.heap.size, 1, none⟩ = some (.int .i64 kt) ∧ w'.cell? ⟨w.heap.size, 2, none⟩ = some (.int .u32 ki) ∧ Below wr.heap.size wr w')
            (first
              | exact ⟨c0, c1, c2, d0, d1, d2, (Below.refl _ wr).drew⟩
              | (rcases ‹_ ∧ _ ∧ _ ∧ _ ∧ _ ∧ _ ∧ Below _ _ _› with ⟨g0, g1, g2, g3, g4, g5, g6⟩; exact ⟨cell_next (Grew.below (by assumption)) g0, cell_next (Grew.below (by assumption)) g1, cell_next (Grew.below (by assumption)) g2, cell_next (Grew.below (by assumption)) g3, cell_next (Grew.below (by assumption)) g4, cell_next (Grew.below (by assumption)) g5, below_next (Grew.below (by assumption)) g6⟩))
            (first
              | (go_at_call 32; ((with_reducible refine (HKh.out _).mono ?_); rintro e w2 ⟨rfl, b2⟩)))
          rcases ‹_ ∧ _ ∧ _ ∧ _ ∧ _ ∧ _ ∧ Below _ _ _› with ⟨_, _, _, _, _, _, g6⟩
          go_wp2_with fail
          go_ret2
          exact ⟨I, _, rfl, ⟨hJ, HQ.out.1, HQ.out.2⟩, below_next g6 hB⟩
      · obtain rfl : I = xs.length := by omega
        have hIn' : decide (xs.length < xs.length) = false := decide_eq_false (by omega)
        go_wp2_with fail
        go_quiet (fail)
        go_wp2_with fail
        go_ret2
        exact ⟨xs.length, _, rfl, ⟨Nat.le_refl _, hq0.out.1, hq0.out.2⟩, below_drewN hB _⟩

theorem bs_nil (a : Option Addr) (c : Nat) (k : Key) (f : Value) (w : World) :
    Calls Try.prog 40 #[.slice a 0 c, keyV k, f] w
      fun e w' => ∃ f, e = .returned (.tuple #[.int .i64 0, .bool f]) ∧ Below w.heap.size w w' := by
  unfold keyV
  go_enter Try.func40, Try.ntmps40
  go_wp2_with fail
  refine wp_loop_rounds 1 ?_
  rw [rounds_succ]
  go_wp2_with fail
  go_quiet (fail)
  go_wp2_with fail
  go_ret2
  exact ⟨_, rfl, below_drewN ((Below.refl _ _).alloc (Nat.le_refl _) _) _⟩
/-- slices.BinarySearchFunc at ranked keys. -/
theorem bs_any (v : Value) (xs : List Key) (k : Key) (w : World) (hn : xs.length ≤ 1048576) (h : KRow w v xs)
    (hmono : ∀ q r, q ≤ r → r < xs.length → cmpK (at_ xs r) k < 0 → cmpK (at_ xs q) k < 0) :
    Calls Try.prog 40 #[v, keyV k, .func (.func 32) #[] #[]] w
      fun e w' => ∃ p f, e = .returned (.tuple #[.int .i64 (p : Nat), .bool f]) ∧ (p ≤ xs.length ∧ (∀ q, q < p → cmpK (at_ xs q) k < 0) ∧ (∀ q, p ≤ q → q < xs.length → 0 ≤ cmpK (at_ xs q) k)) ∧ Below w.heap.size w w' := by
  rcases h with ⟨rfl, a, c, rfl, _⟩ | ⟨b, off, c, rfl, h0, h1, h2, hc⟩
  · refine (bs_nil a c k _ w).mono ?_
    rintro e w' ⟨f, rfl, hb⟩
    exact ⟨0, f, rfl, ⟨Nat.le_refl _, fun q h => by omega, fun q _ h => by simp at h⟩, hb⟩
  · exact bs_row b off c xs k w hn hc hmono

/-- The keys that come ahead of a key stand ahead of those that don't, in ranked keys. -/
theorem mono_of_sorted {xs : List Key} {k : Key} (hs : xs.Pairwise fun x y => kLess y x = false) : ∀ q r, q ≤ r → r < xs.length → cmpK (at_ xs r) k < 0 → cmpK (at_ xs q) k < 0 := by
  intro q r hqr hr hlt
  rcases Nat.lt_or_ge q r with h | h
  · have h1 := (pairwise_at xs).1 hs q r h hr
    cases hc : kLess (at_ xs q) k with
    | true => exact of_decide_eq_true hc
    | false =>
      exfalso
      have h2 : kLess (at_ xs r) k = true := decide_eq_true hlt
      have : kLess (at_ xs r) k = false := swoK.ntrans _ _ _ h1 hc
      rw [this] at h2; cases h2
  · obtain rfl : q = r := by omega
    exact hlt
end Go.Proofs.Ytpgiladbljnpcaa
