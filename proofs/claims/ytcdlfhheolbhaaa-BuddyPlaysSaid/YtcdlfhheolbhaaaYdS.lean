/-
  buddy.size, contains, halves, hasWorker.
-/
import Derived.Test.YtcdlfhheolbhaaaYdI
namespace Go.Proofs.Ytcdlfhheolbhaaa
open Go Go.RowKit Go.Lib
set_option linter.unusedVariables false

abbrev bkV (b : Bk) : Value := .agg #[.int .i64 (b.1 : Int), .int .i64 (b.2 : Int)]
theorem ord_cases {o : Nat} (h : o ≤ 10) : o = 0 ∨ o = 1 ∨ o = 2 ∨ o = 3 ∨ o = 4 ∨ o = 5 ∨ o = 6 ∨ o = 7 ∨ o = 8 ∨ o = 9 ∨ o = 10 := by omega
theorem size_any (o : Nat) (ho : o ≤ 10) (w : World) : Calls Try.prog 65 #[.int .i64 (o : Int)] w fun e w' => e = .returned (.int .i64 ((2 ^ o : Nat) : Int)) ∧ w' = w := by
  rcases ord_cases ho with rfl | rfl | rfl | rfl | rfl | rfl | rfl | rfl | rfl | rfl | rfl <;>
  · go_enter Try.func65, Try.ntmps65
    go_wp2_with fail
    go_ret
    exact ⟨rfl, rfl⟩
/-- The test, at any number. -/
def inI (b : Bk) (x : Int) : Bool := decide ((b.1 : Int) ≤ x) && decide (x < (b.1 : Int) + ((2 ^ b.2 : Nat) : Int))
theorem inI_nat (b : Bk) (x : Nat) : inI b (x : Int) = true ↔ inB b.2 b.1 x := by
  unfold inI inB; rw [Bool.and_eq_true, decide_eq_true_eq, decide_eq_true_eq]
  constructor
  · rintro ⟨h1, h2⟩; exact ⟨by omega, by omega⟩
  · rintro ⟨h1, h2⟩; exact ⟨by omega, by omega⟩
theorem contains_any (b : Bk) (x : Int) (h1 : b.1 < 4096) (ho : b.2 ≤ 10) (w : World) : Calls Try.prog 51 #[bkV b, .int .i64 x] w fun e w' => e = .returned (.bool (inI b x)) ∧ Below w.heap.size w w' := by
  obtain ⟨s, o⟩ := b
  have hp := pow_1024 ho
  have SZ : Hid (∀ w, Calls Try.prog 65 #[.int .i64 (o : Int)] w fun e w' => e = .returned (.int .i64 ((2 ^ o : Nat) : Int)) ∧ w' = w) := fun w => size_any o ho w
  unfold inI
  dsimp only at *
  generalize 2 ^ o = P at *
  have hw : IntKind.i64.wrap ((s : Int) + (P : Int)) = (s : Int) + (P : Int) := by rw [IntKind.wrap_i64]; omega
  by_cases hs : (s : Int) ≤ x
  · have hd : decide ((s : Int) ≤ x) = true := decide_eq_true hs
    rw [hd]
    go_enter Try.func51, Try.ntmps51
    go_wp2_with fail
    go_quiet (first | (go_at_call 65; exact Calls.quiet_of_same (SZ.out _)))
    go_wp2_with fail
    go_ret
    exact ⟨by simp, below_drewN ((Below.refl _ _).alloc (Nat.le_refl _) _) _⟩
  · have hd : decide ((s : Int) ≤ x) = false := decide_eq_false hs
    rw [hd]
    go_enter Try.func51, Try.ntmps51
    go_wp2_with fail
    go_region
    go_wp2_with fail
    go_ret
    exact ⟨by simp, by go_grown⟩
theorem hasWorker_any (y n : Nat) (x : Int) (hn : n ≤ 10) (w : World) (hc : w.cell? ⟨y, 0, none⟩ = some (.int .i64 (n : Int))) :
    Calls Try.prog 59 #[.pointer (some ⟨y, 0, none⟩), .int .i64 x] w fun e w' => e = .returned (.bool (decide (0 ≤ x ∧ x < ((2 ^ n : Nat) : Int)))) ∧ w' = w := by
  have SZ : Hid (∀ w, Calls Try.prog 65 #[.int .i64 (n : Int)] w fun e w' => e = .returned (.int .i64 ((2 ^ n : Nat) : Int)) ∧ w' = w) := fun w => size_any n hn w
  generalize 2 ^ n = P at *
  by_cases hs : (0 : Int) ≤ x
  · have hd : decide ((0 : Int) ≤ x) = true := decide_eq_true hs
    have he : decide (0 ≤ x ∧ x < (P : Int)) = decide (x < (P : Int)) := by simp [hs]
    rw [he]
    go_enter Try.func59, Try.ntmps59
    go_wp2_with fail
    refine (SZ.out _).mono ?_; rintro e w1 ⟨rfl, hw⟩; subst hw
    go_wp2_with fail
    go_ret
    exact ⟨by simp, rfl⟩
  · have hd : decide ((0 : Int) ≤ x) = false := decide_eq_false hs
    have he : decide (0 ≤ x ∧ x < (P : Int)) = false := by simp [hs]
    rw [he]
    go_enter Try.func59, Try.ntmps59
    go_wp2_with fail
    go_ret
    exact ⟨by simp, rfl⟩
set_option maxHeartbeats 1000000 in
/-- The halves of a block of order o + 1. -/
theorem halves_any (s o : Nat) (h1 : s < 4096) (ho : o + 1 ≤ 10) (w : World) : Calls Try.prog 75 #[.agg #[.int .i64 (s : Int), .int .i64 ((o + 1 : Nat) : Int)]] w
    fun e w' => e = .returned (.tuple #[bkV (s, o), bkV (s + 2 ^ o, o)]) ∧ Below w.heap.size w w' := by
  have hp := pow_1024 (show o ≤ 10 by omega)
  have SZ : Hid (∀ w, Calls Try.prog 65 #[.int .i64 (o : Int)] w fun e w' => e = .returned (.int .i64 ((2 ^ o : Nat) : Int)) ∧ w' = w) := fun w => size_any o (by omega) w
  generalize 2 ^ o = P at *
  obtain ⟨o1, ho1⟩ : ∃ o1 : Int, o1 = ((o + 1 : Nat) : Int) := ⟨_, rfl⟩
  have e1 : IntKind.i64.wrap (o1 - 1) = (o : Int) := by rw [IntKind.wrap_i64]; omega
  have e2 : IntKind.i64.wrap ((s : Int) + (P : Int)) = ((s + P : Nat) : Int) := by rw [IntKind.wrap_i64]; omega
  obtain ⟨r, hr⟩ : ∃ r : Int, r = ((s + P : Nat) : Int) := ⟨_, rfl⟩
  unfold bkV
  dsimp only
  rw [← ho1]
  rw [← hr] at e2 ⊢
  clear hr ho1 hp
  go_enter Try.func75, Try.ntmps75
  go_wp2_with fail
  go_region_law (first | (go_simp; go_at_call 65; ((with_reducible refine (SZ.out _).mono ?_); rintro e w2 ⟨rfl, hw⟩; subst hw)))
  all_goals (go_wp2_with fail; go_returns; exact ⟨rfl, by go_grown⟩)
end Go.Proofs.Ytcdlfhheolbhaaa
