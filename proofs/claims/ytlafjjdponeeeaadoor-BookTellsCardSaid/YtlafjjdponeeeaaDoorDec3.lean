/-
  Contracts of package decay's functions: Charge, Until.
-/
import Derived.Test.YtlafjjdponeeeaaDoorDec2
namespace Go.Proofs.YtlafjjdponeeeaaDoor
open Go.ChangeShapes Go.WideShapes Go.ChangeAt Go.RowKit
set_option linter.unusedVariables false

theorem ret_use {N N' A A' e e' : Int} (h1 : N = N') (h2 : A = A') (h3 : e = e') : Ending.returned (.tuple #[.agg #[.int .i64 N, .int .i64 A], .int .i64 e]) = .returned (.tuple #[.agg #[.int .i64 N', .int .i64 A'], .int .i64 e']) := by rw [h1, h2, h3]

/-- Until when it counts for something. -/
def UntilOk (n h : Int) : Prop := 0 ≤ n ∧ 1 ≤ h ∧ h ≤ 4294967296

/-- What may be charged. -/
def ChOk (N At now more h : Int) : Prop := 0 ≤ N ∧ 0 ≤ At ∧ At ≤ now ∧ now ≤ 1099511627776 ∧ 0 ≤ more ∧ 1 ≤ h ∧ h ≤ 1099511627776

theorem charge_no (N At now more h : Int) (w : World) (hn : ¬ ChOk N At now more h) :
    Calls Tryd.prog 35 #[.agg #[.int .i64 N, .int .i64 At], .int .i64 now, .int .i64 more, .int .i64 h] w fun e w' => e = .returned (.tuple #[.agg #[.int .i64 0, .int .i64 0], .int .i64 2]) ∧ Below w.heap.size w w' := by
  have c : decide (N < 0) = true ∨ decide (N < 0) = false ∧ (decide (At < 0) = true ∨ decide (At < 0) = false ∧ (decide (now < At) = true ∨ decide (now < At) = false ∧
      (decide (1099511627776 < now) = true ∨ decide (1099511627776 < now) = false ∧ (decide (more < 0) = true ∨ decide (more < 0) = false ∧ Hid (¬ (1 ≤ h ∧ h ≤ 1099511627776)))))) := by
    unfold ChOk at hn
    unfold Hid
    simp only [decide_eq_true_eq, decide_eq_false_iff_not]; omega
  clear hn
  rcases c with c | ⟨c1, c | ⟨c2, c | ⟨c3, c | ⟨c4, c | ⟨c5, c⟩⟩⟩⟩⟩
  case inr.inr.inr.inr.inr =>
    go_enter Tryd.func35, Tryd.ntmps35
    go_wp2_with fail
    refine (isHalf_no _ _ _ c.out).mono ?_; rintro e w1 ⟨rfl, rfl⟩
    go_wp2_with fail
    refine bodyPost_ret (v := .tuple #[.agg #[.int .i64 0, .int .i64 0], .int .i64 2]) (by simp [results, Tryd.results35, go_sem]) rfl ⟨rfl, ?_⟩
    go_grown
  all_goals
    go_enter Tryd.func35, Tryd.ntmps35
    go_wp2_with fail
    refine bodyPost_ret (v := .tuple #[.agg #[.int .i64 0, .int .i64 0], .int .i64 2]) (by simp [results, Tryd.results35, go_sem]) rfl ⟨rfl, ?_⟩
    go_grown

theorem sum_two (b c : Nat) (x y : Int) (w : World) (hx : I64 x) (hy : I64 y) (h0 : w.cell? ⟨b, 0, none⟩ = some (.int .i64 x)) (h1 : w.cell? ⟨b, 1, none⟩ = some (.int .i64 y)) :
    Calls Tryd.prog 30 #[.slice (some ⟨b, 0, none⟩) 2 c] w fun e w' => e = .returned (.int .i64 (endV (x + y))) ∧ w' = w :=
  (sum_row b 0 c [x, y] w (by simp) (by simp [hx, hy]) (by
    intro k hk
    match k, hk with
    | 0, _ => exact h0
    | 1, _ => exact h1
    | k + 2, hk => simp at hk; omega)).mono fun _ _ ⟨h, h'⟩ => ⟨h.trans (ret_int (by simp [sumEnd, endV_in hx])), h'⟩

theorem charge_ok (N At now more h : Nat) (w : World) (hN : N ≤ 9223372036854775807) (hm : more ≤ 9223372036854775807) (ha : At ≤ now) (hn : now ≤ 1099511627776) (h1 : 1 ≤ h) (h2 : h ≤ 1099511627776) :
    Calls Tryd.prog 35 #[.agg #[.int .i64 N, .int .i64 At], .int .i64 now, .int .i64 more, .int .i64 h] w
      fun e w' => e = .returned (.tuple #[.agg #[.int .i64 (endV ((aftN N (now - At) h : Nat) + (more : Int))), .int .i64 now], .int .i64 0]) ∧ Below w.heap.size w w' := by
  have c1 : decide ((N : Int) < 0) = false := decide_eq_false (by omega)
  have c2 : decide ((At : Int) < 0) = false := decide_eq_false (by omega)
  have c3 : decide (now < At) = false := decide_eq_false (by omega)
  have c4 : decide (1099511627776 < (now : Int)) = false := decide_eq_false (by omega)
  have c5 : decide ((more : Int) < 0) = false := decide_eq_false (by omega)
  have M : Hid (∀ w, Calls Tryd.prog 60 #[.int .i64 N, .int .i64 ((now : Int) - At), .int .i64 h] w fun e w' => e = .returned (.tuple #[.int .i64 (aftN N (now - At) h : Nat), .int .i64 0]) ∧ Below w.heap.size w w') := by
    intro w
    rw [show ((now : Int) - At) = ((now - At : Nat) : Int) from by omega]
    exact after_ok N (now - At) h w hN (by omega) h1 h2
  have b1 := aftN_le (n := N) (t := now - At) h1
  have b2 := Nat.div_le_self N (2 ^ ((now - At) / h))
  have x1 : I64 ((aftN N (now - At) h : Nat) : Int) := by unfold I64; omega
  have x2 : I64 (more : Int) := by unfold I64; omega
  have H : Hid (∀ w, Calls Tryd.prog 59 #[.int .i64 h, .int .i64 1099511627776] w fun e w' => e = .returned (.bool true) ∧ w' = w) := fun w => isHalf_yes _ _ w (by omega) (by omega)
  generalize aftN N (now - At) h = n at *
  have a1 : (At : Int) ≤ now := by omega
  have a2 : (now : Int) ≤ 1099511627776 := by omega
  clear b1 b2 hN hm ha hn h1 h2
  go_enter Tryd.func35, Tryd.ntmps35
  go_wp2_with fail
  refine (H.out _).mono ?_; rintro e w1 ⟨rfl, hw1⟩
  obtain rfl := hw1
  go_wp2_with fail
  refine (M.out _).mono ?_; rintro e w2 ⟨rfl, b2⟩
  obtain ⟨hc, hf⟩ := bcell b2
  have hz := b2.size
  simp only [World.size_alloc] at hz
  have B2 : Below w.heap.size w w2 := Below.trans (by go_grown) (b2.mono (by simp <;> omega))
  go_wp2_with fail
  refine (sum_two _ _ _ _ _ x1 x2 (by simp [go_sem]) (by simp [go_sem])).mono ?_; rintro e w3 ⟨rfl, hw3⟩
  obtain rfl := hw3
  have hlt : w.heap.size + 1 < w2.heap.size := by omega
  go_wp2_with fail
  refine bodyPost_ret (v := .tuple #[.agg #[.int .i64 (endV (n + (more : Int))), .int .i64 now], .int .i64 0]) (by simp [results, Tryd.results35, go_sem, hc, hlt]) rfl ⟨rfl, ?_⟩
  go_grown
end Go.Proofs.YtlafjjdponeeeaaDoor
