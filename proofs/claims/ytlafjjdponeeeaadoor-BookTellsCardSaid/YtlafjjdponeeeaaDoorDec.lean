/-
  Contracts of package decay's functions.
-/
import Derived.Test.YtlafjjdponeeeaaDoorNum4
namespace Go.Proofs.YtlafjjdponeeeaaDoor
open Go.ChangeShapes Go.WideShapes Go.ChangeAt Go.RowKit
set_option linter.unusedVariables false

/-- The table. -/
def tabL : List Int := [65536, 62757, 60097, 57549, 55109, 52773, 50535, 48393, 46341, 44376, 42495, 40693, 38968, 37316, 35734, 34219]
def tab (i : Nat) : Int := tabL.getD i 0
abbrev tabA : Array Value := #[.int .i64 65536, .int .i64 62757, .int .i64 60097, .int .i64 57549, .int .i64 55109, .int .i64 52773, .int .i64 50535, .int .i64 48393, .int .i64 46341, .int .i64 44376, .int .i64 42495, .int .i64 40693, .int .i64 38968, .int .i64 37316, .int .i64 35734, .int .i64 34219]
theorem tabA_get (i : Nat) (h : i < 16) : tabA[i]? = some (.int .i64 (tab i)) := by
  match i, h with
  | 0, _ => rfl
  | 1, _ => rfl
  | 2, _ => rfl
  | 3, _ => rfl
  | 4, _ => rfl
  | 5, _ => rfl
  | 6, _ => rfl
  | 7, _ => rfl
  | 8, _ => rfl
  | 9, _ => rfl
  | 10, _ => rfl
  | 11, _ => rfl
  | 12, _ => rfl
  | 13, _ => rfl
  | 14, _ => rfl
  | 15, _ => rfl
  | i + 16, h => omega
/-- Ticks and a half-life that may be. -/
def FacOk (t h : Int) : Prop := 0 ≤ t ∧ t ≤ 1099511627776 ∧ 1 ≤ h ∧ h ≤ 1099511627776

theorem isHalf_yes (h m : Int) (w : World) (h1 : 1 ≤ h) (h2 : h ≤ m) : Calls Tryd.prog 59 #[.int .i64 h, .int .i64 m] w fun e w' => e = .returned (.bool true) ∧ w' = w := by
  have t1 : decide (1 ≤ h) = true := decide_eq_true h1
  have t2 : decide (h ≤ m) = true := decide_eq_true h2
  go_enter Tryd.func59, Tryd.ntmps59
  go_wp2
  go_ret
  exact ⟨rfl, rfl⟩
theorem isHalf_no (h m : Int) (w : World) (hn : ¬ (1 ≤ h ∧ h ≤ m)) : Calls Tryd.prog 59 #[.int .i64 h, .int .i64 m] w fun e w' => e = .returned (.bool false) ∧ w' = w := by
  have t : decide (1 ≤ h) = false ∨ decide (1 ≤ h) = true ∧ decide (h ≤ m) = false := by
    simp only [decide_eq_true_eq, decide_eq_false_iff_not]; omega
  clear hn
  rcases t with t | ⟨t, t'⟩
  all_goals
    go_enter Tryd.func59, Tryd.ntmps59
    go_wp2
    go_ret
    exact ⟨rfl, rfl⟩

theorem factor_no (t h : Int) (w : World) (hn : ¬ FacOk t h) : Calls Tryd.prog 76 #[.int .i64 t, .int .i64 h] w fun e w' => e = .returned (.tuple #[.int .i64 0, .int .i64 0, .int .i64 2]) ∧ w' = w := by
  have c : decide (t < 0) = true ∨ decide (t < 0) = false ∧ (decide (1099511627776 < t) = true ∨ decide (1099511627776 < t) = false ∧ ¬ (1 ≤ h ∧ h ≤ 1099511627776)) := by
    unfold FacOk at hn
    simp only [decide_eq_true_eq, decide_eq_false_iff_not]; omega
  clear hn
  rcases c with c | ⟨c, c' | ⟨c', c''⟩⟩
  · go_enter Tryd.func76, Tryd.ntmps76
    go_wp2_with fail
    go_ret3
    exact ⟨rfl, rfl⟩
  · go_enter Tryd.func76, Tryd.ntmps76
    go_wp2_with fail
    go_ret3
    exact ⟨rfl, rfl⟩
  · have C := Lib.hid c''
    clear c''
    go_enter Tryd.func76, Tryd.ntmps76
    go_wp2_with fail
    refine (isHalf_no _ _ _ C.out).mono ?_; rintro e w1 ⟨rfl, rfl⟩
    go_wp2_with fail
    go_ret3
    exact ⟨rfl, rfl⟩

theorem factor_ok (t h : Nat) (w : World) (ht : t ≤ 1099511627776) (h1 : 1 ≤ h) (h2 : h ≤ 1099511627776) :
    Calls Tryd.prog 76 #[.int .i64 t, .int .i64 h] w fun e w' => e = .returned (.tuple #[.int .i64 ((t / h : Nat) : Int), .int .i64 (tab (t % h * 16 / h)), .int .i64 0]) ∧ Below w.heap.size w w' := by
  have c1 : decide ((t : Int) < 0) = false := decide_eq_false (by omega)
  have c2 : decide (1099511627776 < (t : Int)) = false := decide_eq_false (by omega)
  have c3 : ((h : Int) == 0) = false := by simpa using (show ((h : Int) ≠ 0) by omega)
  have hm := Nat.mod_lt t (show 0 < h by omega)
  have hi : t % h * 16 / h < 16 := by rw [Nat.div_lt_iff_lt_mul (by omega)]; omega
  have h1' : 1 ≤ (h : Int) := by omega
  have h2' : (h : Int) ≤ 1099511627776 := by omega
  have ht' : (t : Int) ≤ 1099511627776 := by omega
  clear ht
  go_enter Tryd.func76, Tryd.ntmps76
  go_wp2_with fail
  refine (isHalf_yes _ _ _ h1' h2').mono ?_; rintro e w1 ⟨rfl, rfl⟩
  go_wp2_with fail
  have hBk : Blk (w1.alloc (Obj.cells tabA 127)) w1.heap.size tabA 127 := Blk.new _ _ _
  have hBl : Below w1.heap.size w1 (w1.alloc (Obj.cells tabA 127)) := by go_grown
  have hc := hBk.cell (t % h * 16 / h)
  rw [tabA_get _ hi] at hc
  obtain ⟨w2, hw2⟩ : ∃ w2, w2 = w1.alloc (Obj.cells tabA 127) := ⟨_, rfl⟩
  rw [← hw2] at hc hBl ⊢
  clear hw2 hBk
  have g1 : 0 ≤ (t : Int) % h := Int.emod_nonneg _ (by omega)
  have g2 : (t : Int) % h ≤ 1099511627776 := by have := Int.emod_lt_of_pos (t : Int) (show (0 : Int) < h by omega); omega
  have g3 : (t : Int) % h * 16 / h < 16 := by
    have : ((t % h * 16 / h : Nat) : Int) < 16 := by omega
    simpa using this
  have g4 : 0 ≤ (t : Int) % h * 16 / h := Int.ediv_nonneg (by omega) (by omega)
  clear hm hi
  have E1 : Hid (wrap64 ((t : Int) / h) = ((t / h : Nat) : Int)) := by
    show _ = _
    have := Nat.div_le_self t h
    rw [← Int.natCast_ediv]; generalize t / h = d at *; exact IntWalk.wrap64_in _ ⟨by omega, by omega⟩
  go_quiet (fail)
  go_wp2_with fail
  go_ret3
  exact ⟨ret_tup3 E1.out rfl rfl, below_drewN hBl _⟩
end Go.Proofs.YtlafjjdponeeeaaDoor
