/-
  Layer 18: a spool that is not there; two that know nothing of one another.
-/
import Derived.Test.YtgohnidndjbjiaaSpoolK
namespace Go.Proofs.Ytgohnidndjbjiaa
open Go Go.RowKit Go.Lib
set_option linter.unusedVariables false

theorem nil_off (w : World) (k : Int) : Calls Try.prog 18 #[.pointer none, .int .i64 k] w fun e w' => e = .returned (.tuple #[]) ∧ w' = w := by
  go_enter Try.func18, Try.ntmps18
  go_wp2_with fail
  go_returns
  exact ⟨rfl, rfl⟩
theorem nil_crash (w : World) (k : Int) : Calls Try.prog 22 #[.pointer none, .int .i64 k] w fun e w' => e = .returned (.tuple #[]) ∧ w' = w := by
  go_enter Try.func22, Try.ntmps22
  go_wp2_with fail
  go_returns
  exact ⟨rfl, rfl⟩
theorem nil_add (w : World) (v : Value) : Calls Try.prog 29 #[.pointer none, v] w fun e w' => e = .returned (.int .i64 1) ∧ w' = w := by
  go_enter Try.func29, Try.ntmps29
  go_wp2_with fail
  go_returns
  exact ⟨rfl, rfl⟩
theorem nil_sync (w : World) : Calls Try.prog 30 #[.pointer none] w fun e w' => e = .returned (.int .i64 1) ∧ w' = w := by
  go_enter Try.func30, Try.ntmps30
  go_wp2_with fail
  go_returns
  exact ⟨rfl, rfl⟩
theorem nil_cut (w : World) (k : Int) : Calls Try.prog 50 #[.pointer none, .int .i64 k] w fun e w' => e = .returned (.int .i64 1) ∧ w' = w := by
  go_enter Try.func50, Try.ntmps50
  go_wp2_with fail
  go_returns
  exact ⟨rfl, rfl⟩
theorem nil_bytes (w : World) : Calls Try.prog 48 #[.pointer none] w fun e w' => e = .returned (.slice none 0 0) ∧ w' = w := by
  go_enter Try.func48, Try.ntmps48
  go_wp2_with fail
  refine (on_nil _).mono ?_; rintro e w1 ⟨rfl, rfl⟩
  go_wp2_with fail
  go_returns
  exact ⟨rfl, rfl⟩
theorem nil_len (w : World) : Calls Try.prog 28 #[.pointer none] w fun e w' => e = .returned (.int .i64 0) ∧ w' = w := by
  go_enter Try.func28, Try.ntmps28
  go_wp2_with fail
  refine (on_nil _).mono ?_; rintro e w1 ⟨rfl, rfl⟩
  go_wp2_with fail
  go_returns
  exact ⟨rfl, rfl⟩
/-- What was handed out before lies beside the spool, whatever is called then. -/
theorem SpTo.other {w w' : World} {base sb : Nat} {N : Nat → Prop} {s' : St} (h : SpTo w base N sb s' w') : ∃ N', Sp w' base N' sb s' ∧ Fr N w w' ∧ ∀ b, b < w.heap.size → ¬ N b → ¬ N' b := by
  obtain ⟨N', h1, h2, h3⟩ := h
  exact ⟨N', h2, h3, fun b hb hn h => hn ((h1 b hb).1 h)⟩
theorem spoil_bytes (w : World) (g : Nat) (xs : List UInt8) (h : Blk w g (bts xs).toArray 5) (hn : xs.length ≤ 1048576) :
    Calls Try.prog 17 #[.slice (some ⟨g, 0, none⟩) xs.length xs.length] w fun e w' => e = .returned (.tuple #[]) ∧ Fr (fun b => b = g) w w' :=
  bySpoil_row w g xs.length xs.length _ h (fun t ht => ⟨_, by rw [List.getElem?_toArray, bts_get xs t ht]⟩) hn
end Go.Proofs.Ytgohnidndjbjiaa
