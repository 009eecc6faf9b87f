/-
  Layer 18: a spool that is not there; two that know nothing of one another.
-/
import Derived.Test.YtifcmapicpnkgaaSpoolK
namespace Go.Proofs.Ytifcmapicpnkgaa
open Go Go.RowKit Go.Lib
set_option linter.unusedVariables false

theorem nil_off (w : World) (k : Int) : Calls Try.prog 21 #[.pointer none, .int .i64 k] w fun e w' => e = .returned (.tuple #[]) ∧ w' = w := by
  go_enter Try.func21, Try.ntmps21
  go_wp2_with fail
  go_returns
  exact ⟨rfl, rfl⟩
theorem nil_crash (w : World) (k : Int) : Calls Try.prog 23 #[.pointer none, .int .i64 k] w fun e w' => e = .returned (.tuple #[]) ∧ w' = w := by
  go_enter Try.func23, Try.ntmps23
  go_wp2_with fail
  go_returns
  exact ⟨rfl, rfl⟩
theorem nil_add (w : World) (v : Value) : Calls Try.prog 13 #[.pointer none, v] w fun e w' => e = .returned (.int .i64 1) ∧ w' = w := by
  go_enter Try.func13, Try.ntmps13
  go_wp2_with fail
  go_returns
  exact ⟨rfl, rfl⟩
theorem nil_sync (w : World) : Calls Try.prog 17 #[.pointer none] w fun e w' => e = .returned (.int .i64 1) ∧ w' = w := by
  go_enter Try.func17, Try.ntmps17
  go_wp2_with fail
  go_returns
  exact ⟨rfl, rfl⟩
theorem nil_cut (w : World) (k : Int) : Calls Try.prog 19 #[.pointer none, .int .i64 k] w fun e w' => e = .returned (.int .i64 1) ∧ w' = w := by
  go_enter Try.func19, Try.ntmps19
  go_wp2_with fail
  go_returns
  exact ⟨rfl, rfl⟩
theorem nil_bytes (w : World) : Calls Try.prog 26 #[.pointer none] w fun e w' => e = .returned (.slice none 0 0) ∧ w' = w := by
  go_enter Try.func26, Try.ntmps26
  go_wp2_with fail
  refine (on_nil _).mono ?_; rintro e w1 ⟨rfl, rfl⟩
  go_wp2_with fail
  go_returns
  exact ⟨rfl, rfl⟩
theorem nil_len (w : World) : Calls Try.prog 28 #[.pointer none] w fun e w' => e = .returned (.int .i64 0) ∧ w' = w := by
  go_enter Try.func28, Try.ntmps28
  go_wp2_with fail
  refine (on_nil _).mono ?_; rintro e w1 ⟨rfl, rfl⟩
  go_wp2_with fail
  go_returns
  exact ⟨rfl, rfl⟩
theorem nil_sure (w : World) : Calls Try.prog 29 #[.pointer none] w fun e w' => e = .returned (.int .i64 0) ∧ w' = w := by
  go_enter Try.func29, Try.ntmps29
  go_wp2_with fail
  refine (on_nil _).mono ?_; rintro e w1 ⟨rfl, rfl⟩
  go_wp2_with fail
  go_returns
  exact ⟨rfl, rfl⟩
/-- What was handed out before lies beside the spool, whatever is called then. -/
theorem SpTo.other {w w' : World} {base sb : Nat} {N : Nat → Prop} {s' : St} (h : SpTo w base N sb s' w') : ∃ N', Sp w' base N' sb s' ∧ Fr N w w' ∧ ∀ b, b < w.heap.size → ¬ N b → ¬ N' b := by
  obtain ⟨N', h1, h2, h3⟩ := h
  exact ⟨N', h2, h3, fun b hb hn h => hn ((h1 b hb).1 h)⟩
theorem spoil_bytes (w : World) (g : Nat) (xs : List UInt8) (h : Blk w g (bts xs).toArray 5) (hn : xs.length ≤ 1048576) :
    Calls Try.prog 16 #[.slice (some ⟨g, 0, none⟩) xs.length xs.length] w fun e w' => e = .returned (.tuple #[]) ∧ Fr (fun b => b = g) w w' :=
  bySpoil_row w g xs.length xs.length _ h (fun t ht => ⟨_, by rw [List.getElem?_toArray, bts_get xs t ht]⟩) hn
end Go.Proofs.Ytifcmapicpnkgaa
