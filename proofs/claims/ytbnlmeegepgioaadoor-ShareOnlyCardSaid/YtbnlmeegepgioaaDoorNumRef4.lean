
/-
  Contracts of package gangerref01's functions: Sub, Mul, End, Up.
-/
import Derived.Test.YtbnlmeegepgioaaDoorNumRef3
import Derived.Test.YtbnlmeegepgioaaDoorNum4
import Derived.Deep.RegionHeld3
namespace Go.Proofs.YtbnlmeegepgioaaDoor
open Go.ChangeShapes Go.WideShapes Go.ChangeAt Go.RowKit
set_option linter.unusedVariables false

theorem ref_wide_chain {w w1 w2 w3 w4 : World} (b1 : Below w.heap.size w w1) (b2 : Below w1.heap.size w1 w2) (b3 : Below w2.heap.size w2 w3) (b4 : Below w3.heap.size w3 w4) : Below w.heap.size w w4 :=
  have h12 := b1.trans (b2.mono b1.size)
  have h13 := h12.trans (b3.mono h12.size)
  h13.trans (b4.mono h13.size)

theorem fits_mul {A B : Nat} (hA : A ≤ 9223372036854775808) (hB : B ≤ 9223372036854775808) : Fits (A * B) := by
  have : A * B ≤ 9223372036854775808 * 9223372036854775808 := Nat.mul_le_mul hA hB
  unfold Fits; omega


theorem End_any (m : Bool) (N : Nat) (w : World) (h : Fits N) :
    Calls Tryd.prog 38 #[.agg #[.bool m, .int .u64 (hiW N), .int .u64 (loW N)]] w
      fun e w' => e = .returned (.int .i64 (endV (sg m N))) ∧ Below w.heap.size w w' := by
  by_cases c : I64 (sg m N)
  · have H : Hid (fitB (sg m N) = true) := by show _ = _; simp [fitB, c]
    have E := Lib.hid ((fitV_in c).trans (endV_in c).symm)
    clear c
    go_enter Tryd.func38, Tryd.ntmps38
    go_wp2_with (go_at_call 50; refine (Narrow_any _ _ _ h).mono ?_; rintro e w1 ⟨rfl, hb⟩; rw [H.out]; have hB : Below w.heap.size w w1 := Below.trans (by go_grown) (hb.mono (by simp <;> omega)))
    go_ret
    exact ⟨ret_int E.out, hB⟩
  · have H : Hid (fitB (sg m N) = false) := by show _ = _; simp [fitB, c]
    have E := endV_out c
    cases m
    · have E1 : Hid (9223372036854775807 = endV (sg false N)) := by show _ = _; rw [E, if_neg]; unfold sg; simp
      clear c E
      go_enter Tryd.func38, Tryd.ntmps38
      go_wp2_with (go_at_call 50; refine (Narrow_any _ _ _ h).mono ?_; rintro e w1 ⟨rfl, hb⟩; rw [H.out]; obtain ⟨hc, hf⟩ := bcell hb; have hB : Below w.heap.size w w1 := Below.trans (by go_grown) (hb.mono (by simp <;> omega)))
      go_ret
      exact ⟨ret_int E1.out, hB⟩
    · have E1 : Hid (-9223372036854775808 = endV (sg true N)) := by show _ = _; rw [E, if_pos]; unfold sg I64 at *; simp at *; omega
      clear c E
      go_enter Tryd.func38, Tryd.ntmps38
      go_wp2_with (go_at_call 50; refine (Narrow_any _ _ _ h).mono ?_; rintro e w1 ⟨rfl, hb⟩; rw [H.out]; obtain ⟨hc, hf⟩ := bcell hb; have hB : Below w.heap.size w w1 := Below.trans (by go_grown) (hb.mono (by simp <;> omega)))
      go_ret
      exact ⟨ret_int E1.out, hB⟩


end Go.Proofs.YtbnlmeegepgioaaDoor
