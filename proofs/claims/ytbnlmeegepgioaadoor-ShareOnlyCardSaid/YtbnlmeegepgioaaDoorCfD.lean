/-
  conf.weightsOf, areWeights, Check: at any configuration.
-/
import Derived.Test.YtbnlmeegepgioaaDoorCfC
import Derived.Test.YtbnlmeegepgioaaDoorIdx
namespace Go.Proofs.YtbnlmeegepgioaaDoor
open Go Go.RowKit Go.Lib
set_option linter.unusedVariables false

def wtV (f a s q p : Int) : Value := .agg #[.int .i64 f, .int .i64 a, .int .i64 s, .int .i64 q, .int .i64 p]
theorem weightsOf_any (f a s q p : Int) (w : World) : Calls Tryd.prog 62 #[wtV f a s q p] w fun e w' => e = .returned (wtV f a s q p) ∧ Below w.heap.size w w' := by
  unfold wtV
  go_enter Tryd.func62, Tryd.ntmps62
  go_wp2_with fail
  go_returns
  exact ⟨rfl, by go_grown⟩
set_option maxHeartbeats 2000000 in
theorem areWeights_any (f a s q p : Int) (w : World) : Calls Tryd.prog 55 #[wtV f a s q p] w fun e w' => BoolPost (wtsOk [f, a, s, q, p] = true) w e w' := by
  have WI : Hid (∀ n lo hi w, Calls Tryd.prog 54 #[.int .i64 n, .int .i64 lo, .int .i64 hi] w fun e w' => e = .returned (.bool (inR n lo hi)) ∧ w' = w) := within_any
  obtain ⟨w0, hw0⟩ : ∃ w0, w0 = w.alloc (.cells #[.int .i64 f, .int .i64 a, .int .i64 s, .int .i64 q, .int .i64 p] 61) := ⟨_, rfl⟩
  have hb0 : Below w.heap.size w w0 := by rw [hw0]; exact (Below.refl _ _).alloc (Nat.le_refl _) _
  have HB0 := Lib.hid hb0
  have WO := Lib.hid (weightsOf_any f a s q p w0)
  unfold wtV at WO ⊢
  obtain ⟨L, hL⟩ : ∃ L : List Int, L = [f, a, s, q, p] := ⟨_, rfl⟩
  have HL := Lib.hid hL
  rw [← hL]
  have HAT : Hid (∀ k, k < 5 → (#[Value.int .i64 f, .int .i64 a, .int .i64 s, .int .i64 q, .int .i64 p] : Array Value)[k]? = some (.int .i64 (L.getD k 0)) ∧ L[k]? = some (L.getD k 0)) := fun k hk => by
    rw [hL]
    rcases (by omega : k = 0 ∨ k = 1 ∨ k = 2 ∨ k = 3 ∨ k = 4) with rfl | rfl | rfl | rfl | rfl <;> exact ⟨rfl, rfl⟩
  have HLL : Hid (L.length = 5) := by unfold Hid; rw [hL]; rfl
  clear hL hb0
  obtain ⟨C, hC⟩ : ∃ C : Array Value, C = #[Value.int .i64 f, .int .i64 a, .int .i64 s, .int .i64 q, .int .i64 p] := ⟨_, rfl⟩
  go_enter Tryd.func55, Tryd.ntmps55
  go_wp2_with fail
  rw [← hw0]
  clear hw0
  refine WO.out.mono ?_; rintro e w1 ⟨rfl, b1⟩
  rw [← hC] at HAT ⊢
  have HB1 := Lib.hid (HB0.out.trans (b1.mono HB0.out.size))
  clear b1 WO hC
  go_wp2_with fail
  go_loop [7] (fun i => ∃ k : Nat, k ≤ 5 ∧ i = .int .i64 k ∧ Hid (wtsOk (L.take k) = true)) (fun i => 5 - (RowKit.intOf i).toNat)
  case atStart => exact ⟨0, by omega, rfl, rfl⟩
  case round =>
    obtain ⟨k, hk, rfl, HK⟩ := hrel
    by_cases hlt : k < 5
    · have hd : decide ((k : Int) < 5) = true := decide_eq_true (by omega)
      have hki : (k : Int) < 5 := by omega
      obtain ⟨hc, hl⟩ := HAT.out k hlt
      have hix : (Instr.index 95 (.agg C) (.int .i64 (k : Nat))).run Tryd.prog w1 = .ok (.int .i64 (L.getD k 0)) w1 := run_index_arr Tryd.underlying95 hlt (Tryd.isAgg3 w1) (Tryd.sizeOf3 w1) hc
      obtain ⟨x, hx⟩ : ∃ x, x = L.getD k 0 := ⟨_, rfl⟩
      rw [← hx] at hix hl
      have htk : L.take (k + 1) = L.take k ++ [x] := by rw [List.take_add_one, hl]; rfl
      have HTK := Lib.hid htk
      obtain ⟨r, hr⟩ : ∃ r, r = inR x 0 1048576 := ⟨_, rfl⟩
      have HR := Lib.hid hr
      have HXM : Hid (x ∈ L) := List.mem_of_getElem? hl
      clear hc hl hx htk hr
      go_wp2_with fail
      refine (WI.out _ _ _ _).mono ?_; rintro e w2 ⟨rfl, hw⟩; replace hw := hw.symm; subst hw
      rw [← HR.out]
      cases r with
      | false =>
        have HNO : Hid (¬ wtsOk L = true) := fun h => by
          unfold wtsOk at h
          have := List.all_eq_true.1 h x HXM.out
          rw [← HR.out] at this; cases this
        go_wp2_with fail
        go_ret
        exact ⟨false, rfl, ⟨fun h => (by cases h), fun h => absurd h HNO.out⟩, HB1.out⟩
      | true =>
        have HN : Hid (wtsOk (L.take (k + 1)) = true) := by
          unfold Hid; rw [HTK.out]
          have h1 := HK.out
          unfold wtsOk at h1 ⊢
          rw [List.all_append, h1]
          simp [← HR.out]
        go_wp2_with fail
        go_round
        case rel => exact ⟨k + 1, hlt, by go_num, HN⟩
        case measure => simp [RowKit.intOf]; omega
    · have hd : decide ((k : Int) < 5) = false := decide_eq_false (by omega)
      have hki : ¬ (k : Int) < 5 := by omega
      have HN : Hid (wtsOk L = true) := by
        have := HK.out
        rw [List.take_of_length_le (by rw [HLL.out]; omega)] at this
        exact this
      clear hlt hk
      go_wp2_with fail
      go_ret
      exact ⟨true, rfl, ⟨fun _ => HN.out, fun _ => rfl⟩, HB1.out⟩
end Go.Proofs.YtbnlmeegepgioaaDoor
