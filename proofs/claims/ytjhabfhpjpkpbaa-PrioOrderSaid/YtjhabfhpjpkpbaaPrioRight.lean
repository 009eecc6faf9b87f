/-
  Contracts of gangerref12.right and gangerref12.Prio.
-/
import Derived.Test.YtjhabfhpjpkpbaaPrioKnown
import Derived.Deep.RegionHeld3
namespace Go.Proofs.Ytjhabfhpjpkpbaa
open Go.ChangeShapes Go.WideShapes Go.ChangeAt Go.RowKit
set_option linter.unusedVariables false

def okProp (f a s q p id since nice factor now all : Int) : Prop := 0 ≤ f ∧ f ≤ 1048576 ∧ 0 ≤ a ∧ a ≤ 1048576 ∧ 0 ≤ s ∧ s ≤ 1048576 ∧ 0 ≤ q ∧ q ≤ 1048576 ∧ 0 ≤ p ∧ p ≤ 1048576 ∧ 0 < id ∧ 0 ≤ factor ∧ factor ≤ 65536 ∧ -10000 ≤ nice ∧ nice ≤ 10000 ∧ 0 ≤ since ∧ 0 ≤ now ∧ now ≤ 1099511627776 ∧ 1 ≤ all ∧ all ≤ 1048576
theorem prOk_yes {f a s q p id since nice factor now all : Int} (h : okProp f a s q p id since nice factor now all) : prOk f a s q p id since nice factor now all = true := by
  unfold okProp at h
  simp [prOk, inB]
  omega
theorem prOk_no {f a s q p id since nice factor now all : Int} (h0 : 0 ≤ id) (h : ¬ okProp f a s q p id since nice factor now all) : prOk f a s q p id since nice factor now all = false := by
  cases hb : prOk f a s q p id since nice factor now all
  · rfl
  · exfalso
    apply h
    unfold okProp
    simp [prOk, inB] at hb
    omega

set_option maxRecDepth 100000 in
set_option maxHeartbeats 4000000 in
theorem right_any (f a s q p id since size nice qos part factor now all : Int) (w : World) (hid : 0 ≤ id) :
    Calls Try.prog 27 #[.agg #[.int .i64 f, .int .i64 a, .int .i64 s, .int .i64 q, .int .i64 p], .agg #[.int .u32 id, .int .i64 since, .int .i64 size, .int .i64 nice, .int .i64 qos, .int .i64 part, .int .i64 factor], .int .i64 now, .int .i64 all] w
      fun e w' => e = .returned (.bool (prOk f a s q p id since nice factor now all)) ∧ Below w.heap.size w w' := by
  have N : Hid (¬ okProp f a s q p id since nice factor now all → prOk f a s q p id since nice factor now all = false) := prOk_no hid
  have Y : Hid (okProp f a s q p id since nice factor now all → prOk f a s q p id since nice factor now all = true) := prOk_yes
  generalize prOk f a s q p id since nice factor now all = r at *
  clear hid
  go_enter Try.func27, Try.ntmps27
  go_wp2_with fail
  refine wp_loop_rounds 6 ?_
  rw [rounds_succ]
  by_cases nf : f < 0
  · have d := decide_eq_true nf
    go_wp2_with fail
    go_ret
    exact ⟨ret_bool (N.out (by unfold okProp; omega)).symm, by repeat (first | exact Below.refl _ _ | refine below_al ?_ _)⟩
  have df := decide_eq_false nf
  by_cases mf : 1048576 < f
  · have d := decide_eq_true mf
    go_wp2_with fail
    go_ret
    exact ⟨ret_bool (N.out (by unfold okProp; omega)).symm, by repeat (first | exact Below.refl _ _ | refine below_al ?_ _)⟩
  have ef := decide_eq_false mf
  go_wp2_with fail
  rw [rounds_succ]
  by_cases na : a < 0
  · have d := decide_eq_true na
    go_wp2_with fail
    go_ret
    exact ⟨ret_bool (N.out (by unfold okProp; omega)).symm, by repeat (first | exact Below.refl _ _ | refine below_al ?_ _)⟩
  have da := decide_eq_false na
  by_cases ma : 1048576 < a
  · have d := decide_eq_true ma
    go_wp2_with fail
    go_ret
    exact ⟨ret_bool (N.out (by unfold okProp; omega)).symm, by repeat (first | exact Below.refl _ _ | refine below_al ?_ _)⟩
  have ea := decide_eq_false ma
  go_wp2_with fail
  rw [rounds_succ]
  by_cases ns : s < 0
  · have d := decide_eq_true ns
    go_wp2_with fail
    go_ret
    exact ⟨ret_bool (N.out (by unfold okProp; omega)).symm, by repeat (first | exact Below.refl _ _ | refine below_al ?_ _)⟩
  have ds := decide_eq_false ns
  by_cases ms : 1048576 < s
  · have d := decide_eq_true ms
    go_wp2_with fail
    go_ret
    exact ⟨ret_bool (N.out (by unfold okProp; omega)).symm, by repeat (first | exact Below.refl _ _ | refine below_al ?_ _)⟩
  have es := decide_eq_false ms
  go_wp2_with fail
  rw [rounds_succ]
  by_cases nq : q < 0
  · have d := decide_eq_true nq
    go_wp2_with fail
    go_ret
    exact ⟨ret_bool (N.out (by unfold okProp; omega)).symm, by repeat (first | exact Below.refl _ _ | refine below_al ?_ _)⟩
  have dq := decide_eq_false nq
  by_cases mq : 1048576 < q
  · have d := decide_eq_true mq
    go_wp2_with fail
    go_ret
    exact ⟨ret_bool (N.out (by unfold okProp; omega)).symm, by repeat (first | exact Below.refl _ _ | refine below_al ?_ _)⟩
  have eq := decide_eq_false mq
  go_wp2_with fail
  rw [rounds_succ]
  by_cases np : p < 0
  · have d := decide_eq_true np
    go_wp2_with fail
    go_ret
    exact ⟨ret_bool (N.out (by unfold okProp; omega)).symm, by repeat (first | exact Below.refl _ _ | refine below_al ?_ _)⟩
  have dp := decide_eq_false np
  by_cases mp : 1048576 < p
  · have d := decide_eq_true mp
    go_wp2_with fail
    go_ret
    exact ⟨ret_bool (N.out (by unfold okProp; omega)).symm, by repeat (first | exact Below.refl _ _ | refine below_al ?_ _)⟩
  have ep := decide_eq_false mp
  go_wp2_with fail
  rw [rounds_succ]
  by_cases k0 : 0 < id
  rotate_left
  · have d := decide_eq_false k0
    go_wp2_with fail
    go_ret
    exact ⟨ret_bool (N.out (by unfold okProp; omega)).symm, by repeat (first | exact Below.refl _ _ | refine below_al ?_ _)⟩
  have l0 := decide_eq_true k0
  by_cases k1 : 0 ≤ factor
  rotate_left
  · have d := decide_eq_false k1
    go_wp2_with fail
    go_ret
    exact ⟨ret_bool (N.out (by unfold okProp; omega)).symm, by repeat (first | exact Below.refl _ _ | refine below_al ?_ _)⟩
  have l1 := decide_eq_true k1
  by_cases k2 : factor ≤ 65536
  rotate_left
  · have d := decide_eq_false k2
    go_wp2_with fail
    go_ret
    exact ⟨ret_bool (N.out (by unfold okProp; omega)).symm, by repeat (first | exact Below.refl _ _ | refine below_al ?_ _)⟩
  have l2 := decide_eq_true k2
  by_cases k3 : -10000 ≤ nice
  rotate_left
  · have d := decide_eq_false k3
    go_wp2_with fail
    go_ret
    exact ⟨ret_bool (N.out (by unfold okProp; omega)).symm, by repeat (first | exact Below.refl _ _ | refine below_al ?_ _)⟩
  have l3 := decide_eq_true k3
  by_cases k4 : nice ≤ 10000
  rotate_left
  · have d := decide_eq_false k4
    go_wp2_with fail
    go_ret
    exact ⟨ret_bool (N.out (by unfold okProp; omega)).symm, by repeat (first | exact Below.refl _ _ | refine below_al ?_ _)⟩
  have l4 := decide_eq_true k4
  by_cases k5 : 0 ≤ since
  rotate_left
  · have d := decide_eq_false k5
    go_wp2_with fail
    go_ret
    exact ⟨ret_bool (N.out (by unfold okProp; omega)).symm, by repeat (first | exact Below.refl _ _ | refine below_al ?_ _)⟩
  have l5 := decide_eq_true k5
  by_cases k6 : 0 ≤ now
  rotate_left
  · have d := decide_eq_false k6
    go_wp2_with fail
    go_ret
    exact ⟨ret_bool (N.out (by unfold okProp; omega)).symm, by repeat (first | exact Below.refl _ _ | refine below_al ?_ _)⟩
  have l6 := decide_eq_true k6
  by_cases k7 : now ≤ 1099511627776
  rotate_left
  · have d := decide_eq_false k7
    go_wp2_with fail
    go_ret
    exact ⟨ret_bool (N.out (by unfold okProp; omega)).symm, by repeat (first | exact Below.refl _ _ | refine below_al ?_ _)⟩
  have l7 := decide_eq_true k7
  by_cases k8 : 1 ≤ all
  rotate_left
  · have d := decide_eq_false k8
    go_wp2_with fail
    go_ret
    exact ⟨ret_bool (N.out (by unfold okProp; omega)).symm, by repeat (first | exact Below.refl _ _ | refine below_al ?_ _)⟩
  have l8 := decide_eq_true k8
  by_cases k9 : all ≤ 1048576
  rotate_left
  · have d := decide_eq_false k9
    go_wp2_with fail
    go_ret
    exact ⟨ret_bool (N.out (by unfold okProp; omega)).symm, by repeat (first | exact Below.refl _ _ | refine below_al ?_ _)⟩
  have l9 := decide_eq_true k9
  go_wp2_with fail
  go_ret
  exact ⟨ret_bool (Y.out (by unfold okProp; omega)).symm, by repeat (first | exact Below.refl _ _ | refine below_al ?_ _)⟩

end Go.Proofs.Ytjhabfhpjpkpbaa
