/-
  indexes.run: at any numbers.
-/
import Derived.Test.YtdhkinknhjpjmaaDoorIxE
import Derived.Test.YtdhkinknhjpjmaaDoorIxK
import Derived.Test.YtdhkinknhjpjmaaDoorIxS
namespace Go.Proofs.YtdhkinknhjpjmaaDoor
open Go Go.RowKit Go.Lib
set_option linter.unusedVariables false

theorem ofN_get (l : List Nat) (j : Nat) : (ofN l).getD j 0 = ((l.getD j 0 : Nat) : Int) := by
  unfold ofN
  rw [List.getD_eq_getElem?_getD, List.getD_eq_getElem?_getD, List.getElem?_map]
  cases l[j]? <;> rfl
theorem getD_le {l : List Nat} {M : Nat} (h : ∀ x ∈ l, x ≤ M) (j : Nat) : l.getD j 0 ≤ M := by
  rw [List.getD_eq_getElem?_getD]
  cases hj : l[j]? with
  | none => exact Nat.zero_le _
  | some x => exact h x (List.mem_of_getElem? hj)
set_option maxHeartbeats 2000000 in
theorem run_any (b off c : Nat) (l : List Nat) (w : World) (hn : l.length ≤ 1048576) (h0 : 0 < l.length) (hle : ∀ x ∈ l, x ≤ 1000) (hc : ∀ j, j < l.length → w.cell? ⟨b, off + j, none⟩ = some (.int .i64 ((l.getD j 0 : Nat) : Int))) :
    Calls Tryd.prog 27 #[.slice (some ⟨b, off, none⟩) l.length c] w fun e w' => (∃ k : Nat, e = .returned (.int .i64 k) ∧ RunK l k) ∧ Below w.heap.size w w' := by
  have HC := Lib.hid hc
  have HLE : Hid (∀ j, l.getD j 0 ≤ 1000) := getD_le hle
  have hx0 := hc 0 h0
  rw [Nat.add_zero] at hx0
  have HX0 := Lib.hid hx0
  have HEND : Hid (∀ k, 0 < k → k ≤ l.length → (∀ j, j < k → l.getD j 0 = l.getD 0 0 + j) → (k < l.length → l.getD k 0 ≠ l.getD 0 0 + k) → RunK l k) := fun k h1 h2 h3 h4 => ⟨h1, h2, h3, h4⟩
  have hl0 := HLE.out 0
  clear hc hle hx0
  obtain ⟨a, ha⟩ : ∃ a, a = l.getD 0 0 := ⟨_, rfl⟩
  rw [← ha] at HX0 hl0
  go_enter Tryd.func27, Tryd.ntmps27
  go_wp2_with fail
  go_loopw [3] (fun i wr => ∃ (k : Nat), 0 < k ∧ k ≤ l.length ∧ i = .int .i64 k ∧ Hid (∀ j, j < k → l.getD j 0 = l.getD 0 0 + j) ∧ Below w.heap.size w wr)
    (fun i _ => l.length - (RowKit.intOf i).toNat)
  case atStart => exact ⟨1, by omega, h0, rfl, fun j hj => by rw [show j = 0 by omega]; rfl, Below.refl _ _⟩
  case round =>
    obtain ⟨k, hk0, hk, rfl, hok, hB⟩ := hrel
    have HB := Lib.hid hB
    have d0 := cell_next hB HX0.out
    have HEk := Lib.hid (HEND.out k hk0 hk hok.out)
    by_cases hlt : k < l.length
    · have hlt' : decide (k < l.length) = true := decide_eq_true hlt
      have hlti : decide ((k : Int) < l.length) = true := decide_eq_true (by omega)
      have hlt2 : (k : Int) < l.length := by omega
      have cx := cell_next hB (HC.out k hlt)
      have hxl := HLE.out k
      have HN : Hid (l.getD k 0 = a + k → ∀ j, j < k + 1 → l.getD j 0 = l.getD 0 0 + j) := fun h j hj => by
        rcases Nat.lt_or_ge j k with h1 | h1
        · exact hok.out j h1
        · rw [show j = k by omega, ← ha]; exact h
      have HE2 : Hid (l.getD k 0 ≠ a + k → RunK l k) := fun h => HEk.out fun _ => by rw [← ha]; exact h
      clear hB hok HEND HEk
      generalize l.getD k 0 = x at *
      by_cases o : x = a + k
      · have q : ((x : Int) == (a : Int) + k) = true := by rw [beq_iff_eq]; omega
        have qn : (x == a + k) = true := by rw [beq_iff_eq]; exact o
        have hn' := Lib.hid (HN.out o)
        clear HN HE2 o ha
        go_wp2_with fail
        go_region
        go_wp2_with fail
        go_roundw
        case rel => exact ⟨k + 1, by omega, hlt, by go_num, hn', below_drewN HB.out _⟩
        case measure => simp [RowKit.intOf]; omega
      · have q : ((x : Int) == (a : Int) + k) = false := by rw [beq_eq_false_iff_ne]; omega
        have qn : (x == a + k) = false := by rw [beq_eq_false_iff_ne]; exact o
        have hr := Lib.hid (HE2.out o)
        clear HN HE2 o ha
        go_wp2_with fail
        go_region
        go_wp2_with fail
        go_ret
        exact ⟨⟨k, rfl, hr.out⟩, below_drewN HB.out _⟩
    · obtain rfl : k = l.length := by omega
      have hlt' : decide (l.length < l.length) = false := decide_eq_false hlt
      have hlti : decide ((l.length : Int) < l.length) = false := decide_eq_false (by omega)
      have hr := Lib.hid (HEk.out fun h => absurd h hlt)
      clear HEND HEk hok hB ha
      go_wp2_with fail
      go_region
      go_wp2_with fail
      go_ret
      exact ⟨⟨l.length, rfl, hr.out⟩, below_drewN HB.out _⟩
end Go.Proofs.YtdhkinknhjpjmaaDoor
