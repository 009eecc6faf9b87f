/-
  gangerref00.SameInts: at any numbers.
-/
import Derived.Test.YtbnlmeegepgioaaDoorGRw
import Derived.Test.YtbnlmeegepgioaaDoorProg
import Derived.WalkKit
import Derived.ProofKit
import Derived.Lib.Hide
import Derived.BigQuiet
namespace Go.Proofs.YtbnlmeegepgioaaDoor
open Go Go.RowKit Go.Lib
set_option linter.unusedVariables false

theorem take_in {xs : List Int} {k : Nat} (h : k < xs.length) : xs.take (k + 1) = xs.take k ++ [xs.getD k 0] := by rw [List.take_add_one, List.getD_eq_getElem?_getD, List.getElem?_eq_getElem h]; rfl
theorem get_in {xs : List Int} {k : Nat} (h : k < xs.length) : xs[k]? = some (xs.getD k 0) := by rw [List.getD_eq_getElem?_getD, List.getElem?_eq_getElem h]; rfl
theorem sameN_row (b off c b' off' c' : Nat) (xs ys : List Int) (w : World) (hn : xs.length ≤ 1048576) (hl : xs.length = ys.length) (hc : ∀ j, j < xs.length → w.cell? ⟨b, off + j, none⟩ = some (.int .i64 (xs.getD j 0))) (hc' : ∀ j, j < ys.length → w.cell? ⟨b', off' + j, none⟩ = some (.int .i64 (ys.getD j 0))) :
    Calls Tryd.prog 15 #[.slice (some ⟨b, off, none⟩) xs.length c, .slice (some ⟨b', off', none⟩) xs.length c'] w
      fun e w' => e = .returned (.bool (decide (xs = ys))) ∧ Below w.heap.size w w' := by
  have HL := Lib.hid hl
  have HC := Lib.hid hc
  have HC' := Lib.hid hc'
  have t : (xs.length != xs.length) = false := by simp
  clear hc hc' hl
  go_enter Tryd.func15, Tryd.ntmps15
  go_wp2_with fail
  go_loopw [5] (fun i wr => ∃ k : Nat, k ≤ xs.length ∧ i = .int .i64 k ∧ Hid (xs.take k = ys.take k) ∧ Below w.heap.size w wr)
    (fun i _ => xs.length - (RowKit.intOf i).toNat)
  case atStart => exact ⟨0, Nat.zero_le _, rfl, by unfold Hid; simp, Below.refl _ _⟩
  case round =>
    obtain ⟨k, hk, rfl, HE, hB⟩ := hrel
    by_cases hlt : k < xs.length
    · have hlt' : decide (k < xs.length) = true := decide_eq_true hlt
      have hlt2 : (k : Int) < xs.length := by omega
      have hky : k < ys.length := by have := HL.out; omega
      have c0 := cell_next hB (HC.out k hlt)
      have d0 := cell_next hB (HC'.out k hky)
      have T1 := Lib.hid (take_in hlt)
      have T2 := Lib.hid (take_in hky)
      have G1 := Lib.hid (get_in hlt)
      have G2 := Lib.hid (get_in hky)
      have HB := Lib.hid hB
      clear hB
      obtain ⟨x, hx⟩ : ∃ x, x = xs.getD k 0 := ⟨_, rfl⟩
      obtain ⟨y, hy⟩ : ∃ y, y = ys.getD k 0 := ⟨_, rfl⟩
      rw [← hx] at c0 T1 G1
      rw [← hy] at d0 T2 G2
      clear hx hy
      cases hq : (x != y)
      · have hxy : x = y := by simpa using hq
        have HN : Hid (xs.take (k + 1) = ys.take (k + 1)) := by
          unfold Hid
          rw [T1.out, T2.out, HE.out, hxy]
        clear hxy
        go_wp2_with fail
        first | go_region | skip
        go_wp2_with fail
        go_roundw
        case rel => exact ⟨k + 1, hlt, by go_num, HN, by first | exact HB.out | exact below_drewN HB.out _ | exact HB.out.drew⟩
        case measure => simp [RowKit.intOf]; omega
      · have HN : Hid (decide (xs = ys) = false) := by
          unfold Hid
          rw [decide_eq_false_iff_not]
          rintro rfl
          have e := Option.some.inj (G1.out.symm.trans G2.out)
          rw [e] at hq; simp at hq
        go_wp2_with fail
        first | go_region | skip
        go_wp2_with fail
        go_ret
        exact ⟨by rw [HN.out]; rfl, by first | exact HB.out | exact below_drewN HB.out _ | exact HB.out.drew⟩
    · obtain rfl : k = xs.length := by omega
      have hlt' : decide (xs.length < xs.length) = false := decide_eq_false hlt
      have HN : Hid (decide (xs = ys) = true) := by
        have := HE.out
        rw [List.take_length, List.take_of_length_le (by have := HL.out; omega)] at this
        exact decide_eq_true this
      go_wp2_with fail
      go_ret
      exact ⟨by rw [HN.out]; rfl, hB⟩
theorem sameN_len (a : Option Addr) (n c : Nat) (a' : Option Addr) (n' c' : Nat) (w : World) (h : n ≠ n') (hn : n ≤ 1048576) (hn' : n' ≤ 1048576) :
    Calls Tryd.prog 15 #[.slice a n c, .slice a' n' c'] w fun e w' => e = .returned (.bool false) ∧ Below w.heap.size w w' := by
  have t : ((n : Int) != n') = true := by rw [bne_iff_ne]; omega
  have t2 : (n != n') = true := by rw [bne_iff_ne]; omega
  go_enter Tryd.func15, Tryd.ntmps15
  go_wp2_with fail
  go_ret
  exact ⟨rfl, Below.refl _ _⟩
theorem sameN_nil (a : Option Addr) (c : Nat) (a' : Option Addr) (c' : Nat) (w : World) :
    Calls Tryd.prog 15 #[.slice a 0 c, .slice a' 0 c'] w fun e w' => e = .returned (.bool true) ∧ Below w.heap.size w w' := by
  go_enter Tryd.func15, Tryd.ntmps15
  go_wp2_with fail
  refine wp_loop_rounds 1 ?_
  rw [rounds_succ]
  go_wp2_with fail
  go_ret
  exact ⟨rfl, Below.refl _ _⟩
theorem sameN_any (v v' : Value) (xs ys : List Int) (w : World) (hn : xs.length ≤ 1048576) (hn' : ys.length ≤ 1048576) (h : GRow w v xs) (h' : GRow w v' ys) :
    Calls Tryd.prog 15 #[v, v'] w fun e w' => e = .returned (.bool (decide (xs = ys))) ∧ Below w.heap.size w w' := by
  by_cases hl : xs.length = ys.length
  · rcases h with ⟨rfl, a, c, rfl⟩ | ⟨b, off, c, rfl, hc⟩
    · obtain rfl : ys = [] := List.eq_nil_of_length_eq_zero (by simpa using hl.symm)
      obtain ⟨a', c', rfl⟩ := h'.slice
      exact sameN_nil a c a' c' w
    · rcases h' with ⟨rfl, a', c', rfl⟩ | ⟨b', off', c', rfl, hc'⟩
      · have hx : xs = [] := List.eq_nil_of_length_eq_zero (by simpa using hl)
        subst hx
        exact sameN_nil _ c a' c' w
      · rw [← hl]; exact sameN_row b off c b' off' c' xs ys w hn hl hc hc'
  · obtain ⟨a, c, rfl⟩ := h.slice
    obtain ⟨a', c', rfl⟩ := h'.slice
    rw [decide_eq_false fun e => hl (by rw [e])]
    exact sameN_len a _ c a' _ c' w hl hn hn'
end Go.Proofs.YtbnlmeegepgioaaDoor
