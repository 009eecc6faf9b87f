/-
  gangerref04.Same: at any blocks.
-/
import Derived.Test.YtcdlfhheolbhaaaYdE
namespace Go.Proofs.Ytcdlfhheolbhaaa
open Go Go.RowKit Go.Lib
set_option linter.unusedVariables false

attribute [local go_sem ↓] blk_eql blk_neq blk_grd
theorem take_bk {xs : List Bk} {k : Nat} (h : k < xs.length) : xs.take (k + 1) = xs.take k ++ [xs[k]] := by rw [List.take_add_one, List.getElem?_eq_getElem h]; rfl
theorem sameB_row (b off c b' off' c' : Nat) (xs ys : List Bk) (w : World) (hn : xs.length ≤ 1048576) (hl : xs.length = ys.length) (hc : BCells w b off xs) (hc' : BCells w b' off' ys) :
    Calls Try.prog 20 #[.slice (some ⟨b, off, none⟩) xs.length c, .slice (some ⟨b', off', none⟩) xs.length c'] w
      fun e w' => e = .returned (.bool (decide (xs = ys))) ∧ Below w.heap.size w w' := by
  have HL := Lib.hid hl
  have HC := Lib.hid hc
  have HC' := Lib.hid hc'
  have t : (xs.length != xs.length) = false := by simp
  clear hc hc' hl
  go_enter Try.func20, Try.ntmps20
  go_wp2_with fail
  go_loopw [5] (fun i wr => ∃ k : Nat, k ≤ xs.length ∧ i = .int .i64 k ∧ Hid (xs.take k = ys.take k) ∧ Below w.heap.size w wr)
    (fun i _ => xs.length - (RowKit.intOf i).toNat)
  case atStart => exact ⟨0, Nat.zero_le _, rfl, by unfold Hid; simp, Below.refl _ _⟩
  case round =>
    obtain ⟨k, hk, rfl, HE, hB⟩ := hrel
    by_cases hlt : k < xs.length
    · have hlt' : decide (k < xs.length) = true := decide_eq_true hlt
      have hlt2 : (k : Int) < xs.length := by omega
      have hky : k < ys.length := by have := HL.out; omega
      obtain ⟨c0, c1⟩ := HC.out.at hB hlt
      obtain ⟨d0, d1⟩ := HC'.out.at hB hky
      have T1 := Lib.hid (take_bk hlt)
      have T2 := Lib.hid (take_bk hky)
      have G1 := Lib.hid (List.getElem?_eq_getElem hlt)
      have G2 := Lib.hid (List.getElem?_eq_getElem hky)
      have HB := Lib.hid hB
      clear hB
      obtain ⟨x, hx⟩ : ∃ x, x = xs[k] := ⟨_, rfl⟩
      obtain ⟨y, hy⟩ : ∃ y, y = ys[k] := ⟨_, rfl⟩
      rw [← hx] at c0 c1 T1 G1
      rw [← hy] at d0 d1 T2 G2
      clear hx hy
      obtain ⟨x1, x2⟩ := x
      obtain ⟨y1, y2⟩ := y
      dsimp only at c0 c1 d0 d1
      cases hq : beqB x1 x2 y1 y2
      · have HN : Hid (decide (xs = ys) = false) := by
          unfold Hid
          rw [decide_eq_false_iff_not]
          rintro rfl
          have e := G1.out.symm.trans G2.out
          rw [beqB_nat, decide_eq_false_iff_not] at hq
          have e2 := Option.some.inj e
          exact hq ⟨congrArg Prod.fst e2, congrArg Prod.snd e2⟩
        go_wp2_with fail
        go_region
        go_wp2_with fail
        go_ret
        exact ⟨by rw [HN.out]; rfl, below_drewN HB.out _⟩
      · have HN : Hid (xs.take (k + 1) = ys.take (k + 1)) := by
          have : (x1, x2) = (y1, y2) := by
            rw [beqB_nat, decide_eq_true_eq] at hq
            rw [hq.1, hq.2]
          unfold Hid
          rw [T1.out, T2.out, HE.out, this]
        go_wp2_with fail
        go_region
        go_wp2_with fail
        go_roundw
        case rel => exact ⟨k + 1, hlt, by go_num, HN, below_drewN HB.out _⟩
        case measure => simp [RowKit.intOf]; omega
    · obtain rfl : k = xs.length := by omega
      have hlt' : decide (xs.length < xs.length) = false := decide_eq_false hlt
      have HN : Hid (decide (xs = ys) = true) := by
        have := HE.out
        rw [List.take_length, List.take_of_length_le (by have := HL.out; omega)] at this
        exact decide_eq_true this
      go_wp2_with fail
      go_ret
      exact ⟨by rw [HN.out]; rfl, hB⟩
theorem sameB_len (a : Option Addr) (n c : Nat) (a' : Option Addr) (n' c' : Nat) (w : World) (h : n ≠ n') (hn : n ≤ 1048576) (hn' : n' ≤ 1048576) :
    Calls Try.prog 20 #[.slice a n c, .slice a' n' c'] w fun e w' => e = .returned (.bool false) ∧ Below w.heap.size w w' := by
  have t : ((n : Int) != n') = true := by rw [bne_iff_ne]; omega
  have t2 : (n != n') = true := by rw [bne_iff_ne]; omega
  go_enter Try.func20, Try.ntmps20
  go_wp2_with fail
  go_ret
  exact ⟨rfl, Below.refl _ _⟩
theorem sameB_nil (a : Option Addr) (c : Nat) (a' : Option Addr) (c' : Nat) (w : World) :
    Calls Try.prog 20 #[.slice a 0 c, .slice a' 0 c'] w fun e w' => e = .returned (.bool true) ∧ Below w.heap.size w w' := by
  go_enter Try.func20, Try.ntmps20
  go_wp2_with fail
  refine wp_loop_rounds 1 ?_
  rw [rounds_succ]
  go_wp2_with fail
  go_ret
  exact ⟨rfl, Below.refl _ _⟩
theorem sameB_any (v v' : Value) (xs ys : List Bk) (w : World) (hn : xs.length ≤ 1048576) (hn' : ys.length ≤ 1048576) (h : BRow w v xs) (h' : BRow w v' ys) :
    Calls Try.prog 20 #[v, v'] w fun e w' => e = .returned (.bool (decide (xs = ys))) ∧ Below w.heap.size w w' := by
  by_cases hl : xs.length = ys.length
  · rcases h with ⟨rfl, a, c, rfl, _⟩ | ⟨b, off, c, rfl, h0, _, _, hc⟩
    · obtain rfl : ys = [] := List.eq_nil_of_length_eq_zero (by simpa using hl.symm)
      obtain ⟨a', c', rfl⟩ := h'.slice
      exact sameB_nil a c a' c' w
    · rcases h' with ⟨rfl, _⟩ | ⟨b', off', c', rfl, _, _, _, hc'⟩
      · rw [List.length_nil] at hl; omega
      · rw [← hl]; exact sameB_row b off c b' off' c' xs ys w hn hl hc hc'
  · obtain ⟨a, c, rfl⟩ := h.slice
    obtain ⟨a', c', rfl⟩ := h'.slice
    rw [decide_eq_false fun e => hl (by rw [e])]
    exact sameB_len a _ c a' _ c' w hl hn hn'
end Go.Proofs.Ytcdlfhheolbhaaa
