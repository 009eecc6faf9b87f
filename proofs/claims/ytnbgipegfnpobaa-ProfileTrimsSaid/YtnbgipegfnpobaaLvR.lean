/-
  What the laws of layer 5 call themselves: many, copied, spoilt.
-/
import Derived.Test.YtnbgipegfnpobaaLvQ
namespace Go.Proofs.Ytnbgipegfnpobaa
open Go Go.RowKit Go.Lib
set_option linter.unusedVariables false

theorem many_few (a a' : Option Addr) (n c n' c' : Nat) (w : World) (h : n ≤ 100) (h' : n' ≤ 100) :
    Calls Try.prog 11 #[.slice a n c, .slice a' n' c'] w fun e w' => e = .returned (.bool false) ∧ w' = w := by
  have t1 : decide ((n : Int) > 100) = false := decide_eq_false (by omega)
  have t1' : decide ((100 : Int) < n) = false := t1
  have t2 : decide ((n' : Int) > 100) = false := decide_eq_false (by omega)
  have t2' : decide ((100 : Int) < n') = false := t2
  go_enter Try.func11, Try.ntmps11
  go_wp2_with fail
  go_ret
  exact ⟨rfl, rfl⟩
theorem many_yes (a a' : Option Addr) (n c n' c' : Nat) (w : World) (h : 100 < n ∨ 100 < n') :
    Calls Try.prog 11 #[.slice a n c, .slice a' n' c'] w fun e w' => e = .returned (.bool true) ∧ w' = w := by
  by_cases h1 : 100 < n
  · have t1 : decide ((n : Int) > 100) = true := decide_eq_true (by omega)
    have t1' : decide ((100 : Int) < n) = true := t1
    clear h h1
    go_enter Try.func11, Try.ntmps11
    go_wp2_with fail
    go_ret
    exact ⟨rfl, rfl⟩
  · have t1 : decide ((n : Int) > 100) = false := decide_eq_false (by omega)
    have t1' : decide ((100 : Int) < n) = false := t1
    have t2 : decide ((n' : Int) > 100) = true := decide_eq_true (by omega)
    have t2' : decide ((100 : Int) < n') = true := t2
    clear h h1
    go_enter Try.func11, Try.ntmps11
    go_wp2_with fail
    go_ret
    exact ⟨rfl, rfl⟩

theorem copied_any (v : Value) (xs : List Lv) (w : World) (hn : xs.length ≤ 1048576) (h : LRow w v xs) :
    Calls Try.prog 13 #[v] w fun e w' => ∃ v', e = .returned v' ∧ LOwn w' w.heap.size v' xs ∧ Below w.heap.size w w' := by
  obtain ⟨i0, hi, hz0, hz1, hz2⟩ := info_parts Try.infoLv
  have S := Lib.hid (src_lv h)
  obtain ⟨a, c, rfl⟩ := LRow.slice h
  have H1 : Hid (∀ u ∈ flV xs, u.oneCell' = true) := flV_one xs
  clear h
  go_enter Try.func13, Try.ntmps13
  go_wp2_with (at_builtin; refine wpList_app rfl _ _ 22 rfl w.heap.size 49 i0 _ 2 16 Try.underlying22 hi hz0 hz1 hz2 rfl (by decide) (.slice none 0 0) 0 [] rfl (World.ownsRow_nil _ _ _ _) _ xs.length (flV xs) rfl S.out H1.out (by unfold maxLen; omega) (by omega) (Nat.le_refl _) ?_; intro v2 w2 ho2 hg2 hl2)
  go_wp2_with fail
  go_ret
  refine ⟨v2, rfl, ?_, (Below.refl _ w).grown hg2 (Nat.le_refl _) (fun k hk => by simp [Value.ownBlock] at hk)⟩
  rw [Nat.zero_add, List.nil_append] at ho2
  exact ho2

set_option maxHeartbeats 1000000 in
theorem spoilt_any (v : Value) (base : Nat) (xs : List Lv) (w : World) (hn : xs.length ≤ 1048576) (h : LOwn w base v xs) :
    Calls Try.prog 27 #[v] w fun e w' => e = .returned (.tuple #[]) ∧ Below base w w' := by
  rcases Nat.eq_zero_or_pos xs.length with h0 | h0
  · obtain ⟨a, c, rfl⟩ := LRow.slice (lrow_of_owns h)
    rw [h0]
    clear h h0
    go_enter Try.func27, Try.ntmps27
    go_wp2_with fail
    refine wp_loop_rounds 1 ?_
    rw [rounds_succ]
    go_wp2_with fail
    go_returns
    exact ⟨rfl, Below.refl _ _⟩
  · obtain ⟨_, ⟨rfl, hn0⟩ | ⟨g, cap, cur, rfl, hg, hcur, hcap, hmax, hsz, htk⟩⟩ := h
    · omega
    obtain ⟨n, hnn⟩ : ∃ n, n = xs.length := ⟨_, rfl⟩
    rw [← hnn] at hn hcap h0 ⊢
    have HB0 : Hid (Blk w g cur 49) := hcur
    clear hcur htk hnn
    go_enter Try.func27, Try.ntmps27
    go_wp2_with fail
    go_loopw [2] (fun i wr => ∃ j : Nat, j ≤ n ∧ i = .int .i64 j ∧ Hid (∃ cu : Array Value, Blk wr g cu 49 ∧ cu.size = cap * 2) ∧ Below base w wr) (fun i _ => n - (RowKit.intOf i).toNat)
    case atStart => exact ⟨0, Nat.zero_le _, rfl, ⟨cur, HB0.out, hsz⟩, Below.refl _ _⟩
    case round =>
      obtain ⟨j, hj, rfl, hcu, hB⟩ := hrel
      obtain ⟨cu, hb, hs⟩ := hcu.out
      have HB := Lib.hid hB
      clear hB hcu
      by_cases hlt : j < n
      · have hlti : (j : Int) < n := by omega
        have c0 : wr.cell? ⟨g, j * 2, none⟩ = some (cu[j * 2]'(by omega)) := by rw [hb.cell]; exact Array.getElem?_eq_getElem _
        have c1 : wr.cell? ⟨g, j * 2 + 1, none⟩ = some (cu[j * 2 + 1]'(by omega)) := by rw [hb.cell]; exact Array.getElem?_eq_getElem _
        have f0 := hb.free (j * 2)
        have f1 := hb.free (j * 2 + 1)
        have HK := Lib.hid ((hb.set (j * 2) (.int .i64 (-7))).set (j * 2 + 1) (.int .i64 (-7)))
        have HS : Hid (((cu.setIfInBounds (j * 2) (.int .i64 (-7))).setIfInBounds (j * 2 + 1) (.int .i64 (-7))).size = cap * 2) := by unfold Hid; simpa using hs
        generalize (cu[j * 2]'(by omega)) = q0 at c0
        generalize (cu[j * 2 + 1]'(by omega)) = q1 at c1
        clear hb hs
        go_wp2_with fail
        go_roundw
        case rel => exact ⟨j + 1, hlt, by go_num, ⟨_, HK.out, HS.out⟩, (HB.out.setCell hg _).setCell hg _⟩
        case measure => simp [RowKit.intOf]; omega
      · obtain rfl : j = n := by omega
        have hlt' : decide ((j : Int) < j) = false := decide_eq_false (by omega)
        clear hb hs
        go_wp2_with fail
        go_returns
        exact ⟨rfl, HB.out⟩
end Go.Proofs.Ytnbgipegfnpobaa
