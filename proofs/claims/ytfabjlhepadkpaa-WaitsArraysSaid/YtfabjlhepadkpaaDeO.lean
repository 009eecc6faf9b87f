/-
  gangerref08.of, gangerref08.How.
-/
import Derived.Test.YtfabjlhepadkpaaDeHXY
import Derived.Test.YtfabjlhepadkpaaDeKZ
namespace Go.Proofs.Ytfabjlhepadkpaa
open Go Go.RowKit Go.Lib
set_option linter.unusedVariables false

def tabR : Array Value := #[.int .i64 0, .int .i64 3, .int .i64 3, .int .i64 3, .int .i64 3, .int .i64 0, .int .i64 1, .int .i64 1, .int .i64 1, .int .i64 1, .int .i64 0, .int .i64 2, .int .i64 1, .int .i64 1, .int .i64 1, .int .i64 0, .int .i64 2, .int .i64 2, .int .i64 3, .int .i64 2, .int .i64 0, .int .i64 2, .int .i64 3, .int .i64 2, .int .i64 2]
theorem tabR_at {k h : Nat} (hk : 1 ≤ k ∧ k ≤ 4) (hh : h ≤ 4) : tabR[h * 5 + k]? = some (.int .i64 (ofT k h)) := by
  have k4 : k = 1 ∨ k = 2 ∨ k = 3 ∨ k = 4 := by omega
  have h5 : h = 0 ∨ h = 1 ∨ h = 2 ∨ h = 3 ∨ h = 4 := by omega
  rcases k4 with rfl | rfl | rfl | rfl <;> rcases h5 with rfl | rfl | rfl | rfl | rfl <;> rfl
set_option maxRecDepth 100000 in
set_option maxHeartbeats 4000000 in
theorem of_any (k h : Int) (w : World) (hk : 1 ≤ k ∧ k ≤ 4) (hh : 0 ≤ h ∧ h ≤ 4) :
    Calls Try.prog 42 #[.int .i64 k, .int .i64 h] w fun e w' => e = .returned (.int .i64 (ofT k h)) ∧ Below w.heap.size w w' := by
  obtain ⟨k, rfl⟩ := Int.eq_ofNat_of_zero_le (show 0 ≤ k by omega)
  obtain ⟨h, rfl⟩ := Int.eq_ofNat_of_zero_le hh.1
  have hk1 : (k : Int) < 5 := by omega
  have hh1 : (h : Int) < 5 := by omega
  have hk2 : k < 5 := by omega
  have hh2 : h < 5 := by omega
  obtain ⟨X, hX⟩ : ∃ X, X = w.alloc (.cells tabR 90) := ⟨_, rfl⟩
  have hb : Below w.heap.size w X := by rw [hX]; exact (Below.refl _ _).alloc (Nat.le_refl _) _
  have hB : Blk X w.heap.size tabR 90 := by rw [hX]; exact Blk.new w _ _
  have c0 : X.cell? ⟨w.heap.size, h * 5 + k, none⟩ = some (.int .i64 (ofT k h)) := (hB.cell _).trans (tabR_at (by omega) (by omega))
  have HB := Lib.hid hb
  generalize ofT k h = r at *
  clear hB hb hk hh
  unfold tabR at hX
  go_enter Try.func42, Try.ntmps42
  go_upto_region 7 with fail
  rw [← hX]
  clear hX
  go_wp2_with fail
  go_ret
  exact ⟨rfl, HB.out⟩
set_option maxRecDepth 100000 in
theorem rhow_any (v : Value) (l : List Wh) (j : Nat) (w : World) (h : RowG 2 whV w v l) (hn : l.length ≤ 1048576) :
    Calls Try.prog 43 #[v, .int .u32 (j : Nat)] w fun e w' => e = .returned (.int .i64 (howL l j)) ∧ w' = w := by
  obtain ⟨a, c, rfl⟩ := h.slice
  obtain ⟨r, hr⟩ : ∃ r, r = howL l j := ⟨_, rfl⟩
  have HR := Lib.hid hr
  rw [← hr]
  have H := Lib.hid h
  obtain ⟨N, hN⟩ : ∃ N, N = l.length := ⟨_, rfl⟩
  have HN := Lib.hid hN
  rw [← hN] at hn ⊢
  clear h hN hr
  go_enter Try.func43, Try.ntmps43
  go_wp2_with fail
  go_loopw [5] (fun iv wr => ∃ i : Nat, iv = .int .i64 i ∧ i ≤ N ∧ Hid (wr = w) ∧ Hid (∀ q (hq : q < l.length), q < i → l[q].1 ≠ j)) (fun iv _ => N - (RowKit.intOf iv).toNat)
  case atStart => exact ⟨0, rfl, Nat.zero_le _, rfl, fun q hq h => by omega⟩
  case round =>
    obtain ⟨i, rfl, hi, hw, HP⟩ := hrel
    obtain rfl := hw.out
    by_cases hlt : i < N
    · have d1 : decide (i < N) = true := decide_eq_true hlt
      have d2 : decide ((i : Int) < (N : Int)) = true := decide_eq_true (by omega)
      have hik : i < l.length := by rw [← HN.out]; exact hlt
      obtain ⟨bb, off, e, hc⟩ := RowG.at H.out hik
      subst e
      have x0 := hc wr (Below.refl _ _) 0 _ rfl
      have x1 := hc wr (Below.refl _ _) 1 _ rfl
      simp only [Nat.add_zero] at x0
      have HFD : Hid (l[i].1 = j → r = inR l[i].2) := fun e => by
        rw [HR.out]
        have hf : l.find? (fun p => p.1 == j) = some l[i] := by
          rw [List.find?_eq_some_iff_getElem]
          exact ⟨by simp [e], i, hik, rfl, fun q hq => by have := HP.out q (by omega) hq; simp [this]⟩
        unfold howL; rw [hf]
      have HNX : Hid (l[i].1 ≠ j → ∀ q (hq : q < l.length), q < i + 1 → l[q].1 ≠ j) := fun e q hq h2 => by
        by_cases e2 : q = i
        · subst e2; exact e
        · exact HP.out q hq (by omega)
      obtain ⟨p, hp⟩ : ∃ p, p = l[i] := ⟨_, rfl⟩
      rw [← hp] at x0 x1 HFD HNX
      obtain ⟨y, z⟩ := p
      dsimp only at x0 x1 HFD HNX
      have hii : (i : Int) < (N : Int) := by omega
      clear hc hp HP
      by_cases he : y = j
      · have HE := Lib.hid (HFD.out he)
        subst he
        by_cases z1 : 1 ≤ z
        · have g1 : decide (z ≥ 1) = true := decide_eq_true z1
          have g1' : decide (1 ≤ z) = true := decide_eq_true z1
          by_cases z4 : z ≤ 4
          · have g2 : decide (z ≤ 4) = true := decide_eq_true z4
            have HE2 : Hid (r = z) := by unfold Hid; rw [HE.out]; unfold inR; rw [if_pos ⟨z1, z4⟩]
            clear HFD HNX HE
            go_wp2_with fail
            go_ret
            exact ⟨by rw [HE2.out]; rfl, rfl⟩
          · have g2 : decide (z ≤ 4) = false := decide_eq_false z4
            have HE2 : Hid (r = 0) := by unfold Hid; rw [HE.out]; unfold inR; rw [if_neg (fun h => z4 h.2)]
            clear HFD HNX HE
            go_wp2_with fail
            go_ret
            exact ⟨by rw [HE2.out]; rfl, rfl⟩
        · have g1 : decide (z ≥ 1) = false := decide_eq_false z1
          have g1' : decide (1 ≤ z) = false := decide_eq_false z1
          have HE2 : Hid (r = 0) := by unfold Hid; rw [HE.out]; unfold inR; rw [if_neg (fun h => z1 h.1)]
          clear HFD HNX HE
          go_wp2_with fail
          go_ret
          exact ⟨by rw [HE2.out]; rfl, rfl⟩
      · have q1 : ((y : Int) == (j : Int)) = false := by simp; omega
        have q2 : (y == j) = false := by simp; exact he
        have HF := Lib.hid (HNX.out he)
        clear HFD HNX
        go_wp2_with fail
        go_roundw
        case rel => exact ⟨i + 1, by go_num, hlt, Lib.hid trivial, HF.out⟩
        case measure => simp [RowKit.intOf]; omega
    · have d1 : decide (i < N) = false := decide_eq_false hlt
      have d2 : decide ((i : Int) < (N : Int)) = false := decide_eq_false (by omega)
      have HE : Hid (r = 0) := by
        unfold Hid; rw [HR.out]
        have hf : l.find? (fun p => p.1 == j) = none := by
          rw [List.find?_eq_none]
          intro p hp
          obtain ⟨q, hq, rfl⟩ := List.getElem_of_mem hp
          have := HP.out q hq (by have := HN.out; omega)
          simpa using this
        unfold howL; rw [hf]
      go_wp2_with fail
      go_ret
      exact ⟨by rw [HE.out]; rfl, rfl⟩
end Go.Proofs.Ytfabjlhepadkpaa
