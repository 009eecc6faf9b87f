/-
  Jobs alike (gangerref08.SameJobs).
-/
import Derived.Test.YtfabjlhepadkpaaSuA
import Derived.Handy
namespace Go.Proofs.Ytfabjlhepadkpaa
set_option linter.unusedVariables false

section
open Go Go.RowKit Go.Lib
theorem urow_cell {w : World} {bb off n c : Nat} {l : List Nat} (h : URow w (.slice (some ⟨bb, off, none⟩) n c) l) {k : Nat} (hk : k < l.length) {w' : World} (hb : Below w.heap.size w w') :
    w'.cell? ⟨bb, off + k, none⟩ = some (.int .u32 (l[k] : Nat)) := by
  obtain ⟨b', off', e, hc⟩ := h.at hk
  injection e with e; injection e with e1 e2; subst e1; subst e2
  have := hc w' hb 0 _ rfl
  rwa [Nat.mul_one] at this
theorem urow_none {w : World} {n c : Nat} {l : List Nat} (h : URow w (.slice none n c) l) : l = [] := by
  rcases h with ⟨rfl, _⟩ | ⟨b, off, c', h1, _⟩
  · rfl
  · cases h1
theorem urow_some {w : World} {n c : Nat} {A : Addr} {l : List Nat} (h : URow w (.slice (some A) n c) l) (hk : 0 < l.length) : ∃ bb off, A = ⟨bb, off, none⟩ := by
  obtain ⟨b, off, e, _⟩ := h.at hk
  exact ⟨b, off, by injection e⟩
set_option maxRecDepth 100000 in
set_option maxHeartbeats 4000000 in
theorem samejobs_any (va vb : Value) (xs ys : List Nat) (w : World) (h1 : URow w va xs) (h2 : URow w vb ys) (hn : xs.length ≤ 1048576) (hm : ys.length ≤ 1048576) :
    Calls Try.prog 24 #[va, vb] w fun e w' => e = .returned (.bool (decide (xs = ys))) ∧ Below w.heap.size w w' := by
  have H1 := Lib.hid h1
  have H2 := Lib.hid h2
  obtain ⟨aa, ac, rfl⟩ := h1.slice
  obtain ⟨ba, bc, rfl⟩ := h2.slice
  clear h1 h2
  by_cases hl : xs.length = ys.length
  · obtain ⟨L, hL⟩ : ∃ n, n = xs.length := ⟨_, rfl⟩
    rw [← hl] at H2 hm ⊢
    rw [← hL] at H1 H2 hn hm ⊢
    have HL := Lib.hid hL
    have HL2 : Hid (L = ys.length) := hL.trans hl
    have hq : ((L : Int) != (L : Int)) = false := by simp
    clear hL hl
    go_enter Try.func24, Try.ntmps24
    go_wp2_with fail
    go_loopw [5] (fun iv wr => ∃ k : Nat, k ≤ L ∧ iv = .int .i64 k ∧ Hid (∀ i (h : i < xs.length) (h' : i < ys.length), i < k → xs[i] = ys[i]) ∧ Hid (Below w.heap.size w wr)) (fun iv _ => L - (RowKit.intOf iv).toNat)
    case atStart => exact ⟨0, Nat.zero_le _, rfl, fun i _ _ h => absurd h (Nat.not_lt_zero _), Below.refl _ _⟩
    case round =>
      obtain ⟨k, hk, rfl, HN, HB⟩ := hrel
      by_cases hlt : k < L
      · have hd : decide (k < L) = true := decide_eq_true hlt
        have hki : (k : Int) < (L : Int) := by omega
        have hkx : k < xs.length := by rw [← HL.out]; exact hlt
        have hky : k < ys.length := by rw [← HL2.out]; exact hlt
        cases aa with
        | none => have := urow_none H1.out; rw [this] at hkx; simp at hkx
        | some A =>
        cases ba with
        | none => have := urow_none H2.out; rw [this] at hky; simp at hky
        | some B =>
        obtain ⟨b1, o1, rfl⟩ := urow_some H1.out (by omega)
        obtain ⟨b2, o2, rfl⟩ := urow_some H2.out (by omega)
        have c0 := urow_cell H1.out hkx HB.out
        have e0 := urow_cell H2.out hky HB.out
        have HNE : Hid (¬ xs[k] = ys[k] → decide (xs = ys) = false) := fun h => decide_eq_false fun e => h (by subst e; rfl)
        have HNX : Hid (xs[k] = ys[k] → ∀ i (h : i < xs.length) (h' : i < ys.length), i < k + 1 → xs[i] = ys[i]) := fun h i hi hi' hi2 => by
          rcases Nat.lt_or_ge i k with h1 | h1
          · exact HN.out i hi hi' h1
          · obtain rfl : i = k := by omega
            exact h
        obtain ⟨x, hx⟩ : ∃ x, x = xs[k] := ⟨_, rfl⟩
        obtain ⟨y, hy⟩ : ∃ y, y = ys[k] := ⟨_, rfl⟩
        rw [← hx] at c0 HNE HNX
        rw [← hy] at e0 HNE HNX
        clear hx hy HN hkx hky
        by_cases hxy : x = y
        · have HNY := Lib.hid (HNX.out hxy)
          have hq2 : ((x : Int) != (y : Int)) = false := by simp; omega
          have hq3 : (x != y) = false := by simp; omega
          clear HNX HNE hxy
          go_wp2_with fail
          go_region
          all_goals go_wp2_with fail
          all_goals go_roundw
          case rel => exact ⟨k + 1, hlt, by go_num, HNY, below_drewN HB.out _⟩
          case measure => simp [RowKit.intOf]; omega
        · have HNY := Lib.hid (HNE.out hxy)
          have hq2 : ((x : Int) != (y : Int)) = true := by simp; omega
          have hq3 : (x != y) = true := by simp; omega
          clear HNX HNE hxy
          go_wp2_with fail
          go_region
          all_goals go_wp2_with fail
          all_goals go_ret
          exact ⟨by (rw [HNY.out]; rfl), below_drewN HB.out _⟩
      · have hd : decide (k < L) = false := decide_eq_false hlt
        have hki : ¬ (k : Int) < (L : Int) := by omega
        have HY : Hid (decide (xs = ys) = true) := decide_eq_true (List.ext_getElem (by rw [← HL.out]; exact HL2.out) fun i h1 h2 => HN.out i h1 h2 (by have := HL.out; omega))
        go_wp2_with fail
        go_ret
        exact ⟨by (rw [HY.out]; rfl), HB.out⟩
  · have hq : ((xs.length : Int) != (ys.length : Int)) = true := by simp; omega
    have HY : Hid (decide (xs = ys) = false) := decide_eq_false fun e => hl (by rw [e])
    generalize xs.length = LX at *
    generalize ys.length = LY at *
    go_enter Try.func24, Try.ntmps24
    go_wp2_with fail
    go_ret
    exact ⟨by (rw [HY.out]; rfl), Below.refl _ _⟩
end
end Go.Proofs.Ytfabjlhepadkpaa
