/-
  Jobs alike (gangerref08.SameJobs), cells alike, gangerref16.Same.
-/
import Derived.Test.YtfobapnncjjeiaaGaA
import Derived.Test.YtfobapnncjjeiaaGaR
import Derived.Laws.StructEq
namespace Go.Proofs.Ytfobapnncjjeiaa
set_option linter.unusedVariables false

section
open Go Go.RowKit Go.Lib
theorem urow_cell {w : World} {bb off n c : Nat} {l : List Nat} (h : URow w (.slice (some ⟨bb, off, none⟩) n c) l) {k : Nat} (hk : k < l.length) {w' : World} (hb : Below w.heap.size w w') :
    w'.cell? ⟨bb, off + k, none⟩ = some (.int .u32 (l[k] : Nat)) := by
  obtain ⟨b', off', e, hc⟩ := h.at hk
  injection e with e; injection e with e1 e2; subst e1; subst e2
  have := hc w' hb 0 _ rfl
  rwa [Nat.mul_one] at this
theorem urow_none {w : World} {n c : Nat} {l : List Nat} (h : URow w (.slice none n c) l) : l = [] := by
  rcases h with ⟨rfl, _⟩ | ⟨b, off, c', h1, _⟩
  · rfl
  · cases h1
theorem urow_some {w : World} {n c : Nat} {A : Addr} {l : List Nat} (h : URow w (.slice (some A) n c) l) (hk : 0 < l.length) : ∃ bb off, A = ⟨bb, off, none⟩ := by
  obtain ⟨b, off, e, _⟩ := h.at hk
  exact ⟨b, off, by injection e⟩
set_option maxRecDepth 100000 in
set_option maxHeartbeats 4000000 in
theorem samejobs_any (va vb : Value) (xs ys : List Nat) (w : World) (h1 : URow w va xs) (h2 : URow w vb ys) (hn : xs.length ≤ 1048576) (hm : ys.length ≤ 1048576) :
    Calls Try.prog 22 #[va, vb] w fun e w' => e = .returned (.bool (decide (xs = ys))) ∧ Below w.heap.size w w' := by
  have H1 := Lib.hid h1
  have H2 := Lib.hid h2
  obtain ⟨aa, ac, rfl⟩ := h1.slice
  obtain ⟨ba, bc, rfl⟩ := h2.slice
  clear h1 h2
  by_cases hl : xs.length = ys.length
  · obtain ⟨L, hL⟩ : ∃ n, n = xs.length := ⟨_, rfl⟩
    rw [← hl] at H2 hm ⊢
    rw [← hL] at H1 H2 hn hm ⊢
    have HL := Lib.hid hL
    have HL2 : Hid (L = ys.length) := hL.trans hl
    have hq : ((L : Int) != (L : Int)) = false := by simp
    clear hL hl
    go_enter Try.func22, Try.ntmps22
    go_wp2_with fail
    go_loopw [5] (fun iv wr => ∃ k : Nat, k ≤ L ∧ iv = .int .i64 k ∧ Hid (∀ i (h : i < xs.length) (h' : i < ys.length), i < k → xs[i] = ys[i]) ∧ Hid (Below w.heap.size w wr)) (fun iv _ => L - (RowKit.intOf iv).toNat)
    case atStart => exact ⟨0, Nat.zero_le _, rfl, fun i _ _ h => absurd h (Nat.not_lt_zero _), Below.refl _ _⟩
    case round =>
      obtain ⟨k, hk, rfl, HN, HB⟩ := hrel
      by_cases hlt : k < L
      · have hd : decide (k < L) = true := decide_eq_true hlt
        have hki : (k : Int) < (L : Int) := by omega
        have hkx : k < xs.length := by rw [← HL.out]; exact hlt
        have hky : k < ys.length := by rw [← HL2.out]; exact hlt
        cases aa with
        | none => have := urow_none H1.out; rw [this] at hkx; simp at hkx
        | some A =>
        cases ba with
        | none => have := urow_none H2.out; rw [this] at hky; simp at hky
        | some B =>
        obtain ⟨b1, o1, rfl⟩ := urow_some H1.out (by omega)
        obtain ⟨b2, o2, rfl⟩ := urow_some H2.out (by omega)
        have c0 := urow_cell H1.out hkx HB.out
        have e0 := urow_cell H2.out hky HB.out
        have HNE : Hid (¬ xs[k] = ys[k] → decide (xs = ys) = false) := fun h => decide_eq_false fun e => h (by subst e; rfl)
        have HNX : Hid (xs[k] = ys[k] → ∀ i (h : i < xs.length) (h' : i < ys.length), i < k + 1 → xs[i] = ys[i]) := fun h i hi hi' hi2 => by
          rcases Nat.lt_or_ge i k with h1 | h1
          · exact HN.out i hi hi' h1
          · obtain rfl : i = k := by omega
            exact h
        obtain ⟨x, hx⟩ : ∃ x, x = xs[k] := ⟨_, rfl⟩
        obtain ⟨y, hy⟩ : ∃ y, y = ys[k] := ⟨_, rfl⟩
        rw [← hx] at c0 HNE HNX
        rw [← hy] at e0 HNE HNX
        clear hx hy HN hkx hky
        by_cases hxy : x = y
        · have HNY := Lib.hid (HNX.out hxy)
          have hq2 : ((x : Int) != (y : Int)) = false := by simp; omega
          have hq3 : (x != y) = false := by simp; omega
          clear HNX HNE hxy
          go_wp2_with fail
          go_region
          all_goals go_wp2_with fail
          all_goals go_roundw
          case rel => exact ⟨k + 1, hlt, by go_num, HNY, below_drewN HB.out _⟩
          case measure => simp [RowKit.intOf]; omega
        · have HNY := Lib.hid (HNE.out hxy)
          have hq2 : ((x : Int) != (y : Int)) = true := by simp; omega
          have hq3 : (x != y) = true := by simp; omega
          clear HNX HNE hxy
          go_wp2_with fail
          go_region
          all_goals go_wp2_with fail
          all_goals go_ret
          exact ⟨by (rw [HNY.out]; rfl), below_drewN HB.out _⟩
      · have hd : decide (k < L) = false := decide_eq_false hlt
        have hki : ¬ (k : Int) < (L : Int) := by omega
        have HY : Hid (decide (xs = ys) = true) := decide_eq_true (List.ext_getElem (by rw [← HL.out]; exact HL2.out) fun i h1 h2 => HN.out i h1 h2 (by have := HL.out; omega))
        go_wp2_with fail
        go_ret
        exact ⟨by (rw [HY.out]; rfl), HB.out⟩
  · have hq : ((xs.length : Int) != (ys.length : Int)) = true := by simp; omega
    have HY : Hid (decide (xs = ys) = false) := decide_eq_false fun e => hl (by rw [e])
    generalize xs.length = LX at *
    generalize ys.length = LY at *
    go_enter Try.func22, Try.ntmps22
    go_wp2_with fail
    go_ret
    exact ⟨by (rw [HY.out]; rfl), Below.refl _ _⟩
end

section
open Go Go.ChangeShapes Go.WideShapes Go.ChangeAt Go.RowKit Go.Lib Go.Sort Go.Maps
def eqC (a b c d a' b' c' d' : Int) : Bool := decide (a = a' ∧ b = b' ∧ c = c' ∧ d = d')
set_option maxRecDepth 100000 in
theorem ce_neq (a b c d a' b' c' d' : Int) (w : World) : Sem.run Try.prog (binOp .neq 48 (.agg #[.int .u32 a, .int .i64 b, .int .i64 c, .int .i64 d]) (.agg #[.int .u32 a', .int .i64 b', .int .i64 c', .int .i64 d'])) w = .ok (.bool (!eqC a b c d a' b' c' d')) w := by
  have u3 := Try.underlying3
  have a3 := Try.isAgg3
  have z3 := Try.sizeOf3
  have u22 := Try.underlying32
  have a22 := Try.isAgg32
  have z22 := Try.sizeOf32
  have u27 := Try.underlying46
  have a27 := Try.isAgg46
  have z27 := Try.sizeOf46
  have hS : Try.prog.underlying 48 = some (.struct (Try.prog.fieldsOf 48)) := by kernel_rfl
  have hp : Try.prog.stoodInHeld 48 = false := by kernel_rfl
  have hS2 : Try.prog.underlying 46 = some (.struct (Try.prog.fieldsOf 46)) := by kernel_rfl
  have hp2 : Try.prog.stoodInHeld 46 = false := by kernel_rfl
  rw [run_neq_struct, show (10000 : Nat) = 9999 + 1 from rfl, run_equalIn_agg w 9999 48 _ _ hS hp]
  simp only [Program.fieldsOf, Try.underlying48]
  go_simp
  by_cases h1 : a = a' <;> by_cases h2 : b = b' <;> by_cases h3 : c = c' <;> by_cases h4 : d = d' <;> simp [eqC, h1, h2, h3, h4]
set_option maxRecDepth 100000 in
theorem ce_eql (a b c d a' b' c' d' : Int) (w : World) : Sem.run Try.prog (binOp .eql 48 (.agg #[.int .u32 a, .int .i64 b, .int .i64 c, .int .i64 d]) (.agg #[.int .u32 a', .int .i64 b', .int .i64 c', .int .i64 d'])) w = .ok (.bool (eqC a b c d a' b' c' d')) w := by
  have u3 := Try.underlying3
  have a3 := Try.isAgg3
  have z3 := Try.sizeOf3
  have u22 := Try.underlying32
  have a22 := Try.isAgg32
  have z22 := Try.sizeOf32
  have u27 := Try.underlying46
  have a27 := Try.isAgg46
  have z27 := Try.sizeOf46
  have hS : Try.prog.underlying 48 = some (.struct (Try.prog.fieldsOf 48)) := by kernel_rfl
  have hp : Try.prog.stoodInHeld 48 = false := by kernel_rfl
  have hS2 : Try.prog.underlying 46 = some (.struct (Try.prog.fieldsOf 46)) := by kernel_rfl
  have hp2 : Try.prog.stoodInHeld 46 = false := by kernel_rfl
  rw [run_eql_struct, show (10000 : Nat) = 9999 + 1 from rfl, run_equalIn_agg w 9999 48 _ _ hS hp]
  simp only [Program.fieldsOf, Try.underlying48]
  go_simp
  by_cases h1 : a = a' <;> by_cases h2 : b = b' <;> by_cases h3 : c = c' <;> by_cases h4 : d = d' <;> simp [eqC, h1, h2, h3, h4]
theorem ce_grd (op : BinOp) (x y : Operand) (a b : Array Value) (w : World) : Sem.run Try.prog (eqGuard op 48 x y (.agg a) (.agg b)) w = .ok () w := run_eqGuard_agg w op _ _ _ _ _ (by kernel_rfl)
theorem eqC_nat {a b c d a' b' c' d' : Nat} : eqC a b c d a' b' c' d' = decide ((a, b, c, d) = (a', b', c', d')) := by
  unfold eqC
  rw [decide_eq_decide]
  simp only [Prod.mk.injEq]
  omega
end

section
open Go Go.RowKit Go.Lib
theorem crow_none {w : World} {n c : Nat} {l : List Ce} (h : CRow w (.slice none n c) l) : l = [] := by
  rcases h with ⟨rfl, _⟩ | ⟨b, off, c', h1, _⟩
  · rfl
  · cases h1
theorem crow_some {w : World} {n c : Nat} {A : Addr} {l : List Ce} (h : CRow w (.slice (some A) n c) l) (hk : 0 < l.length) : ∃ bb off, A = ⟨bb, off, none⟩ := by
  obtain ⟨b, off, e, _⟩ := RowG.at h hk
  exact ⟨b, off, by injection e⟩
attribute [local go_sem ↓] ce_neq ce_grd
set_option maxRecDepth 100000 in
set_option maxHeartbeats 4000000 in
theorem same16_any (va vb : Value) (xs ys : List Ce) (w : World) (h1 : CRow w va xs) (h2 : CRow w vb ys) (hn : xs.length ≤ 1048576) (hm : ys.length ≤ 1048576) :
    Calls Try.prog 16 #[va, vb] w fun e w' => e = .returned (.bool (decide (xs = ys))) ∧ Below w.heap.size w w' := by
  have H1 := Lib.hid h1
  have H2 := Lib.hid h2
  obtain ⟨aa, ac, rfl⟩ := RowG.slice h1
  obtain ⟨ba, bc, rfl⟩ := RowG.slice h2
  clear h1 h2
  by_cases hl : xs.length = ys.length
  · obtain ⟨L, hL⟩ : ∃ n, n = xs.length := ⟨_, rfl⟩
    rw [← hl] at H2 hm ⊢
    rw [← hL] at H1 H2 hn hm ⊢
    have HL := Lib.hid hL
    have HL2 : Hid (L = ys.length) := hL.trans hl
    have hq : ((L : Int) != (L : Int)) = false := by simp
    clear hL hl
    go_enter Try.func16, Try.ntmps16
    go_wp2_with fail
    go_loopw [5] (fun iv wr => ∃ k : Nat, k ≤ L ∧ iv = .int .i64 k ∧ Hid (∀ i (h : i < xs.length) (h' : i < ys.length), i < k → xs[i] = ys[i]) ∧ Hid (Below w.heap.size w wr)) (fun iv _ => L - (RowKit.intOf iv).toNat)
    case atStart => exact ⟨0, Nat.zero_le _, rfl, fun i _ _ h => absurd h (Nat.not_lt_zero _), Below.refl _ _⟩
    case round =>
      obtain ⟨k, hk, rfl, HN, HB⟩ := hrel
      by_cases hlt : k < L
      · have hd : decide (k < L) = true := decide_eq_true hlt
        have hki : (k : Int) < (L : Int) := by omega
        have hkx : k < xs.length := by rw [← HL.out]; exact hlt
        have hky : k < ys.length := by rw [← HL2.out]; exact hlt
        cases aa with
        | none => have := crow_none H1.out; rw [this] at hkx; simp at hkx
        | some A =>
        cases ba with
        | none => have := crow_none H2.out; rw [this] at hky; simp at hky
        | some B =>
        obtain ⟨b1, o1, rfl⟩ := crow_some H1.out (by omega)
        obtain ⟨b2, o2, rfl⟩ := crow_some H2.out (by omega)
        obtain ⟨c0, c1, c2, c3⟩ := CRow.cells H1.out hkx HB.out
        obtain ⟨e0, e1, e2, e3⟩ := CRow.cells H2.out hky HB.out
        have HNE : Hid (¬ xs[k] = ys[k] → decide (xs = ys) = false) := fun h => decide_eq_false fun e => h (by subst e; rfl)
        have HNX : Hid (xs[k] = ys[k] → ∀ i (h : i < xs.length) (h' : i < ys.length), i < k + 1 → xs[i] = ys[i]) := fun h i hi hi' hi2 => by
          rcases Nat.lt_or_ge i k with h1 | h1
          · exact HN.out i hi hi' h1
          · obtain rfl : i = k := by omega
            exact h
        obtain ⟨x, hx⟩ : ∃ x, x = xs[k] := ⟨_, rfl⟩
        obtain ⟨y, hy⟩ : ∃ y, y = ys[k] := ⟨_, rfl⟩
        rw [← hx] at c0 c1 c2 c3 HNE HNX
        rw [← hy] at e0 e1 e2 e3 HNE HNX
        clear hx hy HN hkx hky
        obtain ⟨x0, x1, x2, x3⟩ := x
        obtain ⟨y0, y1, y2, y3⟩ := y
        dsimp only at c0 c1 c2 c3 e0 e1 e2 e3
        cases hq : eqC x0 x1 x2 x3 y0 y1 y2 y3
        · have HNY := Lib.hid (HNE.out fun e => by rw [eqC_nat, decide_eq_true e] at hq; cases hq)
          clear HNX HNE
          go_wp2_with fail
          go_region
          go_wp2_with fail
          go_ret
          exact ⟨by (rw [HNY.out]; rfl), below_drewN HB.out _⟩
        · have HNY := Lib.hid (HNX.out (by rw [eqC_nat] at hq; exact of_decide_eq_true hq))
          clear HNX HNE
          go_wp2_with fail
          go_region
          go_wp2_with fail
          go_roundw
          case rel => exact ⟨k + 1, hlt, by go_num, HNY, below_drewN HB.out _⟩
          case measure => simp [RowKit.intOf]; omega
      · have hd : decide (k < L) = false := decide_eq_false hlt
        have hki : ¬ (k : Int) < (L : Int) := by omega
        have HY : Hid (decide (xs = ys) = true) := decide_eq_true (List.ext_getElem (by rw [← HL.out]; exact HL2.out) fun i h1 h2 => HN.out i h1 h2 (by have := HL.out; omega))
        go_wp2_with fail
        go_ret
        exact ⟨by (rw [HY.out]; rfl), HB.out⟩
  · have hq : ((xs.length : Int) != (ys.length : Int)) = true := by simp; omega
    have HY : Hid (decide (xs = ys) = false) := decide_eq_false fun e => hl (by rw [e])
    generalize xs.length = LX at *
    generalize ys.length = LY at *
    go_enter Try.func16, Try.ntmps16
    go_wp2_with fail
    go_ret
    exact ⟨by (rw [HY.out]; rfl), Below.refl _ _⟩
end
end Go.Proofs.Ytfobapnncjjeiaa
