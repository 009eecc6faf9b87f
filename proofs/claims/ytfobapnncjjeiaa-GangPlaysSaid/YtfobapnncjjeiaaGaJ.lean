/-
  Matrix.hasCells: sixteen words against nought.
-/
import Derived.Test.YtfobapnncjjeiaaGaD
import Derived.ChangeKeysEq
namespace Go.Proofs.Ytfobapnncjjeiaa
open Go Go.RowKit Go.Lib
set_option linter.unusedVariables false

theorem Try.infoU64 : ∃ i, Try.prog.info? 60 = some i := by
  cases h : Try.prog.info? 60 with
  | none => exact absurd (show (Try.prog.info? 60).isSome = true by kernel_rfl) (by rw [h]; simp)
  | some i => exact ⟨i, rfl⟩
set_option maxRecDepth 100000 in
set_option maxHeartbeats 4000000 in
theorem col_neq (x0 x1 x2 x3 x4 x5 x6 x7 x8 x9 x10 x11 x12 x13 x14 x15 : Int) (w : World) : Sem.run Try.prog (binOp .neq 62 (.agg #[.int .u64 x0, .int .u64 x1, .int .u64 x2, .int .u64 x3, .int .u64 x4, .int .u64 x5, .int .u64 x6, .int .u64 x7, .int .u64 x8, .int .u64 x9, .int .u64 x10, .int .u64 x11, .int .u64 x12, .int .u64 x13, .int .u64 x14, .int .u64 x15]) (.agg #[.int .u64 0, .int .u64 0, .int .u64 0, .int .u64 0, .int .u64 0, .int .u64 0, .int .u64 0, .int .u64 0, .int .u64 0, .int .u64 0, .int .u64 0, .int .u64 0, .int .u64 0, .int .u64 0, .int .u64 0, .int .u64 0])) w = .ok (.bool (!(x0 == 0 && x1 == 0 && x2 == 0 && x3 == 0 && x4 == 0 && x5 == 0 && x6 == 0 && x7 == 0 && x8 == 0 && x9 == 0 && x10 == 0 && x11 == 0 && x12 == 0 && x13 == 0 && x14 == 0 && x15 == 0))) w := by
  obtain ⟨i, hi⟩ := Try.infoU64
  have hu : Try.prog.underlying 62 = some (.array 16 60) := by kernel_rfl
  have u60 := Try.underlying60
  have a60 := Try.isAgg60
  have z60 := Try.sizeOf60
  have hce : Try.prog.cellsOf 60 = 1 := by kernel_rfl
  rw [run_neq_struct, show (10000 : Nat) = 9999 + 1 from rfl, run_equalIn_array w 9999 _ _ hu hi, hce, show List.range 16 = [0, 1, 2, 3, 4, 5, 6, 7, 8, 9, 10, 11, 12, 13, 14, 15] from rfl]
  simp only [Op.eqItems]
  go_simp
  by_cases h0 : x0 = 0
  case neg => simp [h0]
  subst h0
  by_cases h1 : x1 = 0
  case neg => simp [h1]
  subst h1
  by_cases h2 : x2 = 0
  case neg => simp [h2]
  subst h2
  by_cases h3 : x3 = 0
  case neg => simp [h3]
  subst h3
  by_cases h4 : x4 = 0
  case neg => simp [h4]
  subst h4
  by_cases h5 : x5 = 0
  case neg => simp [h5]
  subst h5
  by_cases h6 : x6 = 0
  case neg => simp [h6]
  subst h6
  by_cases h7 : x7 = 0
  case neg => simp [h7]
  subst h7
  by_cases h8 : x8 = 0
  case neg => simp [h8]
  subst h8
  by_cases h9 : x9 = 0
  case neg => simp [h9]
  subst h9
  by_cases h10 : x10 = 0
  case neg => simp [h10]
  subst h10
  by_cases h11 : x11 = 0
  case neg => simp [h11]
  subst h11
  by_cases h12 : x12 = 0
  case neg => simp [h12]
  subst h12
  by_cases h13 : x13 = 0
  case neg => simp [h13]
  subst h13
  by_cases h14 : x14 = 0
  case neg => simp [h14]
  subst h14
  by_cases h15 : x15 = 0
  case neg => simp [h15]
  subst h15
  simp
attribute [local go_sem ↓] col_neq
theorem col_grd (op : BinOp) (x y : Operand) (a b : Array Value) (w : World) : Sem.run Try.prog (eqGuard op 62 x y (.agg a) (.agg b)) w = .ok () w := run_eqGuard_agg w op _ _ _ _ _ (by kernel_rfl)
attribute [local go_sem ↓] col_grd
set_option maxRecDepth 100000 in
set_option maxHeartbeats 4000000 in
theorem hasCells_any (m n a r : Nat) (own : Nat → Prop) (l : List Ce) (w : World) (h : GN w m own n a l) (hr : r < 16) :
    Calls Try.prog 59 #[.pointer (some ⟨m, 0, none⟩), .int .i64 (r : Nat)] w fun e w' => ∃ f : Bool, e = .returned (.bool f) ∧ (f = true ↔ ∃ c ∈ l, c.row = r) ∧ Below w.heap.size w w' := by
  obtain ⟨v, W, hI, hW, hO⟩ := h
  have hz := (hW r hr).zero
  have hiff : (∃ c ∈ l, c.row = r) ↔ ¬ ∀ j, j < 16 → W (r * 16 + j) = 0 := by
    rw [hz]
    constructor
    · rintro ⟨c, hc, hcr⟩ hn
      have hce := hO.ce c hc
      have h1 : 2 ^ n ≤ 1024 := by have := Nat.pow_le_pow_right (n := 2) (by omega) hO.n10; simpa using this
      have h2 := en_st c
      have h3 := hce.en
      exact hn c.st (by omega) ⟨c, hc, hcr, Nat.le_refl _, by have := Nat.two_pow_pos c.ord; omega⟩
    · intro hn
      apply Classical.byContradiction
      intro hno
      exact hn fun x _ ⟨c, hc, hcr, _⟩ => hno ⟨c, hc, hcr⟩
  have HIF := Lib.hid hiff
  have y0 := hI.gb.cw (k := r * 16 + 0) (by omega)
  rw [show 3 + (r * 16 + 0) = 3 + r * 16 by omega] at y0
  have y1 := hI.gb.cw (k := r * 16 + 1) (by omega)
  rw [show 3 + (r * 16 + 1) = 3 + r * 16 + 1 by omega] at y1
  have y2 := hI.gb.cw (k := r * 16 + 2) (by omega)
  rw [show 3 + (r * 16 + 2) = 3 + r * 16 + 2 by omega] at y2
  have y3 := hI.gb.cw (k := r * 16 + 3) (by omega)
  rw [show 3 + (r * 16 + 3) = 3 + r * 16 + 3 by omega] at y3
  have y4 := hI.gb.cw (k := r * 16 + 4) (by omega)
  rw [show 3 + (r * 16 + 4) = 3 + r * 16 + 4 by omega] at y4
  have y5 := hI.gb.cw (k := r * 16 + 5) (by omega)
  rw [show 3 + (r * 16 + 5) = 3 + r * 16 + 5 by omega] at y5
  have y6 := hI.gb.cw (k := r * 16 + 6) (by omega)
  rw [show 3 + (r * 16 + 6) = 3 + r * 16 + 6 by omega] at y6
  have y7 := hI.gb.cw (k := r * 16 + 7) (by omega)
  rw [show 3 + (r * 16 + 7) = 3 + r * 16 + 7 by omega] at y7
  have y8 := hI.gb.cw (k := r * 16 + 8) (by omega)
  rw [show 3 + (r * 16 + 8) = 3 + r * 16 + 8 by omega] at y8
  have y9 := hI.gb.cw (k := r * 16 + 9) (by omega)
  rw [show 3 + (r * 16 + 9) = 3 + r * 16 + 9 by omega] at y9
  have y10 := hI.gb.cw (k := r * 16 + 10) (by omega)
  rw [show 3 + (r * 16 + 10) = 3 + r * 16 + 10 by omega] at y10
  have y11 := hI.gb.cw (k := r * 16 + 11) (by omega)
  rw [show 3 + (r * 16 + 11) = 3 + r * 16 + 11 by omega] at y11
  have y12 := hI.gb.cw (k := r * 16 + 12) (by omega)
  rw [show 3 + (r * 16 + 12) = 3 + r * 16 + 12 by omega] at y12
  have y13 := hI.gb.cw (k := r * 16 + 13) (by omega)
  rw [show 3 + (r * 16 + 13) = 3 + r * 16 + 13 by omega] at y13
  have y14 := hI.gb.cw (k := r * 16 + 14) (by omega)
  rw [show 3 + (r * 16 + 14) = 3 + r * 16 + 14 by omega] at y14
  have y15 := hI.gb.cw (k := r * 16 + 15) (by omega)
  rw [show 3 + (r * 16 + 15) = 3 + r * 16 + 15 by omega] at y15
  have HL : Hid ((∀ j, j < 16 → W (r * 16 + j) = 0) ↔ W (r * 16 + 0) = 0 ∧ W (r * 16 + 1) = 0 ∧ W (r * 16 + 2) = 0 ∧ W (r * 16 + 3) = 0 ∧ W (r * 16 + 4) = 0 ∧ W (r * 16 + 5) = 0 ∧ W (r * 16 + 6) = 0 ∧ W (r * 16 + 7) = 0 ∧ W (r * 16 + 8) = 0 ∧ W (r * 16 + 9) = 0 ∧ W (r * 16 + 10) = 0 ∧ W (r * 16 + 11) = 0 ∧ W (r * 16 + 12) = 0 ∧ W (r * 16 + 13) = 0 ∧ W (r * 16 + 14) = 0 ∧ W (r * 16 + 15) = 0) := by
    constructor
    · intro h
      exact ⟨h 0 (by omega), h 1 (by omega), h 2 (by omega), h 3 (by omega), h 4 (by omega), h 5 (by omega), h 6 (by omega), h 7 (by omega), h 8 (by omega), h 9 (by omega), h 10 (by omega), h 11 (by omega), h 12 (by omega), h 13 (by omega), h 14 (by omega), h 15 (by omega)⟩
    · rintro ⟨z0, z1, z2, z3, z4, z5, z6, z7, z8, z9, z10, z11, z12, z13, z14, z15⟩ j hj
      match j, hj with
      | 0, _ => exact z0
      | 1, _ => exact z1
      | 2, _ => exact z2
      | 3, _ => exact z3
      | 4, _ => exact z4
      | 5, _ => exact z5
      | 6, _ => exact z6
      | 7, _ => exact z7
      | 8, _ => exact z8
      | 9, _ => exact z9
      | 10, _ => exact z10
      | 11, _ => exact z11
      | 12, _ => exact z12
      | 13, _ => exact z13
      | 14, _ => exact z14
      | 15, _ => exact z15
      | j + 16, hj => omega
  have hri : (r : Int) < 16 := by omega
  clear hI hW hO hz hiff
  generalize hx0 : W (r * 16 + 0) = x0 at *
  generalize hx1 : W (r * 16 + 1) = x1 at *
  generalize hx2 : W (r * 16 + 2) = x2 at *
  generalize hx3 : W (r * 16 + 3) = x3 at *
  generalize hx4 : W (r * 16 + 4) = x4 at *
  generalize hx5 : W (r * 16 + 5) = x5 at *
  generalize hx6 : W (r * 16 + 6) = x6 at *
  generalize hx7 : W (r * 16 + 7) = x7 at *
  generalize hx8 : W (r * 16 + 8) = x8 at *
  generalize hx9 : W (r * 16 + 9) = x9 at *
  generalize hx10 : W (r * 16 + 10) = x10 at *
  generalize hx11 : W (r * 16 + 11) = x11 at *
  generalize hx12 : W (r * 16 + 12) = x12 at *
  generalize hx13 : W (r * 16 + 13) = x13 at *
  generalize hx14 : W (r * 16 + 14) = x14 at *
  generalize hx15 : W (r * 16 + 15) = x15 at *
  clear hx0 hx1 hx2 hx3 hx4 hx5 hx6 hx7 hx8 hx9 hx10 hx11 hx12 hx13 hx14 hx15
  go_enter Try.func59, Try.ntmps59
  go_wp2_with fail
  go_ret
  refine ⟨_, rfl, ?_, Below.refl _ _⟩
  rw [HIF.out, HL.out]
  simp only [Bool.or_eq_true, Bool.not_eq_true', beq_eq_false_iff_ne, ne_eq]
  omega
end Go.Proofs.Ytfobapnncjjeiaa
