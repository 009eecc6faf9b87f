
/-
  gangerref01.MulDiv: long division, bit by bit.
-/
import Derived.Test.YtbnlmeegepgioaaDoorNumRef4
namespace Go.Proofs.YtbnlmeegepgioaaDoor
open Go.ChangeShapes Go.WideShapes Go.ChangeAt Go.RowKit
set_option linter.unusedVariables false

theorem md_step (P c i : Nat) (hc : 0 < c) :
    (c ≤ P / 2 ^ (i + 1) % c * 2 + P / 2 ^ i % 2 → P / 2 ^ i / c = P / 2 ^ (i + 1) / c + P / 2 ^ (i + 1) / c + 1 ∧ P / 2 ^ i % c = P / 2 ^ (i + 1) % c * 2 + P / 2 ^ i % 2 - c) ∧
    (P / 2 ^ (i + 1) % c * 2 + P / 2 ^ i % 2 < c → P / 2 ^ i / c = P / 2 ^ (i + 1) / c + P / 2 ^ (i + 1) / c ∧ P / 2 ^ i % c = P / 2 ^ (i + 1) % c * 2 + P / 2 ^ i % 2) := by
  have e : P / 2 ^ (i + 1) = P / 2 ^ i / 2 := by rw [Nat.pow_succ, Nat.div_div_eq_div_mul]
  rw [e]
  generalize P / 2 ^ i = y
  have hy : y = 2 * (y / 2) + y % 2 := by omega
  have hb : y % 2 < 2 := by omega
  generalize y / 2 = x at *
  generalize y % 2 = b at *
  subst hy
  have hd := Nat.div_add_mod x c
  have hm := Nat.mod_lt x hc
  generalize x / c = q at *
  generalize x % c = r at *
  subst hd
  have e2 : 2 * (c * q + r) + b = c * (q + q) + (r * 2 + b) := by rw [Nat.mul_add, Nat.mul_add]; omega
  rw [e2]
  refine ⟨fun h => ?_, fun h => ?_⟩
  · obtain ⟨d, hd⟩ : ∃ d, r * 2 + b = c + d := ⟨r * 2 + b - c, by omega⟩
    have e3 : c * (q + q) + (r * 2 + b) = c * (q + q + 1) + d := by rw [hd, Nat.mul_add c (q + q) 1]; omega
    rw [e3]
    refine ⟨by rw [Nat.mul_add_div hc, Nat.div_eq_of_lt (by omega), Nat.add_zero], by rw [Nat.mul_add_mod, Nat.mod_eq_of_lt (by omega)]; omega⟩
  · exact ⟨by rw [Nat.mul_add_div hc, Nat.div_eq_of_lt h, Nat.add_zero], by rw [Nat.mul_add_mod, Nat.mod_eq_of_lt h]⟩

theorem bit_lo (P i : Nat) (h : i < 64) : P % 18446744073709551616 / 2 ^ i % 2 = P / 2 ^ i % 2 := by
  have e : 18446744073709551616 = 2 ^ i * 2 ^ (64 - i) := by rw [← Nat.pow_add, show i + (64 - i) = 64 by omega]
  rw [e, Nat.mod_mul_right_div_self]
  have : 2 ^ (64 - i) = 2 * 2 ^ (63 - i) := by rw [← Nat.pow_succ', show (63 - i).succ = 64 - i by omega]
  rw [this, Nat.mod_mul_right_mod]
theorem bit_hi (P i : Nat) (h : 64 ≤ i) : P / 18446744073709551616 / 2 ^ (i - 64) % 2 = P / 2 ^ i % 2 := by
  rw [Nat.div_div_eq_div_mul]
  have : 18446744073709551616 * 2 ^ (i - 64) = 2 ^ i := by
    have : (18446744073709551616 : Nat) = 2 ^ 64 := rfl
    rw [this, ← Nat.pow_add, show 64 + (i - 64) = i by omega]
  rw [this]

def MdRel (W0 : World) (P c : Nat) (iv r : Value) (wr : World) : Prop :=
  ∃ j : Nat, iv = .int .i64 ((j : Int) - 1) ∧ j ≤ 128 ∧ r = .int .u64 ((P / 2 ^ j % c : Nat) : Int) ∧ Below W0.heap.size W0 wr ∧ Blk wr W0.heap.size (W3 false P) 74 ∧ Blk wr (W0.heap.size + 1) (W3 false (P / 2 ^ j / c)) 74

theorem refmd_arg (a b c : Int) (w : World) (h : a < 0 ∨ b < 0 ∨ c < 1) :
    Calls Tryd.prog 32 #[.int .i64 a, .int .i64 b, .int .i64 c] w fun e w' => e = .returned (.tuple #[.int .i64 0, .int .i64 2]) ∧ w' = w := by
  have t : decide (a < 0) = true ∨ decide (a < 0) = false ∧ (decide (b < 0) = true ∨ decide (b < 0) = false ∧ decide (c < 1) = true) := by
    simp only [decide_eq_true_eq, decide_eq_false_iff_not]; omega
  clear h
  rcases t with t | ⟨t, t' | ⟨t', t''⟩⟩
  all_goals
    go_enter Tryd.func32, Tryd.ntmps32
    go_wp2
    go_ret2
    exact ⟨rfl, rfl⟩

theorem refmd_main (a b c : Nat) (w : World) (ha : a ≤ 9223372036854775807) (hb : b ≤ 9223372036854775807) (hc : 1 ≤ c) (hc' : c ≤ 9223372036854775807) :
    Calls Tryd.prog 32 #[.int .i64 a, .int .i64 b, .int .i64 c] w
      fun e w' => e = .returned (.tuple #[.int .i64 (fitV ((a * b / c : Nat) : Int)), .int .i64 (fitE ((a * b / c : Nat) : Int))]) ∧ Below w.heap.size w w' := by
  have hP : a * b ≤ 9223372036854775807 * 9223372036854775807 := Nat.mul_le_mul ha hb
  have hIa : I64 (a : Int) := by unfold I64; omega
  have hIb : I64 (b : Int) := by unfold I64; omega
  have na : negB (a : Int) = false := by unfold negB; exact decide_eq_false (by omega)
  have nb : negB (b : Int) = false := by unfold negB; exact decide_eq_false (by omega)
  have PR : Hid (∀ w, Calls Tryd.prog 43 #[.agg #[.bool (negB (a : Int)), .int .u64 (hiW (a : Int).natAbs), .int .u64 (loW (a : Int).natAbs)], .agg #[.bool (negB (b : Int)), .int .u64 (hiW (b : Int).natAbs), .int .u64 (loW (b : Int).natAbs)]] w
      fun e w' => e = .returned (.agg #[.bool false, .int .u64 (hiW (a * b)), .int .u64 (loW (a * b))]) ∧ Below w.heap.size w w') := by
    intro w
    have := Product_any (negB (a : Int)) (negB (b : Int)) (a : Int).natAbs (b : Int).natAbs w (by omega) (by omega)
    refine this.mono ?_
    rintro e w' ⟨rfl, hb⟩
    exact ⟨ret_wide (by rw [na, nb]; rfl) (by simp) (by simp), hb⟩
  have t1 : decide ((a : Int) < 0) = false := decide_eq_false (by omega)
  have t2 : decide ((b : Int) < 0) = false := decide_eq_false (by omega)
  have t3 : decide ((c : Int) < 1) = false := decide_eq_false (by omega)
  have cpos : Hid (0 < c) := hc
  have hc2 : (c : Int) ≤ 9223372036854775807 := by omega
  clear na nb
  generalize a * b = P at *
  have hPb : Hid (P ≤ 9223372036854775807 * 9223372036854775807) := hP
  clear hP ha hb hc hc'
  go_enter Tryd.func32, Tryd.ntmps32
  go_wp2_with fail
  refine (of_any a _ hIa).mono ?_; rintro e w1 ⟨rfl, b1⟩
  go_wp2_with fail
  refine (of_any b _ hIb).mono ?_; rintro e w2 ⟨rfl, b2⟩
  go_wp2_with fail
  refine (PR.out _).mono ?_; rintro e w3 ⟨rfl, b3⟩
  have B3 := below_next b3 (below_next b2 b1)
  clear PR b1 b2 b3
  go_wp2_with fail
  go_loopw [11, 10] (fun iv r wr => MdRel w3 P c iv r wr) (fun iv _ _ => (intOf iv + 1).toNat)
  case atStart =>
    have z : P / 2 ^ 128 = 0 := Nat.div_eq_of_lt (by have := hPb.out; omega)
    refine ⟨128, rfl, Nat.le_refl _, by rw [z]; simp, by go_grown, (Blk.fresh _ _ _ _ rfl).old _, ?_⟩
    rw [z, Nat.zero_div]
    exact Blk.fresh _ _ _ _ (by simp)
  case round =>
    obtain ⟨j, rfl, hj, rfl, hb, hP, hQ⟩ := hrel
    have hz1 := hP.lt
    have hz2 := hQ.lt
    have c0 := hP.cell 0
    have c1 := hP.cell 1
    have c2 := hP.cell 2
    have d0 := hQ.cell 0
    have d1 := hQ.cell 1
    have d2 := hQ.cell 2
    have fP := hP.frees
    have fQ := hQ.frees
    simp only [W3] at c0 c1 c2 d0 d1 d2
    by_cases h0 : j = 0
    · subst h0
      simp only [Nat.pow_zero, Nat.div_one] at *
      have hf : Fits (P / c) := by have := hPb.out; have := Nat.div_le_self P c; unfold Fits; omega
      go_wp2_with fail
      refine (told_any _ _ _ hf).mono ?_; rintro e w4 ⟨rfl, b4⟩
      go_wp2_with fail
      go_ret2
      exact ⟨rfl, below_next b4 (below_next hb B3)⟩
    · obtain ⟨i, rfl⟩ : ∃ i, j = i + 1 := ⟨j - 1, by omega⟩
      simp only [show ((i + 1 : Nat) : Int) - 1 = (i : Int) from by omega]
      have hi : (i : Int) ≤ 127 := by omega
      have b0 := loW_bd P
      have b1 := hiW_bd (N := P) (by have := hPb.out; unfold Fits; omega)
      have cx : c ≠ 0 := by have := cpos.out; omega
      have r1 := Nat.mod_lt (P / 2 ^ (i + 1)) cpos.out
      obtain ⟨m1, m2⟩ := md_step P c i cpos.out
      have rb : (64 ≤ i → (hiW P / 2 ^ (i - 64)).tmod 2 = ((P / 2 ^ i % 2 : Nat) : Int)) ∧ (i < 64 → (loW P / 2 ^ (i % 64)).tmod 2 = ((P / 2 ^ i % 2 : Nat) : Int)) := by
        refine ⟨fun h => ?_, fun h => ?_⟩
        · rw [← bit_hi P i h]; unfold hiW
          rw [Int.tmod_eq_emod_of_nonneg (Int.ediv_nonneg (by omega) (Int.pow_nonneg (by omega)))]; simp
        · rw [← bit_lo P i h, Nat.mod_eq_of_lt h]; unfold loW
          rw [Int.tmod_eq_emod_of_nonneg (Int.ediv_nonneg (by omega) (Int.pow_nonneg (by omega)))]; simp
      have hf : Fits (P / 2 ^ (i + 1) / c + P / 2 ^ (i + 1) / c) := by
        have h1 := hPb.out
        have h2 := Nat.div_le_self (P / 2 ^ (i + 1)) c
        have h3 := Nat.div_le_self P (2 ^ (i + 1))
        unfold Fits; omega
      have hβ : P / 2 ^ i % 2 < 2 := Nat.mod_lt _ (by omega)
      generalize hR : P / 2 ^ (i + 1) % c = R at *
      generalize hX : P / 2 ^ (i + 1) / c = X at *
      generalize hB : P / 2 ^ i % 2 = β at *
      clear hR hX hB
      have hβ' : (β : Int) ≤ 1 := by omega
      have hR' : (R : Int) ≤ 9223372036854775806 := by omega
      have rb' : (decide ((64 : Int) ≤ (i : Int)) = true ∧ (64 : Int) ≤ (i : Int)) ∧ (hiW P / 2 ^ (i - 64)).tmod 2 = (β : Int) ∨ (decide ((64 : Int) ≤ (i : Int)) = false ∧ (i : Int) < 64) ∧ (loW P / 2 ^ (i % 64)).tmod 2 = (β : Int) := by
        by_cases h : 64 ≤ i
        · exact .inl ⟨⟨decide_eq_true (by omega), by omega⟩, rb.1 h⟩
        · exact .inr ⟨⟨decide_eq_false (by omega), by omega⟩, rb.2 (by omega)⟩
      clear rb cx hβ h0
      by_cases hcmp : c ≤ R * 2 + β
      · have g2 : decide ((c : Int) ≤ (R : Int) * 2 + β) = true := decide_eq_true (by omega)
        have g4 : (c : Int) ≤ (R : Int) * 2 + β := by omega
        have E := Lib.hid (m1 hcmp)
        have lo1 : Hid (loW (X + X) + 1 = loW (X + X + 1)) := by show _ = _; unfold loW; omega
        have hi1 : Hid (hiW (X + X) = hiW (X + X + 1)) := by show _ = _; unfold hiW; omega
        have lo2 : loW (X + X) ≤ 18446744073709551614 := by unfold loW; omega
        have lo3 := (loW_bd (X + X)).1
        clear m1 m2 hcmp r1
        rcases rb' with ⟨⟨g1, g0⟩, g3⟩ | ⟨⟨g1, g0⟩, g3⟩
        all_goals
          go_wp2_with fail
          refine (plus_any false false X X _ hf).mono ?_; rintro e w4 ⟨rfl, b4⟩
          have hP4 := hP.kept b4
          have hQ4 := hQ.kept b4
          have hb4 : Below w3.heap.size wr w4 := b4.mono (by omega)
          clear hP hQ c0 c1 c2 d0 d1 d2 fP fQ b4
          have d0 := hQ4.cell 0
          have d1 := hQ4.cell 1
          have d2 := hQ4.cell 2
          have fQ := hQ4.frees
          simp only [W3] at d0 d1 d2
          go_wp2_with fail
          go_roundw
          case rel =>
            refine ⟨i, rfl, by omega, by rw [E.out.2]; congr 1; omega, ?_, ?_, ?_⟩
            · exact hb.trans (by go_grown)
            · exact (((hP4.other (by simp) _).other (by simp) _).other (by simp) _).other (by simp) _
            · rw [E.out.1]
              have := (((hQ4.set 0 (.bool false)).set 1 (.int .u64 (hiW (X + X)))).set 2 (.int .u64 (loW (X + X)))).set 2 (.int .u64 (loW (X + X) + 1))
              simp only [W3, ← hi1.out, ← lo1.out]
              exact this
          case measure => simp [intOf] <;> omega
      · have g2 : decide ((c : Int) ≤ (R : Int) * 2 + β) = false := decide_eq_false (by omega)
        have E := Lib.hid (m2 (by omega))
        clear m1 m2 hcmp r1
        rcases rb' with ⟨⟨g1, g0⟩, g3⟩ | ⟨⟨g1, g0⟩, g3⟩
        all_goals
          go_wp2_with fail
          refine (plus_any false false X X _ hf).mono ?_; rintro e w4 ⟨rfl, b4⟩
          have hP4 := hP.kept b4
          have hQ4 := hQ.kept b4
          have hb4 : Below w3.heap.size wr w4 := b4.mono (by omega)
          clear hP hQ c0 c1 c2 d0 d1 d2 fP fQ b4
          have d0 := hQ4.cell 0
          have d1 := hQ4.cell 1
          have d2 := hQ4.cell 2
          have fQ := hQ4.frees
          simp only [W3] at d0 d1 d2
          go_wp2_with fail
          go_roundw
          case rel =>
            refine ⟨i, rfl, by omega, by rw [E.out.2]; congr 1, ?_, ?_, ?_⟩
            · exact hb.trans (by go_grown)
            · exact (((hP4.other (by simp) _).other (by simp) _).other (by simp) _)
            · rw [E.out.1]
              exact (((hQ4.set 0 _).set 1 _).set 2 _)
          case measure => simp [intOf] <;> omega

theorem MulDiv_any (a b c : Int) (w : World) (ha : I64 a) (hb : I64 b) (hc : I64 c) :
    Calls Tryd.prog 32 #[.int .i64 a, .int .i64 b, .int .i64 c] w fun e w' => e = .returned (.tuple #[.int .i64 (mdV a b c), .int .i64 (mdE a b c)]) ∧ Below w.heap.size w w' := by
  by_cases h : a < 0 ∨ b < 0 ∨ c < 1
  · refine (refmd_arg a b c w h).mono ?_
    rintro e w' ⟨rfl, rfl⟩
    exact ⟨ret_tup2 (by simp [mdV, h]) (by simp [mdE, h]), Below.refl _ _⟩
  · unfold I64 at *
    obtain ⟨n, rfl⟩ := Int.eq_ofNat_of_zero_le (a := a) (by omega)
    obtain ⟨m, rfl⟩ := Int.eq_ofNat_of_zero_le (a := b) (by omega)
    obtain ⟨k, rfl⟩ := Int.eq_ofNat_of_zero_le (a := c) (by omega)
    refine (refmd_main n m k w (by omega) (by omega) (by omega) (by omega)).mono ?_
    rintro e w' ⟨rfl, hb⟩
    have e1 : ((n : Int) * (m : Int) / (k : Int)) = ((n * m / k : Nat) : Int) := by rw [Int.natCast_ediv, Int.natCast_mul]
    exact ⟨ret_tup2 (by rw [mdV, if_neg h, e1]) (by rw [mdE, if_neg h, e1]), hb⟩

end Go.Proofs.YtbnlmeegepgioaaDoor
