/-
  Package decay: contracts for any arguments.
-/
import Derived.Test.YtggamihjmggmlaaDec3
namespace Go.Proofs.Ytggamihjmggmlaa
open Go.ChangeShapes Go.WideShapes Go.ChangeAt Go.RowKit
set_option linter.unusedVariables false

instance (t h : Int) : Decidable (FacOk t h) := by unfold FacOk; infer_instance
instance (n h : Int) : Decidable (UntilOk n h) := by unfold UntilOk; infer_instance
instance (N At now more h : Int) : Decidable (ChOk N At now more h) := by unfold ChOk; infer_instance
def facW (t h : Int) : Int := if FacOk t h then ((t.toNat / h.toNat : Nat) : Int) else 0
def facS (t h : Int) : Int := if FacOk t h then tab (t.toNat % h.toNat * 16 / h.toNat) else 0
def facE (t h : Int) : Int := if FacOk t h then 0 else 2
def aftV (n t h : Int) : Int := if FacOk t h ∧ 0 ≤ n then (aftN n.toNat t.toNat h.toNat : Nat) else 0
def aftE (n t h : Int) : Int := if FacOk t h ∧ 0 ≤ n then 0 else 2
def untV (n h : Int) : Int := if UntilOk n h then (Lib.bitLen n.toNat * h.toNat : Nat) else 0
def untE (n h : Int) : Int := if UntilOk n h then 0 else 2
def chV (N At now more h : Int) : Int := if ChOk N At now more h then endV ((aftN N.toNat (now.toNat - At.toNat) h.toNat : Nat) + more) else 0
def chA (N At now more h : Int) : Int := if ChOk N At now more h then now else 0
def chE (N At now more h : Int) : Int := if ChOk N At now more h then 0 else 2

theorem factor_any (t h : Int) (w : World) : Calls Try.prog 10 #[.int .i64 t, .int .i64 h] w fun e w' => e = .returned (.tuple #[.int .i64 (facW t h), .int .i64 (facS t h), .int .i64 (facE t h)]) ∧ Below w.heap.size w w' := by
  by_cases c : FacOk t h
  · have c' := c
    obtain ⟨c1, c2, c3, c4⟩ := c'
    obtain ⟨T, rfl⟩ := Int.eq_ofNat_of_zero_le (a := t) c1
    obtain ⟨Hh, rfl⟩ := Int.eq_ofNat_of_zero_le (a := h) (by omega)
    refine (factor_ok T Hh w (by omega) (by omega) (by omega)).mono ?_
    rintro e w' ⟨rfl, hb⟩
    exact ⟨ret_tup3 (by simp [facW, c]) (by simp [facS, c]) (by simp [facE, c]), hb⟩
  · refine (factor_no t h w c).mono ?_
    rintro e w' ⟨rfl, rfl⟩
    exact ⟨ret_tup3 (by simp [facW, c]) (by simp [facS, c]) (by simp [facE, c]), Below.refl _ _⟩
theorem after_any (n t h : Int) (w : World) (hn : I64 n) : Calls Try.prog 13 #[.int .i64 n, .int .i64 t, .int .i64 h] w fun e w' => e = .returned (.tuple #[.int .i64 (aftV n t h), .int .i64 (aftE n t h)]) ∧ Below w.heap.size w w' := by
  by_cases c : FacOk t h ∧ 0 ≤ n
  · have c' := c
    obtain ⟨⟨c1, c2, c3, c4⟩, c5⟩ := c'
    obtain ⟨T, rfl⟩ := Int.eq_ofNat_of_zero_le (a := t) c1
    obtain ⟨Hh, rfl⟩ := Int.eq_ofNat_of_zero_le (a := h) (by omega)
    obtain ⟨m, rfl⟩ := Int.eq_ofNat_of_zero_le (a := n) (by omega)
    refine (after_ok m T Hh w (by have := hn.2; omega) (by omega) (by omega) (by omega)).mono ?_
    rintro e w' ⟨rfl, hb⟩
    exact ⟨ret_tup2 (by rw [aftV, if_pos c]; simp) (by rw [aftE, if_pos c]), hb⟩
  · refine (after_no n t h w c).mono ?_
    rintro e w' ⟨rfl, hb⟩
    exact ⟨ret_tup2 (by rw [aftV, if_neg c]) (by rw [aftE, if_neg c]), hb⟩
theorem until_any (n h : Int) (w : World) (hn : I64 n) : Calls Try.prog 15 #[.int .i64 n, .int .i64 h] w fun e w' => e = .returned (.tuple #[.int .i64 (untV n h), .int .i64 (untE n h)]) ∧ w' = w := by
  by_cases c : UntilOk n h
  · have c' := c
    obtain ⟨c1, c2, c3⟩ := c'
    obtain ⟨Hh, rfl⟩ := Int.eq_ofNat_of_zero_le (a := h) (by omega)
    obtain ⟨m, rfl⟩ := Int.eq_ofNat_of_zero_le (a := n) (by omega)
    refine (until_ok m Hh w (by have := hn.2; omega) (by omega) (by omega)).mono ?_
    rintro e w' ⟨rfl, hb⟩
    exact ⟨ret_tup2 (by rw [untV, if_pos c]; simp) (by rw [untE, if_pos c]), hb⟩
  · refine (until_no n h w c).mono ?_
    rintro e w' ⟨rfl, hb⟩
    exact ⟨ret_tup2 (by rw [untV, if_neg c]) (by rw [untE, if_neg c]), hb⟩
theorem charge_any (N At now more h : Int) (w : World) (hN : I64 N) (hm : I64 more) :
    Calls Try.prog 17 #[.agg #[.int .i64 N, .int .i64 At], .int .i64 now, .int .i64 more, .int .i64 h] w
      fun e w' => e = .returned (.tuple #[.agg #[.int .i64 (chV N At now more h), .int .i64 (chA N At now more h)], .int .i64 (chE N At now more h)]) ∧ Below w.heap.size w w' := by
  by_cases c : ChOk N At now more h
  · have c' := c
    obtain ⟨c1, c2, c3, c4, c5, c6, c7⟩ := c'
    obtain ⟨n, rfl⟩ := Int.eq_ofNat_of_zero_le (a := N) c1
    obtain ⟨a, rfl⟩ := Int.eq_ofNat_of_zero_le (a := At) c2
    obtain ⟨o, rfl⟩ := Int.eq_ofNat_of_zero_le (a := now) (by omega)
    obtain ⟨m, rfl⟩ := Int.eq_ofNat_of_zero_le (a := more) c5
    obtain ⟨Hh, rfl⟩ := Int.eq_ofNat_of_zero_le (a := h) (by omega)
    refine (charge_ok n a o m Hh w (by have := hN.2; omega) (by have := hm.2; omega) (by omega) (by omega) (by omega) (by omega)).mono ?_
    rintro e w' ⟨rfl, hb⟩
    exact ⟨ret_use (by rw [chV, if_pos c]; simp) (by rw [chA, if_pos c]) (by rw [chE, if_pos c]), hb⟩
  · refine (charge_no N At now more h w c).mono ?_
    rintro e w' ⟨rfl, hb⟩
    exact ⟨ret_use (by rw [chV, if_neg c]) (by rw [chA, if_neg c]) (by rw [chE, if_neg c]), hb⟩
theorem aftV_I64 (n t h : Int) (hn : I64 n) : I64 (aftV n t h) ∧ 0 ≤ aftV n t h := by
  unfold aftV
  split
  · rename_i c
    obtain ⟨⟨c1, c2, c3, c4⟩, c5⟩ := c
    have b1 := aftN_le (n := n.toNat) (t := t.toNat) (h := h.toNat) (by omega)
    have b2 := Nat.div_le_self n.toNat (2 ^ (t.toNat / h.toNat))
    unfold I64 at *; omega
  · unfold I64; omega
end Go.Proofs.Ytggamihjmggmlaa
