
/-
  math/bits.Div64 and num.MulDiv, num.Up: contracts.
-/
import Derived.Test.YtbnlmeegepgioaaDoorDiv64
import Derived.Lib.BitFns
namespace Go.Proofs.YtbnlmeegepgioaaDoor
open Go.ChangeShapes Go.WideShapes Go.ChangeAt Go.RowKit
set_option linter.unusedVariables false

theorem bitLen_bounds : ∀ (k x : Nat), x < 2 ^ k → k ≤ 64 → x ≠ 0 → 1 ≤ Lib.bitLen x ∧ 2 ^ (Lib.bitLen x - 1) ≤ x ∧ x < 2 ^ Lib.bitLen x := by
  intro k
  induction k with
  | zero => intro x h _ h0; simp at h; omega
  | succ k ih =>
    intro x h hk h0
    have hx : x < 2 ^ 64 := Nat.lt_of_lt_of_le h (Nat.pow_le_pow_right (by omega) hk)
    rw [Lib.bitLen_half x h0 hx]
    by_cases h1 : x / 2 = 0
    · have : x = 1 := by omega
      subst this
      decide
    · obtain ⟨p1, p2, p3⟩ := ih (x / 2) (by rw [Nat.pow_succ] at h; omega) (by omega) h1
      refine ⟨by omega, ?_, ?_⟩
      · have e : 1 + Lib.bitLen (x / 2) - 1 = (Lib.bitLen (x / 2) - 1) + 1 := by omega
        rw [e, Nat.pow_succ]; omega
      · rw [Nat.add_comm, Nat.pow_succ]; omega

theorem quo_lt' (u32 u1 v : Nat) (hu : u1 < 4294967296) (h : u32 < v) : (u32 * 4294967296 + u1) / v < 4294967296 := M.quo_lt u32 u1 v hu h
theorem or_add {a b s : Nat} (h : b < 2 ^ s) : (a * 2 ^ s ||| b) = a * 2 ^ s + b := by
  have := Nat.shiftLeft_add_eq_or_of_lt h a
  rw [Nat.shiftLeft_eq] at this
  exact this.symm

theorem quo_of {x Y q r : Nat} (h : Y * q + r = x) (hr : r < Y) : x / Y = q := by
  rw [← h, Nat.mul_add_div (by omega), Nat.div_eq_of_lt hr, Nat.add_zero]
theorem knuth_two (a b1 b0 Y q r q' r' : Nat) (hb : b0 < 4294967296) (h : Y * q + r = a * 4294967296 + b1) (h' : Y * q' + r' = r * 4294967296 + b0) (hr' : r' < Y) :
    (a * 18446744073709551616 + (b1 * 4294967296 + b0)) / Y = q * 4294967296 + q' := by
  refine quo_of (r := r') ?_ hr'
  rw [Nat.mul_add, ← Nat.mul_assoc]
  generalize Y * q = A at *
  generalize Y * q' = B at *
  omega
theorem wrap_left (a b P r : Nat) (h : a * 4294967296 + b = P + r) (hr : r < 18446744073709551616) :
    IntKind.u64.wrap (IntKind.u64.wrap (IntKind.u64.wrap ((a : Int) * 4294967296) + (b : Int)) - IntKind.u64.wrap (P : Int)) = (r : Int) := by
  simp only [IntKind.wrap_u64]; omega
theorem wrap_nat (n : Nat) : IntKind.u64.wrap (n : Int) = ((n % 18446744073709551616 : Nat) : Int) := by rw [IntKind.wrap_u64]; omega
theorem and32 (n : Nat) (h : n < 18446744073709551616) : bits .and .u64 (n : Int) 4294967295 = ((n % 4294967296 : Nat) : Int) := by
  have e := u64_and_nat n 4294967295 h (by omega)
  have e2 : n &&& 4294967295 = n % 4294967296 := Nat.and_two_pow_sub_one_eq_mod n 32
  rw [e2] at e; exact e

theorem div64_zero (lo y : Nat) (w : World) (h1 : 0 < y) (h2 : y < 18446744073709551616) (h3 : lo < 18446744073709551616) :
    Calls Tryd.prog 60 #[.int .u64 0, .int .u64 lo, .int .u64 y] w (DivRes ((lo / y : Nat) : Int) w) := by
  have hy0 : ((y : Int) == 0) = false := by simpa using (show ((y : Int) ≠ 0) by omega)
  have hyh : decide ((y : Int) ≤ 0) = false := decide_eq_false (by omega)
  have h1' : 1 ≤ (y : Int) := by omega
  have h2' : (y : Int) ≤ 18446744073709551615 := by omega
  have h3' : (lo : Int) ≤ 18446744073709551615 := by omega
  have E : Hid (IntKind.u64.wrap ((lo : Int) / y) = ((lo / y : Nat) : Int)) := by
    show _ = _
    rw [← Int.natCast_ediv]; have hd := Nat.div_le_self lo y; generalize lo / y = d at *; exact IntWalk.u64_in _ ⟨by omega, by omega⟩
  clear h1 h2 h3
  go_enter Tryd.func60, Tryd.ntmps60
  go_wp2
  go_quiet (fail)
  go_wp2
  go_ret2
  exact ⟨_, ret_tup2 E.out rfl, below_drewN (Below.refl _ _) _⟩

theorem div64_pos (hi lo y : Nat) (w : World) (h0 : 0 < hi) (h1 : hi < y) (h2 : y < 18446744073709551616) (h3 : lo < 18446744073709551616) :
    Calls Tryd.prog 60 #[.int .u64 hi, .int .u64 lo, .int .u64 y] w (DivRes (((hi * 18446744073709551616 + lo) / y : Nat) : Int) w) := by
  obtain ⟨p1, p2, p3⟩ := bitLen_bounds 64 y h2 (by omega) (by omega)
  have p4 : Lib.bitLen y ≤ 64 := Lib.bitLen_le y 64 (by omega) h2
  obtain ⟨s, hs⟩ : ∃ s, s = 64 - Lib.bitLen y := ⟨_, rfl⟩
  have hsl : s + Lib.bitLen y = 64 := by omega
  have eP : 2 ^ Lib.bitLen y * 2 ^ s = 18446744073709551616 := by rw [← Nat.pow_add, Nat.add_comm, hsl]
  have eP' : 2 ^ (Lib.bitLen y - 1) * 2 ^ s = 9223372036854775808 := by rw [← Nat.pow_add, show Lib.bitLen y - 1 + s = 63 by omega]
  have eQ : 2 ^ (64 - s) * 2 ^ s = 18446744073709551616 := by rw [← Nat.pow_add, show 64 - s + s = 64 by omega]
  have hP : 0 < 2 ^ s := Nat.pos_of_ne_zero (by simp)
  have hY1 : y * 2 ^ s < 18446744073709551616 := by rw [← eP]; exact Nat.mul_lt_mul_of_pos_right p3 hP
  have hY2 : 9223372036854775808 ≤ y * 2 ^ s := by rw [← eP']; exact Nat.mul_le_mul_right _ p2
  have hlq : lo / 2 ^ (64 - s) < 2 ^ s := by rw [Nat.div_lt_iff_lt_mul (Nat.pos_of_ne_zero (by simp)), Nat.mul_comm, eQ]; exact h3
  have hlm : lo * 2 ^ s = (lo / 2 ^ (64 - s)) * 18446744073709551616 + (lo * 2 ^ s) % 18446744073709551616 := by
    have e1 : lo * 2 ^ s / 18446744073709551616 = lo / 2 ^ (64 - s) := by rw [← eQ]; exact Nat.mul_div_mul_right _ _ hP
    have := Nat.div_add_mod (lo * 2 ^ s) 18446744073709551616
    rw [e1] at this; omega
  have hhi : hi * 2 ^ s + 2 ^ s ≤ y * 2 ^ s := by rw [← Nat.succ_mul]; exact Nat.mul_le_mul_right _ h1
  have hw1 : IntKind.u64.wrap ((hi : Int) * 2 ^ s) = ((hi * 2 ^ s : Nat) : Int) := by
    have : ((hi : Int) * 2 ^ s) = ((hi * 2 ^ s : Nat) : Int) := by simp
    rw [this, wrap_nat, Nat.mod_eq_of_lt (by omega)]
  have hwl : IntKind.u64.wrap ((lo : Int) * 2 ^ s) = ((lo * 2 ^ s % 18446744073709551616 : Nat) : Int) := by
    have : ((lo : Int) * 2 ^ s) = ((lo * 2 ^ s : Nat) : Int) := by simp
    rw [this, wrap_nat]
  have hwy : IntKind.u64.wrap ((y : Int) * 2 ^ s) = ((y * 2 ^ s : Nat) : Int) := by
    have : ((y : Int) * 2 ^ s) = ((y * 2 ^ s : Nat) : Int) := by simp
    rw [this, wrap_nat, Nat.mod_eq_of_lt hY1]
  have r32 : bits .or .u64 (IntKind.u64.wrap ((hi : Int) * 2 ^ s)) ((lo : Int) / 2 ^ (64 - s)) = ((hi * 2 ^ s + lo / 2 ^ (64 - s) : Nat) : Int) := by
    have e : ((lo : Int) / 2 ^ (64 - s)) = ((lo / 2 ^ (64 - s) : Nat) : Int) := by simp
    rw [hw1, e, u64_or_nat _ _ (by omega) (by omega), or_add hlq]
  have tot : (hi * 18446744073709551616 + lo) * 2 ^ s = (hi * 2 ^ s + lo / 2 ^ (64 - s)) * 18446744073709551616 + lo * 2 ^ s % 18446744073709551616 := by
    rw [Nat.add_mul, Nat.mul_right_comm]; omega
  have quo : (hi * 18446744073709551616 + lo) / y = ((hi * 2 ^ s + lo / 2 ^ (64 - s)) * 18446744073709551616 + lo * 2 ^ s % 18446744073709551616) / (y * 2 ^ s) := by
    rw [← tot]; exact (Nat.mul_div_mul_right _ _ hP).symm
  rw [quo]
  have L : Hid (∀ w, Calls Tryd.prog 64 #[.int .u64 y] w fun e w' => e = .returned (.int .i64 s) ∧ w' = w) := by
    intro w
    refine (Tryd.bits_LeadingZeros64 y w (by omega) (by omega)).mono ?_
    rintro e w' ⟨rfl, rfl⟩
    exact ⟨ret_int (by rw [hs]; simp; omega), rfl⟩
  have hs63 : s ≤ 63 := by omega
  have hlt : hi * 2 ^ s + lo / 2 ^ (64 - s) < y * 2 ^ s := by omega
  generalize hi * 2 ^ s + lo / 2 ^ (64 - s) = u32 at *
  generalize lo * 2 ^ s % 18446744073709551616 = u10 at *
  generalize y * 2 ^ s = Y at *
  have h10 : u10 < 18446744073709551616 := by
    have : (u10 : Int) = IntKind.u64.wrap ((lo : Int) * 2 ^ s) := hwl.symm
    rw [IntKind.wrap_u64] at this; omega
  clear tot quo hhi hlm hw1 hP eQ eP' eP p1 p2 p3 p4
  obtain ⟨v1, v0, eY, hv0⟩ : ∃ v1 v0, Y = v1 * 4294967296 + v0 ∧ v0 < 4294967296 := ⟨Y / 4294967296, Y % 4294967296, by omega, by omega⟩
  obtain ⟨u1, u0, eu, hu0⟩ : ∃ u1 u0, u10 = u1 * 4294967296 + u0 ∧ u0 < 4294967296 := ⟨u10 / 4294967296, u10 % 4294967296, by omega, by omega⟩
  have a1 := and32 Y hY1
  have a2 := and32 u10 h10
  have c1 : (Y : Int) / 4294967296 = (v1 : Int) := by omega
  have c2 : (u10 : Int) / 4294967296 = (u1 : Int) := by omega
  have c3 : bits .and .u64 (Y : Int) 4294967295 = (v0 : Int) := by rw [a1]; omega
  have c4 : bits .and .u64 (u10 : Int) 4294967295 = (u0 : Int) := by rw [a2]; omega
  clear a1 a2
  obtain ⟨Q1, R1, e1, l1⟩ : ∃ q r, Y * q + r = u32 * 4294967296 + u1 ∧ r < Y := ⟨_, _, Nat.div_add_mod _ _, Nat.mod_lt _ (by omega)⟩
  obtain ⟨Q0, R0, e0, l0⟩ : ∃ q r, Y * q + r = R1 * 4294967296 + u0 ∧ r < Y := ⟨_, _, Nat.div_add_mod _ _, Nat.mod_lt _ (by omega)⟩
  have q1 := quo_of e1 l1
  have q0 := quo_of e0 l0
  have b1 := quo_lt' u32 u1 Y (by omega) hlt
  have b0 := quo_lt' R1 u0 Y hu0 l1
  rw [q1] at b1
  rw [q0] at b0
  rw [eu, knuth_two u32 u1 u0 Y Q1 R1 Q0 R0 hu0 e1 e0 l0]
  rw [eY] at q1 q0
  refine div64_t hi lo y s Y v1 v0 u32 u10 u1 u0 Q1 R1 Q0 R0 w hs63 h0 h1 h2 h3 hwy c1 c3 (by omega) (by omega) hv0 r32 (by omega)
    hwl c2 c4 (by omega) hu0 q1 b1 ?_ (by omega) q0 b0 ?_ (by omega) L
  · rw [← Int.natCast_mul]
    exact wrap_left _ _ _ _ (by rw [Nat.mul_comm _ Y]; exact e1.symm) (by omega)
  · rw [← Int.natCast_mul]
    exact wrap_left _ _ _ _ (by rw [Nat.mul_comm _ Y]; exact e0.symm) (by omega)

theorem div64_any (hi lo y : Nat) (w : World) (h1 : hi < y) (h2 : y < 18446744073709551616) (h3 : lo < 18446744073709551616) :
    Calls Tryd.prog 60 #[.int .u64 hi, .int .u64 lo, .int .u64 y] w (DivRes (((hi * 18446744073709551616 + lo) / y : Nat) : Int) w) := by
  by_cases h0 : hi = 0
  · subst h0
    have := div64_zero lo y w h1 h2 h3
    simpa using this
  · exact div64_pos hi lo y w (by omega) h1 h2 h3

end Go.Proofs.YtbnlmeegepgioaaDoor
