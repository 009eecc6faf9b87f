
/-
  math/bits.Div64: the quotient of a number of 128 bits, by Knuth's two digits.
-/
import Derived.Test.YtbnlmeegepgioaaDoorNum3
import Derived.Deep.DeepCutAuto
import Derived.Deep.CutBlock
namespace Go.Proofs.YtbnlmeegepgioaaDoor
open Go.ChangeShapes Go.WideShapes Go.ChangeAt Go.RowKit
set_option linter.unusedVariables false

def DivRes (Q : Int) (W : World) (e : Ending) (w' : World) : Prop := ∃ r : Int, e = .returned (.tuple #[.int .u64 Q, .int .u64 r]) ∧ Below W.heap.size W w'
def AnyInt (r : Value) : Prop := ∃ x : Int, r = .int .u64 x

theorem div64_t (hi lo y s Y v1 v0 u32 u10 u1 u0 Q1 R1 Q0 R0 : Nat) (w : World) (hs : s ≤ 63) (h0 : 0 < hi) (h1 : hi < y) (h2 : y < 18446744073709551616) (h3 : lo < 18446744073709551616)
   (rY : IntKind.u64.wrap ((y : Int) * 2 ^ s) = (Y : Int)) (rv1 : (Y : Int) / 4294967296 = (v1 : Int)) (rv0 : bits .and .u64 (Y : Int) 4294967295 = (v0 : Int)) (hv1 : 2147483648 ≤ v1) (hv2 : v1 < 4294967296) (hv0 : v0 < 4294967296)
   (r32 : bits .or .u64 (IntKind.u64.wrap ((hi : Int) * 2 ^ s)) ((lo : Int) / 2 ^ (64 - s)) = (u32 : Int)) (h32 : u32 < v1 * 4294967296 + v0)
   (r10 : IntKind.u64.wrap ((lo : Int) * 2 ^ s) = (u10 : Int)) (ru1 : (u10 : Int) / 4294967296 = (u1 : Int)) (ru0 : bits .and .u64 (u10 : Int) 4294967295 = (u0 : Int)) (hu1 : u1 < 4294967296) (hu0 : u0 < 4294967296)
   (hQ1 : Hid ((u32 * 4294967296 + u1) / (v1 * 4294967296 + v0) = Q1)) (bQ1 : Q1 < 4294967296)
   (rR : IntKind.u64.wrap (IntKind.u64.wrap (IntKind.u64.wrap ((u32 : Int) * 4294967296) + (u1 : Int)) - IntKind.u64.wrap ((Q1 : Int) * (Y : Int))) = (R1 : Int)) (hR1 : R1 < v1 * 4294967296 + v0)
   (hQ0 : Hid ((R1 * 4294967296 + u0) / (v1 * 4294967296 + v0) = Q0)) (bQ0 : Q0 < 4294967296)
   (rR0 : IntKind.u64.wrap (IntKind.u64.wrap (IntKind.u64.wrap ((R1 : Int) * 4294967296) + (u0 : Int)) - IntKind.u64.wrap ((Q0 : Int) * (Y : Int))) = (R0 : Int)) (hR0 : R0 < 18446744073709551616)
   (L : Hid (∀ w, Calls Tryd.prog 64 #[.int .u64 y] w fun e w' => e = .returned (.int .i64 s) ∧ w' = w)) :
    Calls Tryd.prog 60 #[.int .u64 hi, .int .u64 lo, .int .u64 y] w (DivRes ((Q1 * 4294967296 + Q0 : Nat) : Int) w) := by
  have hy0 : ((y : Int) == 0) = false := by simpa using (show ((y : Int) ≠ 0) by omega)
  have hh0 : ((hi : Int) == 0) = false := by simpa using (show ((hi : Int) ≠ 0) by omega)
  have hyh : (hi : Int) < y := by omega
  have h2' : (y : Int) ≤ 18446744073709551615 := by omega
  have h3' : (lo : Int) ≤ 18446744073709551615 := by omega
  have hs' : (s : Int) ≤ 63 := by omega
  have e0 := Lib.hid (M.est_start u32 u1 v1 v0 hv1 hv2 hv0 hu1 h32)
  have b32 : u32 < 18446744073709551616 := by omega
  have rq : (u32 : Int) / (v1 : Int) = ((u32 / v1 : Nat) : Int) := (Int.natCast_ediv u32 v1).symm
  have hm := Nat.div_add_mod u32 v1
  have bq : (u32 / v1) * v1 ≤ u32 := Nat.div_mul_le_self u32 v1
  have rr : (u32 : Int) - ((u32 / v1 : Nat) : Int) * (v1 : Int) = ((u32 % v1 : Nat) : Int) := by rw [← Int.natCast_mul, Nat.mul_comm]; omega
  have bq' : ((u32 / v1 : Nat) : Int) * (v1 : Int) ≤ 18446744073709551615 := by rw [← Int.natCast_mul]; omega
  have bq0 : 0 ≤ ((u32 / v1 : Nat) : Int) * (v1 : Int) := by rw [← Int.natCast_mul]; omega
  have bq1 : ((u32 / v1 : Nat) : Int) * (v1 : Int) ≤ (u32 : Int) := by rw [← Int.natCast_mul]; omega
  have b32' : (u32 : Int) ≤ 18446744073709551615 := by omega
  clear h1 h2 h3 hs h0 hm bq b32
  generalize u32 / v1 = q0 at *
  generalize u32 % v1 = r0 at *
  have bq2 : (q0 : Int) ≤ 18446744073709551615 := by have := e0.out.le; omega
  go_enter Tryd.func60, Tryd.ntmps60
  go_upto_block 0 with (go_at_call 64; refine (L.out _).mono ?_; rintro e w' ⟨rfl, rfl⟩)
  go_cut [15, 16] (fun q r wx => q = .int .u64 Q1 ∧ AnyInt r ∧ wx = w')
  case first =>
    clear rY rv1 rv0 r32 r10 ru1 ru0 hyh h2' h3' hs' hh0 hy0 L rq rr bq' bq0 bq1 bq2
    go_wp2
    go_loop [15, 16] (fun a b => ∃ q r : Nat, a = .int .u64 q ∧ b = .int .u64 r ∧ Hid (M.Est u32 u1 v1 v0 q r)) (fun a _ => (intOf a).toNat)
    case atStart => exact ⟨q0, r0, rfl, rfl, e0⟩
    case round =>
      obtain ⟨q, r, rfl, rfl, e⟩ := hrel
      have f1 := M.est_fits e.out hv0
      have f2 := e.out.le
      have f3 := e.out.lt
      have f2' : (q : Int) ≤ 4294967297 := by omega
      have f3' : (r : Int) < 4294967296 := by omega
      have k1 : 2147483648 ≤ (v1 : Int) := by omega
      have k2 : (v1 : Int) < 4294967296 := by omega
      have k3 : (u1 : Int) < 4294967296 := by omega
      have f1' : (q : Int) * (v0 : Int) ≤ 18446744073709551615 := by rw [← Int.natCast_mul]; omega
      have f1'' : 0 ≤ (q : Int) * (v0 : Int) := by rw [← Int.natCast_mul]; omega
      by_cases g : 4294967296 ≤ q ∨ 4294967296 * r + u1 < q * v0
      · obtain ⟨p1, p2, p3⟩ := M.est_yes e.out (by omega) hu1 h32 g
        have P2 := Lib.hid p2
        have P3 := Lib.hid p3
        have B : Hid (4294967296 ≤ r + v1 → q - 1 = Q1) := fun h => (M.est_break e.out (by omega) hv0 hu1 h32 g h).symm.trans hQ1.out
        have g' : decide (4294967296 ≤ (q : Int)) = true ∨ decide (4294967296 ≤ (q : Int)) = false ∧ decide (4294967296 * (r : Int) + u1 < (q : Int) * (v0 : Int)) = true := by
          rw [← Int.natCast_mul]
          by_cases c : 4294967296 ≤ (q : Int)
          · exact .inl (decide_eq_true c)
          · exact .inr ⟨decide_eq_false c, decide_eq_true (by omega)⟩
        clear p2 p3 g f1
        by_cases hbr : 4294967296 ≤ r + v1
        · have hbr' : decide (4294967296 ≤ (r : Int) + v1) = true := decide_eq_true (by omega)
          have B' := Lib.hid (B.out hbr)
          have p1' : 1 ≤ (q : Int) := by omega
          clear hbr f2 f3 hv1 hv2 hv0 h32 hu1 hu0 p1
          rcases g' with g' | ⟨g1, g2⟩
          all_goals
            go_wp2
            go_meet
            exact ⟨by rw [← B'.out]; congr 1; omega, ⟨_, rfl⟩, rfl⟩
        · have hbr' : decide (4294967296 ≤ (r : Int) + v1) = false := decide_eq_false (by omega)
          have En : Hid (M.Est u32 u1 v1 v0 (q - 1) (r + v1)) := ⟨P2.out, P3.out, by omega, by omega⟩
          have p1' : 1 ≤ (q : Int) := by omega
          clear hbr f2 f3 hv1 hv2 hv0 h32 hu1 hu0 p1
          rcases g' with g' | ⟨g1, g2⟩
          all_goals
            go_wp2
            go_round
            case rel => exact ⟨q - 1, r + v1, by congr 1; omega, by go_num, En⟩
            case measure => simp [intOf]; omega
      · have E := Lib.hid ((M.est_no e.out (by omega) (by omega)).symm.trans hQ1.out)
        have g1 : decide (4294967296 ≤ (q : Int)) = false := decide_eq_false (by omega)
        have g2 : decide (4294967296 * (r : Int) + u1 < (q : Int) * (v0 : Int)) = false := decide_eq_false (by rw [← Int.natCast_mul]; omega)
        clear g f1 f2 f3 hv1 hv2 hv0 h32 hu1 hu0
        go_wp2
        go_meet
        exact ⟨by rw [E.out], ⟨_, rfl⟩, rfl⟩
  case rest =>
    obtain ⟨rfl, ⟨x, rfl⟩, rfl⟩ := hcut
    clear rY rv1 rv0 r32 r10 ru1 ru0 hyh h2' h3' hh0 hy0 L rq rr bq' bq0 bq1 bq2 e0 b32'
    have e1 := Lib.hid (M.est_start R1 u0 v1 v0 hv1 hv2 hv0 hu0 hR1)
    have b32 : R1 < 18446744073709551616 := by omega
    have rq : (R1 : Int) / (v1 : Int) = ((R1 / v1 : Nat) : Int) := (Int.natCast_ediv R1 v1).symm
    have hm := Nat.div_add_mod R1 v1
    have bq : (R1 / v1) * v1 ≤ R1 := Nat.div_mul_le_self R1 v1
    have rr : (R1 : Int) - ((R1 / v1 : Nat) : Int) * (v1 : Int) = ((R1 % v1 : Nat) : Int) := by rw [← Int.natCast_mul, Nat.mul_comm]; omega
    have bq' : ((R1 / v1 : Nat) : Int) * (v1 : Int) ≤ 18446744073709551615 := by rw [← Int.natCast_mul]; omega
    have bq0 : 0 ≤ ((R1 / v1 : Nat) : Int) * (v1 : Int) := by rw [← Int.natCast_mul]; omega
    have bq1 : ((R1 / v1 : Nat) : Int) * (v1 : Int) ≤ (R1 : Int) := by rw [← Int.natCast_mul]; omega
    have b32' : (R1 : Int) ≤ 18446744073709551615 := by omega
    clear hm bq b32
    generalize R1 / v1 = q1 at *
    generalize R1 % v1 = r1 at *
    have bq2 : (q1 : Int) ≤ 18446744073709551615 := by have := e1.out.le; omega
    go_upto_block 2 with (fail)
    clear rR
    go_cut [18, 16] (fun q r wx => q = .int .u64 Q0 ∧ AnyInt r ∧ wx = wc)
    case first =>
      clear hs' rq rr bq' bq0 bq1 bq2 rR0 b32'
      go_wp2
      go_loop [18, 16] (fun a b => ∃ q r : Nat, a = .int .u64 q ∧ b = .int .u64 r ∧ Hid (M.Est R1 u0 v1 v0 q r)) (fun a _ => (intOf a).toNat)
      case atStart => exact ⟨q1, r1, rfl, rfl, e1⟩
      case round =>
        obtain ⟨q, r, rfl, rfl, e⟩ := hrel
        have f1 := M.est_fits e.out hv0
        have f2 := e.out.le
        have f3 := e.out.lt
        have f2' : (q : Int) ≤ 4294967297 := by omega
        have f3' : (r : Int) < 4294967296 := by omega
        have k1 : 2147483648 ≤ (v1 : Int) := by omega
        have k2 : (v1 : Int) < 4294967296 := by omega
        have k3 : (u0 : Int) < 4294967296 := by omega
        have f1' : (q : Int) * (v0 : Int) ≤ 18446744073709551615 := by rw [← Int.natCast_mul]; omega
        have f1'' : 0 ≤ (q : Int) * (v0 : Int) := by rw [← Int.natCast_mul]; omega
        by_cases g : 4294967296 ≤ q ∨ 4294967296 * r + u0 < q * v0
        · obtain ⟨p1, p2, p3⟩ := M.est_yes e.out (by omega) hu0 hR1 g
          have P2 := Lib.hid p2
          have P3 := Lib.hid p3
          have B : Hid (4294967296 ≤ r + v1 → q - 1 = Q0) := fun h => (M.est_break e.out (by omega) hv0 hu0 hR1 g h).symm.trans hQ0.out
          have g' : decide (4294967296 ≤ (q : Int)) = true ∨ decide (4294967296 ≤ (q : Int)) = false ∧ decide (4294967296 * (r : Int) + u0 < (q : Int) * (v0 : Int)) = true := by
            rw [← Int.natCast_mul]
            by_cases c : 4294967296 ≤ (q : Int)
            · exact .inl (decide_eq_true c)
            · exact .inr ⟨decide_eq_false c, decide_eq_true (by omega)⟩
          clear p2 p3 g f1
          by_cases hbr : 4294967296 ≤ r + v1
          · have hbr' : decide (4294967296 ≤ (r : Int) + v1) = true := decide_eq_true (by omega)
            have B' := Lib.hid (B.out hbr)
            have p1' : 1 ≤ (q : Int) := by omega
            clear hbr f2 f3 hv1 hv2 hv0 hR1 hu0 p1
            rcases g' with g' | ⟨g1, g2⟩
            all_goals
              go_wp2
              go_meet
              exact ⟨by rw [← B'.out]; congr 1; omega, ⟨_, rfl⟩, rfl⟩
          · have hbr' : decide (4294967296 ≤ (r : Int) + v1) = false := decide_eq_false (by omega)
            have En : Hid (M.Est R1 u0 v1 v0 (q - 1) (r + v1)) := ⟨P2.out, P3.out, by omega, by omega⟩
            have p1' : 1 ≤ (q : Int) := by omega
            clear hbr f2 f3 hv1 hv2 hv0 hR1 hu0 p1
            rcases g' with g' | ⟨g1, g2⟩
            all_goals
              go_wp2
              go_round
              case rel => exact ⟨q - 1, r + v1, by congr 1; omega, by go_num, En⟩
              case measure => simp [intOf]; omega
        · have E := Lib.hid ((M.est_no e.out (by omega) (by omega)).symm.trans hQ0.out)
          have g1 : decide (4294967296 ≤ (q : Int)) = false := decide_eq_false (by omega)
          have g2 : decide (4294967296 * (r : Int) + u0 < (q : Int) * (v0 : Int)) = false := decide_eq_false (by rw [← Int.natCast_mul]; omega)
          clear g f1 f2 f3 hv1 hv2 hv0 hR1 hu0
          go_wp2
          go_meet
          exact ⟨by rw [E.out], ⟨_, rfl⟩, rfl⟩
    case rest =>
      obtain ⟨rfl, ⟨x, rfl⟩, rfl⟩ := hcut
      have k1 : (Q1 : Int) < 4294967296 := by omega
      have k2 : (Q0 : Int) < 4294967296 := by omega
      have k3 : (R0 : Int) ≤ 18446744073709551615 := by omega
      have k4 : Hid ((Q1 : Int) * 4294967296 + Q0 = ((Q1 * 4294967296 + Q0 : Nat) : Int)) := by show _ = _; omega
      clear e1 rq rr bq' bq0 bq1 bq2 b32'
      go_wp2
      go_ret2
      exact ⟨_, ret_tup2 k4.out rfl, Below.refl _ _⟩

end Go.Proofs.YtbnlmeegepgioaaDoor
