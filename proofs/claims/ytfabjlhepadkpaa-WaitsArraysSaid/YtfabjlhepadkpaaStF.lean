/-
  slices.SortStableFunc at api.Where, whole.
-/
import Derived.Test.YtfabjlhepadkpaaStN
import Derived.Test.YtfabjlhepadkpaaDePQS
namespace Go.Proofs.Ytfabjlhepadkpaa
open Go Go.RowKit Go.Lib
set_option linter.unusedVariables false

set_option maxRecDepth 100000 in
set_option maxHeartbeats 4000000 in
theorem stable_any (w0 : World) (g n cap : Nat) (jf : Nat → Nat) (hf : Nat → Int) (w : World) (hW : WS w0 g n jf hf (fun k => k) w) (hn : n ≤ 4194304) :
    Calls Try.prog 56 #[.slice (some ⟨g, 0, none⟩) n cap, .int .i64 (n : Nat), .func (.func 48) #[] #[]] w fun e w' =>
      e = .returned (.tuple #[]) ∧ ∃ D', WS w0 g n jf hf D' w' ∧ Good jf D' 0 n := by
  have HW := Lib.hid hW
  have INS : Hid (∀ a b D w, WS w0 g n jf hf D w → a ≤ b → b ≤ n → (∀ k, a ≤ k → k < b → D k = k) → Calls Try.prog 65 #[.slice (some ⟨g, 0, none⟩) n cap, .int .i64 (a : Nat), .int .i64 (b : Nat), .func (.func 48) #[] #[]] w fun e w' => e = .returned (.tuple #[]) ∧ ∃ D', WS w0 g n jf hf D' w' ∧ SR a b D D' ∧ Good jf D' a b) := fun a b D w h h1 h2 h3 =>
    (insW_any w0 g n cap a b jf hf D w h h1 h2 hn (fun i j i1 ij j2 => by rw [h3 i i1 (by omega), h3 j (by omega) j2]; exact ij)).mono (by
      rintro e w' ⟨rfl, D', q1, q2, q3⟩
      exact ⟨rfl, D', q1, q2, Good.first h3 q2 q3⟩)
  have SYM : Hid (∀ a m b D w, WS w0 g n jf hf D w → a < m → m < b → b ≤ n → Good jf D a m → Good jf D m b → Calls Try.prog 66 #[.slice (some ⟨g, 0, none⟩) n cap, .int .i64 (a : Nat), .int .i64 (m : Nat), .int .i64 (b : Nat), .func (.func 48) #[] #[]] w fun e w' => e = .returned (.tuple #[]) ∧ ∃ D', WS w0 g n jf hf D' w' ∧ SR a b D D' ∧ Good jf D' a b) := fun a m b D w h h1 h2 h3 h4 h5 =>
    (sym_any w0 g n cap jf hf hn (b - a + 1) a m b D w h h1 h2 h3 (h4.mrg h5) (by omega)).mono (by
      rintro e w' ⟨rfl, D', q1, q2, q3⟩
      exact ⟨rfl, D', q1, q2, h4.join h5 (by omega) (by omega) q2 q3⟩)
  clear hW
  go_enter Try.func56, Try.ntmps56
  go_wp2_with fail
  go_loopw [7, 8] (fun av bv wr => ∃ (a b : Nat) (D : Nat → Nat), av = .int .i64 a ∧ bv = .int .i64 b ∧ b = a + 20 ∧ a ≤ n ∧ Hid (WS w0 g n jf hf D wr) ∧ Hid (Pre jf D 20 a ∧ ∀ k, a ≤ k → D k = k)) (fun av bv _ => n - (RowKit.intOf av).toNat)
  case atStart => exact ⟨0, 20, _, rfl, rfl, rfl, Nat.zero_le _, HW.out, .zero, fun k _ => rfl⟩
  case round =>
    obtain ⟨a, b, D, rfl, rfl, hb, han, HS, HP⟩ := hrel
    have HBE := Lib.hid hb
    have hb1 : a < b := by omega
    have hb2 : b ≤ a + 20 := by omega
    clear hb
    by_cases hlt : b ≤ n
    · have d1 : decide (b ≤ n) = true := decide_eq_true hlt
      have d2 : decide ((b : Int) ≤ (n : Int)) = true := decide_eq_true (by omega)
      have C := Lib.hid (INS.out a b D wr HS.out (by omega) hlt (fun k k1 k2 => HP.out.2 k k1))
      go_wp2_with fail
      refine C.out.mono ?_; rintro e w1 ⟨rfl, D', q1, q2, q3⟩
      have HS1 := Lib.hid q1
      have HP1 : Hid (Pre jf D' 20 b ∧ ∀ k, b ≤ k → D' k = k) := ⟨by
        have := Pre.more a (HP.out.1.out q2 (Nat.le_refl _)) (by rw [← HBE.out]; exact q3)
        rwa [← HBE.out] at this, fun k hk => by rw [q2.out k (by omega)]; exact HP.out.2 k (by omega)⟩
      clear q1 q2 q3 C HS HP
      go_wp2_with fail
      go_roundw
      case rel => exact ⟨b, b + 20, D', by go_num, by go_num, rfl, hlt, HS1.out, HP1.out⟩
      case measure => simp [RowKit.intOf]; omega
    · have d1 : decide (b ≤ n) = false := decide_eq_false hlt
      have d2 : decide ((b : Int) ≤ (n : Int)) = false := decide_eq_false (by omega)
      have C := Lib.hid (INS.out a n D wr HS.out han (Nat.le_refl _) (fun k k1 k2 => HP.out.2 k k1))
      obtain ⟨wz, hwz⟩ : ∃ wz, wz = wr := ⟨_, rfl⟩
      subst hwz
      go_wp2_with fail
      refine C.out.mono ?_; rintro e w1 ⟨rfl, D1, q1, q2, q3⟩
      have HS1 := Lib.hid q1
      have HP1 : Hid (Run jf D1 20 n 0) := (HP.out.1.out q2 (Nat.le_refl _)).run (.last a han (by omega) q3) han
      clear q1 q2 q3 C HS HP INS HBE d1 d2 hlt hb1 hb2
      go_wp2_with fail
      go_loopw [6] (fun sv wr => ∃ (s : Nat) (D : Nat → Nat), sv = .int .i64 s ∧ 20 ≤ s ∧ s ≤ 8388608 ∧ Hid (WS w0 g n jf hf D wr) ∧ Hid (Run jf D s n 0)) (fun sv _ => n - (RowKit.intOf sv).toNat)
      case atStart => exact ⟨20, D1, rfl, Nat.le_refl _, by omega, HS1.out, HP1.out⟩
      case round =>
        clear HS1 HP1
        obtain ⟨s, D, rfl, hs20, hs8, HS, HP⟩ := hrel
        by_cases hsn : s < n
        · have d1 : decide (s < n) = true := decide_eq_true hsn
          have d2 : decide ((s : Int) < (n : Int)) = true := decide_eq_true (by omega)
          obtain ⟨t, ht⟩ : ∃ t, t = 2 * s := ⟨_, rfl⟩
          have e1 : 2 * (s : Int) = (t : Int) := by omega
          have e1' : (s : Int) * 2 = (t : Int) := by omega
          have e2 : IntKind.i64.wrap (t : Int) = (t : Int) := by rw [IntKind.wrap_i64]; omega
          have HT := Lib.hid ht
          have ht1 : t ≤ 8388608 := by omega
          have ht2 : 40 ≤ t := by omega
          have ht3 : s < t := by omega
          clear ht
          obtain ⟨wz, hwz⟩ : ∃ wz, wz = wr := ⟨_, rfl⟩
          subst hwz
          go_wp2_with fail
          go_loopw [7, 8] (fun av bv wr => ∃ (a b : Nat) (D : Nat → Nat), av = .int .i64 a ∧ bv = .int .i64 b ∧ Hid (b = a + t) ∧ a ≤ n ∧ Hid (WS w0 g n jf hf D wr) ∧ Hid (Pre jf D t a ∧ Run jf D s n a)) (fun av bv _ => n - (RowKit.intOf av).toNat)
          case atStart => exact ⟨0, t, D, by go_num, by go_num, (Nat.zero_add t).symm, Nat.zero_le _, HS.out, .zero, HP.out⟩
          case round =>
            clear HS HP
            obtain ⟨a, b, D, rfl, rfl, HBE, han, HS, HP⟩ := hrel
            obtain ⟨m, hm⟩ : ∃ m, m = a + s := ⟨_, rfl⟩
            have e3 : (a : Int) + (s : Int) = (m : Int) := by omega
            have e4 : IntKind.i64.wrap (m : Int) = (m : Int) := by rw [IntKind.wrap_i64]; omega
            have HME := Lib.hid hm
            have ham : a < m := by omega
            have hmb : m < b := by have := HBE.out; have := HT.out; omega
            have hb8 : b ≤ 16777216 := by have := HBE.out; omega
            clear hm
            by_cases hlt : b ≤ n
            · have d3 : decide (b ≤ n) = true := decide_eq_true hlt
              have d4 : decide ((b : Int) ≤ (n : Int)) = true := decide_eq_true (by omega)
              obtain ⟨z1, z2, z3⟩ := HP.out.2.two (by omega) (by have := HBE.out; have := HT.out; omega)
              have hb2 : b = a + 2 * s := by have := HBE.out; have := HT.out; omega
              rw [← hb2, ← HME.out] at z2
              rw [← HME.out] at z1
              rw [← hb2] at z3
              have Z3 := Lib.hid z3
              have C := Lib.hid (SYM.out a m b D wr HS.out ham hmb hlt z1 z2)
              obtain ⟨v, hv⟩ : ∃ v, v = b + t := ⟨_, rfl⟩
              have e5 : (b : Int) + (t : Int) = (v : Int) := by omega
              have e6 : IntKind.i64.wrap (v : Int) = (v : Int) := by rw [IntKind.wrap_i64]; omega
              have HV := Lib.hid hv
              clear z1 z2 z3 hb2 HS hv
              go_wp2_with fail
              refine C.out.mono ?_; rintro e w1 ⟨rfl, D', q1, q2, q3⟩
              have HS1 := Lib.hid q1
              have HP1 : Hid (Pre jf D' t b ∧ Run jf D' s n b) := ⟨by
                have := Pre.more a (HP.out.1.out q2 (Nat.le_refl _)) (by rw [← HBE.out]; exact q3)
                rwa [← HBE.out] at this, Z3.out.out q2 (Nat.le_refl _)⟩
              clear q1 q2 q3 C HP Z3
              go_wp2_with fail
              go_roundw
              case rel => exact ⟨b, v, D', by go_num, by go_num, HV.out, hlt, HS1.out, HP1.out⟩
              case measure => simp [RowKit.intOf]; omega
            · have d3 : decide (b ≤ n) = false := decide_eq_false hlt
              have d4 : decide ((b : Int) ≤ (n : Int)) = false := decide_eq_false (by omega)
              by_cases hmn : m < n
              · have d5 : decide (m < n) = true := decide_eq_true hmn
                have d6 : decide ((m : Int) < (n : Int)) = true := decide_eq_true (by omega)
                obtain ⟨z1, z2⟩ := HP.out.2.tail (by omega) (by have := HME.out; omega) (by have := HBE.out; have := HT.out; omega)
                rw [← HME.out] at z1 z2
                have C := Lib.hid (SYM.out a m n D wr HS.out ham hmn (Nat.le_refl _) z1 z2)
                clear z1 z2 HS
                go_wp2_with fail
                refine C.out.mono ?_; rintro e w1 ⟨rfl, D', q1, q2, q3⟩
                have HS1 := Lib.hid q1
                have HP1 : Hid (Run jf D' t n 0) := (HP.out.1.out q2 (Nat.le_refl _)).run (.last a han (by have := HBE.out; omega) q3) han
                clear q1 q2 q3 C HP
                go_wp2_with fail
                go_roundw
                case rel => exact ⟨t, D', by go_num, by omega, ht1, HS1.out, HP1.out⟩
                case measure => simp [RowKit.intOf]; omega
              · have d5 : decide (m < n) = false := decide_eq_false hmn
                have d6 : decide ((m : Int) < (n : Int)) = false := decide_eq_false (by omega)
                have HP1 : Hid (Run jf D t n 0) := HP.out.1.run (.last a han (by have := HBE.out; omega) (HP.out.2.end_ (by omega) (by have := HME.out; omega))) han
                clear HP
                go_wp2_with fail
                go_roundw
                case rel => exact ⟨t, D, by go_num, by omega, ht1, HS.out, HP1.out⟩
                case measure => simp [RowKit.intOf]; omega
        · have d1 : decide (s < n) = false := decide_eq_false hsn
          have d2 : decide ((s : Int) < (n : Int)) = false := decide_eq_false (by omega)
          go_wp2_with fail
          go_returns
          exact ⟨rfl, D, HS.out, HP.out.end_ (by omega) (by omega)⟩
theorem stableFunc_any (w0 : World) (g n cap : Nat) (jf : Nat → Nat) (hf : Nat → Int) (w : World) (hW : WS w0 g n jf hf (fun k => k) w) (hn : n ≤ 4194304) :
    Calls Try.prog 47 #[.slice (some ⟨g, 0, none⟩) n cap, .func (.func 48) #[] #[]] w fun e w' =>
      e = .returned (.tuple #[]) ∧ ∃ D', WS w0 g n jf hf D' w' ∧ Good jf D' 0 n := by
  have C := Lib.hid (stable_any w0 g n cap jf hf w hW hn)
  clear hW
  go_enter Try.func47, Try.ntmps47
  go_wp2_with fail
  refine C.out.mono ?_; rintro e w1 ⟨rfl, h⟩
  go_wp2_with fail
  go_returns
  exact ⟨rfl, h⟩
end Go.Proofs.Ytfabjlhepadkpaa
