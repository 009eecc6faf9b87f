/-
  Layer 17: crate.Sum at any bytes.
-/
import Derived.Test.YtgohnidndjbjiaaBy
import Derived.Test.YtgohnidndjbjiaaCrc
import Derived.Deep.QuietTactic
import Derived.BigQuiet
import Derived.Deep.RegionHeld3
import Derived.Deep.DeepCutAuto
import Derived.Deep.CutBlock
import Derived.Laws.BitsAllLaws
namespace Go.Proofs.Ytgohnidndjbjiaa
open Go Go.RowKit Go.Lib
set_option linter.unusedVariables false

theorem rd_len {w : World} {K : Nat → Prop} {v : Value} {ys : List UInt8} (h : Rd w K v (bts ys)) : ∃ B d, v = .slice B ys.length d ∧ ys.length ≤ maxLen := by
  obtain ⟨A, c, h1, h2, h3, _⟩ := h
  rw [bts_len] at h1 h2
  exact ⟨A, c, h1, by omega⟩
/-- One byte of a row that may be read. -/
theorem rd_at {w : World} {K : Nat → Prop} {A : Option Addr} {n c : Nat} {xs : List UInt8} (h : Rd w K (.slice A n c) (bts xs)) {k : Nat} (hk : k < xs.length) :
    ∃ b off, A = some ⟨b, off, none⟩ ∧ K b ∧ b < w.heap.size ∧ w.cell? ⟨b, off + k, none⟩ = some (.int .u8 (xs[k].toNat : Int)) := by
  obtain ⟨A', c', h1, _, _, h4⟩ := h
  injection h1 with h1 _ _
  subst h1
  obtain ⟨b, off, rfl, hK, hb, hc⟩ := h4 (by rw [bts_len]; omega)
  exact ⟨b, off, rfl, hK, hb, hc k _ (bts_get xs k hk)⟩
theorem crcB_succ (xs : List UInt8) (k : Nat) (h : k < xs.length) : crcB ones (xs.take (k + 1)) = fI 8 (crcB ones (xs.take k) ^^^ xs[k].toNat) := by
  rw [List.take_succ_eq_append_getElem h, crcB_app]; rfl
theorem ret_u32 {a b : Int} (h : a = b) : Ending.returned (.int .u32 a) = .returned (.int .u32 b) := by rw [h]

set_option maxHeartbeats 1000000 in
theorem sum_any {w : World} {K : Nat → Prop} {v : Value} {xs : List UInt8} (h : Rd w K v (bts xs)) (hn : xs.length ≤ 16777216) :
    Calls Try.prog 55 #[v] w fun e w' => e = .returned (.int .u32 (sumB xs)) ∧ w' = w := by
  have H := Lib.hid h
  obtain ⟨A, c, rfl, _⟩ := rd_len h
  clear h
  have HE : Hid (∀ r, r < 2 ^ 32 → crcB ones xs = r → (r ^^^ ones) = sumB xs) := fun r _ hr => by rw [← hr]; rfl
  go_enter Try.func55, Try.ntmps55
  go_wp2_with fail
  go_loop [3, 9] (fun r i => ∃ (k R : Nat), k ≤ xs.length ∧ i = .int .i64 k ∧ r = .int .u32 R ∧ Hid (R = crcB ones (xs.take k)) ∧ Hid (R < 4294967296)) (fun _ i => xs.length - (intOf i).toNat)
  case atStart => exact ⟨0, 4294967295, Nat.zero_le _, rfl, rfl, rfl, (by decide : 4294967295 < 4294967296)⟩
  case round =>
    obtain ⟨k, R, hk, rfl, rfl, hR, hRl⟩ := hrel
    by_cases hlt : k < xs.length
    · have t1 : decide (k < xs.length) = true := decide_eq_true hlt
      have t1' : (k : Int) < xs.length := by omega
      obtain ⟨b, off, rfl, _, _, c0⟩ := rd_at H.out hlt
      have hs := Lib.hid (crcB_succ xs k hlt)
      have hcl := xs[k].toNat_lt
      generalize xs[k].toNat = C at *
      have HR2 : Hid (crcB ones (xs.take (k + 1)) = fI 8 (R ^^^ C)) := by rw [hs.out, ← hR.out]; rfl
      have hx : bits .xor .u32 (R : Int) (C : Int) = ((R ^^^ C : Nat) : Int) := u32_xor_nat R C hRl.out (by omega)
      have hxl : Hid (R ^^^ C < 4294967296) := Nat.xor_lt_two_pow (n := 32) hRl.out (by omega)
      generalize R ^^^ C = Q at *
      clear hs hR
      go_wp2_with fail
      go_loop [3, 17] (fun r i => ∃ (j S : Nat), j ≤ 8 ∧ i = .int .i64 j ∧ r = .int .u32 S ∧ Hid (S = fI j Q) ∧ Hid (S < 4294967296)) (fun _ i => 8 - (intOf i).toNat)
      case atStart => exact ⟨0, Q, Nat.zero_le _, rfl, rfl, rfl, hxl⟩
      case round =>
        clear hx
        obtain ⟨j, S, hj, rfl, rfl, hS, hSl⟩ := hrel
        by_cases hlt2 : j < 8
        · have t2 : decide ((j : Int) < 8) = true := decide_eq_true (by omega)
          have hS2 : Hid (fI (j + 1) Q = fS S) := by rw [fI_succ, ← hS.out]; rfl
          rcases Nat.mod_two_eq_zero_or_one S with hm | hm
          · have ha : bits .and .u32 (S : Int) 1 = 0 := by
              have := u32_and_nat S 1 hSl.out (by decide); rw [Nat.and_one_is_mod, hm] at this; exact this
            obtain ⟨D, hD⟩ : ∃ D, D = S / 2 := ⟨_, rfl⟩
            have hd : (S : Int) / 2 = (D : Int) := by omega
            have hS3 : Hid (D = fI (j + 1) Q) := by rw [hD, hS2.out]; unfold fS; rw [if_neg (by omega)]; rfl
            have hl3 : Hid (D < 4294967296) := by have := hSl.out; unfold Hid; omega
            clear hm hS hS2 hD
            go_wp2_with fail
            go_round
            case rel => exact ⟨j + 1, D, hlt2, by go_num, rfl, hS3, hl3⟩
            case measure => simp [intOf]; omega
          · have ha : bits .and .u32 (S : Int) 1 = 1 := by
              have := u32_and_nat S 1 hSl.out (by decide); rw [Nat.and_one_is_mod, hm] at this; exact this
            obtain ⟨D, hD⟩ : ∃ D, D = S / 2 := ⟨_, rfl⟩
            have hd : (S : Int) / 2 = (D : Int) := by omega
            have hy : bits .xor .u32 (D : Int) 2197175160 = ((D ^^^ poly : Nat) : Int) := u32_xor_nat D poly (by have := hSl.out; omega) (by decide)
            have hS3 : Hid (D ^^^ poly = fI (j + 1) Q) := by rw [hD, hS2.out]; unfold fS; rw [if_pos hm]; rfl
            have hl3 : Hid (D ^^^ poly < 4294967296) := Nat.xor_lt_two_pow (n := 32) (by have := hSl.out; omega) (by decide)
            clear hm hS hS2 hD
            generalize D ^^^ poly = T at *
            go_wp2_with fail
            go_round
            case rel => exact ⟨j + 1, T, hlt2, by go_num, rfl, hS3, hl3⟩
            case measure => simp [intOf]; omega
        · obtain rfl : j = 8 := by omega
          have hS3 : Hid (S = crcB ones (xs.take (k + 1))) := by rw [HR2.out]; exact hS.out
          clear hS
          go_wp2_with fail
          go_round
          case rel => exact ⟨k + 1, S, hlt, by go_num, rfl, hS3, hSl⟩
          case measure => simp [intOf]; omega
    · obtain rfl : k = xs.length := by omega
      have t1 : decide (xs.length < xs.length) = false := decide_eq_false (by omega)
      have hf : Hid ((R ^^^ ones) = sumB xs) := HE.out R hRl.out (by have := hR.out; rw [List.take_length] at this; exact this.symm)
      have hx : bits .xor .u32 IntKind.u32.max (R : Int) = ((R ^^^ ones : Nat) : Int) := by rw [Nat.xor_comm]; exact u32_xor_nat ones R (by decide) hRl.out
      clear hR
      go_wp2_with fail
      go_returns
      exact ⟨ret_u32 (by rw [hf.out]), rfl⟩
end Go.Proofs.Ytgohnidndjbjiaa
