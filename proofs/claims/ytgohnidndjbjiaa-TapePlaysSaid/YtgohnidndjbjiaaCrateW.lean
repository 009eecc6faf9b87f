/-
  Layer 17: gangerref17.Put at any bytes.
-/
import Derived.Test.YtgohnidndjbjiaaCrateV
import Derived.Test.YtgohnidndjbjiaaCrateM
namespace Go.Proofs.Ytgohnidndjbjiaa
open Go Go.RowKit Go.Lib
set_option linter.unusedVariables false

theorem owned_lit (w : World) (xs : List UInt8) (n : Nat) (hn : xs.length = n) (hm : n ≤ maxLen) (b : Nat) (hb : w.heap.size = b) : (w.alloc (.cells (bts xs).toArray 5)).ownsRow b 5 1 (.slice (some ⟨b, 0, none⟩) n n) n (bts xs) := by
  subst hn hb
  exact ⟨by simp, .inr ⟨w.heap.size, xs.length, (bts xs).toArray, rfl, Nat.le_refl _, Blk.new w (bts xs).toArray _, Nat.le_refl _, hm, by simp, by rw [Nat.mul_one]; exact List.take_of_length_le (by simp)⟩⟩
theorem refPut_long {A : Option Addr} {n c : Nat} (w : World) (h : 8000 < n) :
    Calls Try.prog 40 #[.slice A n c] w fun e w' => e = .returned (.tuple #[.slice none 0 0, .int .i64 3]) ∧ w' = w := by
  have t : decide ((n : Int) > 8000) = true := decide_eq_true (by omega)
  go_enter Try.func40, Try.ntmps40
  go_wp2_with fail
  go_returns
  exact ⟨rfl, rfl⟩
theorem u32mod (n : Nat) (h : n < 4294967296) : (n : Int) % 4294967296 = (n : Int) := by omega
def PtLp (w : World) (S : Nat) (ys : List UInt8) (ov sv iv : Value) (wr : World) : Prop :=
  ∃ j : Nat, j ≤ 4 ∧ iv = .int .i64 j ∧ sv = .int .u32 ((S / 2 ^ (8 * j) : Nat) : Int) ∧ wr.ownsRow w.heap.size 5 1 ov (ys.length + j) (bts (ys ++ (le4 S).take j)) ∧ Below w.heap.size w wr
theorem next_byte (S j : Nat) : S / 2 ^ (8 * (j + 1)) = S / 2 ^ (8 * j) / 256 := by
  rw [show 8 * (j + 1) = 8 * j + 8 by omega, Nat.pow_add, ← Nat.div_div_eq_div_mul]
set_option maxRecDepth 100000 in
set_option maxHeartbeats 1000000 in
theorem refPut_ok {w : World} {K : Nat → Prop} {v : Value} {xs : List UInt8} (h : Rd w K v (bts xs)) (hn : xs.length ≤ 8000) :
    Calls Try.prog 40 #[v] w fun e w' => ∃ v', e = .returned (.tuple #[v', .int .i64 0]) ∧ w'.ownsRow w.heap.size 5 1 v' (xs.length + 7) (bts (putB xs)) ∧ Below w.heap.size w w' := by
  obtain ⟨i0, hi, hz0, hz1, hz2⟩ := info_parts Try.infoB
  have H := Lib.hid h
  obtain ⟨A, c, rfl, hm⟩ := rd_len h
  obtain ⟨N, hN⟩ : ∃ N, N = xs.length := ⟨_, rfl⟩
  have hh : bts (hdr N) = [.int .u8 ((N : Int) / 256), .int .u8 ((N : Int) % 256)] := by
    have e1 : (UInt8.ofNat (N / 256)).toNat = N / 256 := by rw [UInt8.toNat_ofNat']; omega
    have e2 : (UInt8.ofNat (N % 256)).toNat = N % 256 := by rw [UInt8.toNat_ofNat']; omega
    simp [bts, hdr, e1, e2]
  rw [← hN] at hn H ⊢
  have t : decide ((N : Int) > 8000) = false := decide_eq_false (by omega)
  have HNx := Lib.hid hN
  have HH := Lib.hid hh
  obtain ⟨S, hS⟩ : ∃ S, S = sumB (hdr N ++ xs) := ⟨_, rfl⟩
  have HSl : Hid (S < 4294967296) := by rw [hS]; exact sumB_lt _
  have HS := Lib.hid hS
  clear h hN hm hh hS
  go_enter Try.func40, Try.ntmps40
  go_wp2_with (at_builtin; refine wpList_app rfl _ _ 37 rfl w.heap.size 5 i0 _ 1 1 Try.underlying37 hi hz0 hz1 hz2 rfl (by decide) _ 2 (bts (hdr N)) rfl ?q0 _ N (bts xs) rfl ?q1 (bts_one _) ?q2 ?q3 ?q4 ?_)
  case q0 => have := owned_lit w (hdr N) 2 rfl (by decide) w.heap.size rfl; rw [HH.out] at this ⊢; exact this
  case q1 =>
    refine Src.kept (w := w) ?_ ((Below.refl _ w).alloc (Nat.le_refl _) _)
    have := rd_src H.out; rw [bts_len, ← HNx.out] at this; exact this
  case q2 => unfold maxLen; omega
  case q3 => omega
  case q4 => simp
  intro v1 w1 ho1 hg1 _
  rw [← bts_app] at ho1
  obtain ⟨N2, hN2⟩ : ∃ N2, N2 = 2 + N := ⟨_, rfl⟩
  rw [← hN2] at ho1
  have HN2 := Lib.hid hN2
  have hn2 : N2 ≤ 8002 := by omega
  have HO1 := Lib.hid ho1
  have B1 : Hid (Below w.heap.size w w1) := ((Below.refl _ w).alloc (Nat.le_refl _) _).grown hg1 (by simp) fun k hk => by
    obtain rfl : w.heap.size = k := by simpa [Value.ownBlock] using hk
    exact Nat.le_refl _
  have HL2 : Hid ((hdr N ++ xs).length = N2) := by unfold Hid; rw [List.length_append, ← HNx.out, hN2]; rfl
  obtain ⟨A1, c1, rfl⟩ := owned_slice ho1
  clear ho1 hg1 hN2
  go_wp2_with fail
  refine (refSum_any (Rd.of_owns (K := fun _ => True) (by rw [bts_len, HL2.out]; exact HO1.out) fun _ _ => trivial) (by rw [HL2.out]; omega)).mono ?_; rintro e w2 ⟨he, hb2⟩
  rw [← HS.out] at he
  subst he
  have B2 : Hid (Below w.heap.size w w2) := B1.out.trans (hb2.mono B1.out.size)
  have HO2 : Hid (w2.ownsRow w.heap.size 5 1 (.slice A1 N2 c1) N2 (bts (hdr N ++ xs))) := owns_next HO1.out hb2
  clear hb2 HO1 B1
  go_wp2_with (at_builtin; refine wpList_app rfl _ _ 37 rfl w2.heap.size 5 i0 _ 1 1 Try.underlying37 hi hz0 hz1 hz2 rfl (by decide) _ 1 (bts [197]) rfl ?q0 _ N2 (bts (hdr N ++ xs)) rfl ?q1 (bts_one _) ?q2 ?q3 ?q4 ?_)
  case q0 => exact owned_lit w2 [197] 1 rfl (by decide) w2.heap.size rfl
  case q1 =>
    refine Src.kept (w := w2) ?_ ((Below.refl _ w2).alloc (Nat.le_refl _) _)
    have := rd_src (Rd.of_owns (K := fun _ => True) (by rw [bts_len, HL2.out]; exact HO2.out) fun _ _ => trivial : Rd w2 (fun _ => True) _ (bts (hdr N ++ xs)))
    rw [bts_len, HL2.out] at this; exact this
  case q2 => unfold maxLen; omega
  case q3 => omega
  case q4 => simp
  intro v3 w3 ho3 hg3 _
  rw [← bts_app] at ho3
  have B3 : Hid (Below w.heap.size w w3) := (B2.out.alloc B2.out.size _).grown hg3 (by have := B2.out.size; simp; omega) fun k hk => by
    obtain rfl : w2.heap.size = k := by simpa [Value.ownBlock] using hk
    exact B2.out.size
  obtain ⟨ys, hys⟩ : ∃ ys, ys = [197] ++ (hdr N ++ xs) := ⟨_, rfl⟩
  have hyl : ys.length = 1 + N2 := by rw [hys, List.length_append, HL2.out]; rfl
  rw [← hys, ← hyl] at ho3
  have HO3 : Hid (w3.ownsRow w.heap.size 5 1 v3 ys.length (bts ys)) := owns_mono ho3 B2.out.size
  have HP : Hid (putB xs = ys ++ (le4 S).take 4) := by rw [hys, HS.out, List.take_of_length_le (by rw [le4_len]; exact Nat.le_refl _), HNx.out]; rfl
  have hyl2 : Hid (ys.length = 1 + N2) := hyl
  have HYL : Hid (ys.length = N + 3) := by unfold Hid; rw [hyl]; have := HN2.out; omega
  obtain ⟨Y, hY⟩ : ∃ Y, Y = ys.length := ⟨_, rfl⟩
  have hyb : Y ≤ 8003 := by omega
  rw [← hY] at HO3 HYL
  obtain ⟨A3, c3, rfl⟩ := owned_slice HO3.out
  have HY := Lib.hid hY
  clear ho3 hg3 hys hyl hY HO2 B2 hyl2
  go_wp2_with fail
  go_loopw [6, 5, 7] (PtLp w S ys) (fun _ _ i _ => 4 - (RowKit.intOf i).toNat)
  case atStart => exact ⟨0, Nat.zero_le _, rfl, by simp, by rw [← HY.out]; simpa using HO3.out, B3.out⟩
  case round =>
    obtain ⟨j, hj, rfl, rfl, ho, hB⟩ := hrel
    rw [← HY.out] at ho
    have HO := Lib.hid ho
    obtain ⟨Ab, cb, rfl⟩ := owned_slice ho
    have HB := Lib.hid hB
    clear ho hB
    by_cases hlt : j < 4
    · have t1 : decide ((j : Int) < 4) = true := decide_eq_true (by omega)
      obtain ⟨D, hD⟩ : ∃ D, D = S / 2 ^ (8 * j) := ⟨_, rfl⟩
      obtain ⟨C, hC⟩ : ∃ C, C = D % 256 := ⟨_, rfl⟩
      obtain ⟨D2, hD2⟩ : ∃ D2, D2 = D / 256 := ⟨_, rfl⟩
      have e1 : (D : Int) % 256 = (C : Int) := by omega
      have e3 : (D : Int) / 256 = (D2 : Int) := by omega
      have hC8 : C ≤ 255 := by omega
      have e2 : bts [UInt8.ofNat C] = [.int .u8 (C : Int)] := by
        have : (UInt8.ofNat C).toNat = C := by rw [UInt8.toNat_ofNat']; omega
        simp [bts, this]
      have HN : Hid (bts (ys ++ (le4 S).take (j + 1)) = bts (ys ++ (le4 S).take j) ++ [.int .u8 (C : Int)]) := by
        rw [le4_succ S j hlt, ← List.append_assoc, bts_app _ [_], ← hD, ← hC, e2]; rfl
      have HD2 : Hid (D2 = S / 2 ^ (8 * (j + 1))) := by rw [next_byte, ← hD, hD2]; rfl
      have hDl : Hid (D < 4294967296) := by rw [hD]; exact Nat.lt_of_le_of_lt (Nat.div_le_self _ _) HSl.out
      have HM2 : Hid ((D2 : Int) % 4294967296 = (D2 : Int)) := u32mod D2 (by rw [hD2]; exact Nat.lt_of_le_of_lt (Nat.div_le_self _ _) hDl.out)
      rw [← hD]
      clear hC e2 hD hD2
      have one : ∀ u ∈ [Value.int .u8 (C : Int)], u.oneCell' = true := by
        intro u hu
        obtain rfl : u = .int .u8 (C : Int) := (by simpa using hu)
        rfl
      go_wp2_with (at_builtin; refine wpList_append_own _ rfl _ _ 37 rfl w.heap.size 5 i0 _ 1 1 Try.underlying37 hi hz0 hz1 hz2 rfl (by decide) _ (Y + j) _ rfl (owns_alloc HO.out _) ⟨wr.heap.size, 0, none⟩ 1 1 [.int .u8 (C : Int)] rfl rfl ?q1 one ?q2 ?q3 ?q4 ?_)
      case q1 => exact news_alloc wr [.int .u8 (C : Int)] 5
      case q2 => unfold maxLen; omega
      case q3 => omega
      case q4 => have := HB.out.size; simp; omega
      intro v4 w4 ho4 hg4 _
      have O4 : Hid (w4.ownsRow w.heap.size 5 1 v4 (Y + (j + 1)) (bts (ys ++ (le4 S).take (j + 1)))) := by rw [HN.out, ← Nat.add_assoc]; exact ho4
      have B4 : Hid (Below w.heap.size w w4) := (HB.out.alloc HB.out.size _).grown hg4 (by have := HB.out.size; simp; omega) fun k hk => owns_base HO.out hk
      obtain ⟨A4, c4, rfl⟩ := owned_slice ho4
      clear ho4 hg4 e1 one
      go_wp2_with fail
      go_roundw
      case rel => exact ⟨j + 1, hlt, by go_num, by rw [← HD2.out]; first | rfl | rw [HM2.out], by rw [← HY.out]; exact O4.out, B4.out⟩
      case measure => simp [RowKit.intOf]; omega
    · have t1 : decide ((j : Int) < 4) = false := decide_eq_false (by omega)
      have hj4 : j = 4 := by omega
      have HFIN : Hid (wr.ownsRow w.heap.size 5 1 (.slice Ab (Y + j) cb) (N + 7) (bts (putB xs))) := by
        have := HO.out
        rw [hj4] at this
        unfold Hid
        rw [HP.out, show N + 7 = Y + 4 by rw [HYL.out], hj4]; exact this
      clear hj4
      go_wp2_with fail
      go_returns
      exact ⟨_, rfl, HFIN.out, HB.out⟩
end Go.Proofs.Ytgohnidndjbjiaa
