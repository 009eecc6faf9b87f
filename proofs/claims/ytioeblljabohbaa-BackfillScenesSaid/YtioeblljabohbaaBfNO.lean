/-
  Marks in the memory; backfill's marks.add.
  backfill's marks.add with one fewer.
  backfill's marks.first.
-/
import Derived.Test.YtioeblljabohbaaBfPM
import Derived.Test.YtioeblljabohbaaBfF
import Derived.Test.YtioeblljabohbaaNSet
import Derived.Deep.CutBlock
import Derived.Handy
import Derived.Test.YtioeblljabohbaaShelf
namespace Go.Proofs.Ytioeblljabohbaa
set_option linter.unusedVariables false

section
open Go Go.RowKit Go.Lib
/-- m holds marks of order q: N counts. -/
def MI (w : World) (m base q N : Nat) (C : Nat → Nat) : Prop :=
  ∃ gc cc, Blk w m #[.int .i64 (q : Nat), .slice (some ⟨gc, 0, none⟩) N cc, .int .i64 (zN C N : Nat)] 104 ∧ base ≤ m ∧ NOwn w base (.slice (some ⟨gc, 0, none⟩) N cc) (rowI C N) ∧ gc ≠ m
theorem MI.kept {w w' : World} {m base q N : Nat} {C : Nat → Nat} (h : MI w m base q N C) (hb : Below w.heap.size w w') : MI w' m base q N C := by
  obtain ⟨gc, cc, h1, h2, h3, h4⟩ := h
  exact ⟨gc, cc, h1.kept hb, h2, own_older h3 hb, h4⟩
theorem MI.congr {w : World} {m base q N : Nat} {C D : Nat → Nat} (h : MI w m base q N C) (e : ∀ i, i < N → C i = D i) : MI w m base q N D := by
  obtain ⟨gc, cc, h1, h2, h3, h4⟩ := h
  rw [zN_congr e] at h1
  rw [rowI_congr e] at h3
  exact ⟨gc, cc, h1, h2, h3, h4⟩
theorem rowI_setF (C : Nat → Nat) {N i x : Nat} : (rowI C N).set i (x : Int) = rowI (setF C i x) N := rowI_set C
/-- One count stored, and the number of noughts. -/
theorem MI.put {w : World} {m base q N gc cc i x z : Nat} {C : Nat → Nat} (h1 : Blk w m #[.int .i64 (q : Nat), .slice (some ⟨gc, 0, none⟩) N cc, .int .i64 (z : Nat)] 104) (h3 : NOwn w base (.slice (some ⟨gc, 0, none⟩) N cc) (rowI C N)) (h4 : gc ≠ m) (hi : i < N) :
    Blk (w.setCell ⟨gc, i, none⟩ (.int .i64 (x : Nat))) m #[.int .i64 (q : Nat), .slice (some ⟨gc, 0, none⟩) N cc, .int .i64 (z : Nat)] 104 ∧ NOwn (w.setCell ⟨gc, i, none⟩ (.int .i64 (x : Nat))) base (.slice (some ⟨gc, 0, none⟩) N cc) (rowI (setF C i x) N) := by
  refine ⟨h1.other (fun e => h4 e.symm) _, ?_⟩
  have h := nown_store h3 (k := i) (by rw [rowI_len]; exact hi) (x : Int)
  rwa [rowI_setF] at h
theorem own_box {w : World} {m base N gc cc : Nat} {l : List Int} (h : NOwn w base (.slice (some ⟨gc, 0, none⟩) N cc) l) (h4 : gc ≠ m) (o : Nat) (v : Value) : NOwn (w.setCell ⟨m, o, none⟩ v) base (.slice (some ⟨gc, 0, none⟩) N cc) l :=
  own_one h (Chg.setCell o v rfl) (fun e => by simp [Value.ownBlock] at e; exact h4 e)
theorem shr_nat (s q : Nat) : (s : Int) / 2 ^ q = ((s / 2 ^ q : Nat) : Int) := by simp
set_option maxRecDepth 100000 in
set_option maxHeartbeats 4000000 in
theorem add_hit (m base q N s o : Nat) (C : Nat → Nat) (w : World) (hm : MI w m base q N C) (hq : q ≤ 10) (ho : o ≤ 10) (hs : s < 4096) (hC : ∀ i, i < N → C i ≤ 100000) (hl : (s + 2 ^ o - 1) / 2 ^ q < N) (hN : N ≤ 1024) :
    Calls Try.prog 53 #[.pointer (some ⟨m, 0, none⟩), .agg #[.int .i64 (s : Nat), .int .i64 (o : Nat)], .int .i64 1] w fun e w' => e = .returned (.tuple #[]) ∧ MI w' m base q N (hitC C s o q) ∧ Below base w w' := by
  obtain ⟨PO, hPO, hPO1, hPO2, hPO3⟩ := one_shl ho
  have hall := addT_all C s o q
  have hsq := shr_nat s q
  have hlq := shr_nat (s + PO - 1) q
  have hb := hm
  obtain ⟨gc, cc, h1, h2, h3, h4⟩ := hm
  rw [← hPO] at hl hall
  obtain ⟨lo, hlo⟩ : ∃ x, x = s / 2 ^ q := ⟨_, rfl⟩
  obtain ⟨hi, hhi⟩ : ∃ x, x = (s + PO - 1) / 2 ^ q := ⟨_, rfl⟩
  have hloh : lo ≤ hi := by rw [hlo, hhi]; exact Nat.div_le_div_right (by omega)
  rw [← hlo] at hall hsq
  rw [← hhi] at hall hlq hl
  rw [← hall]
  obtain ⟨L, hL⟩ : ∃ L, L = s + PO - 1 := ⟨_, rfl⟩
  rw [← hL] at hlq
  have hLi : (s : Int) + (PO : Int) - 1 = (L : Int) := by omega
  obtain ⟨W, hW⟩ : ∃ W, W = w.alloc (.cells #[.int .i64 (s : Nat), .int .i64 (o : Nat)] 27) := ⟨_, rfl⟩
  obtain ⟨gB, hgB⟩ : ∃ g, g = w.heap.size := ⟨_, rfl⟩
  have hBB : Blk W gB #[.int .i64 (s : Nat), .int .i64 (o : Nat)] 27 := by rw [hW, hgB]; exact Blk.new w _ _
  have hbW : Below w.heap.size w W := by rw [hW]; exact (Below.refl _ _).alloc (Nat.le_refl _) _
  have hmlt := h1.lt
  have hbm := h2
  have hgcb : base ≤ gc ∧ gc < w.heap.size := by obtain ⟨cur, q1, q2, _⟩ := nown_blk h3; exact ⟨q2, q1.lt⟩
  have HGM : Hid (gB ≠ m ∧ gc ≠ gB ∧ gc ≠ m) := ⟨by omega, by omega, h4⟩
  have HBS : Hid (base ≤ m ∧ base ≤ gc ∧ base ≤ gB) := ⟨hbm, hgcb.1, by omega⟩
  have HM1 := Lib.hid (h1.kept hbW)
  have HN1 := Lib.hid (own_older h3 hbW)
  have HBX := Lib.hid hBB
  have HBW : Hid (Below base w W) := hbW.mono (by omega)
  have HCB := Lib.hid hC
  have hsz : W.heap.size = w.heap.size + 1 := by rw [hW]; simp
  have HSZ : Hid (m < W.heap.size ∧ gc < W.heap.size ∧ gB < W.heap.size) := ⟨by omega, by omega, by omega⟩
  have hloS : lo ≤ 4096 := by rw [hlo]; exact Nat.le_trans (Nat.div_le_self _ _) (by omega)
  have e0 := addT_zero C lo
  rw [← e0] at HM1 HN1
  go_enter Try.func53, Try.ntmps53
  go_upto_region 1 with fail
  rw [← hW, ← hgB]
  clear hW hgB hbW hBB hsz h1 h2 h3 h4 hbm hgcb hmlt hb hlo hhi hL hPO hC e0
  have b0 := HBX.out.cell 0
  have b1 := HBX.out.cell 1
  have m0 := HM1.out.cell 0
  simp at b0 b1 m0
  go_region
  go_wp2_with fail
  go_region
  obtain ⟨W2, hW2⟩ : ∃ W2, W2 = W.drew.drew := ⟨_, rfl⟩
  have hb2 : Below W.heap.size W W2 := by rw [hW2]; exact ((Below.refl _ _).drew).drew
  rw [← hW2]
  have HM2 := Lib.hid (HM1.out.kept hb2)
  have HN2 := Lib.hid (own_older HN1.out hb2)
  have HX2 := Lib.hid (HBX.out.kept hb2)
  have HW2 : Hid (Below base w W2) := HBW.out.trans (hb2.mono (by have := HSZ.out.1; have := HBS.out.1; omega))
  have HSZ2 : Hid (W.heap.size ≤ W2.heap.size) := hb2.size
  clear hW2 hb2 HM1 HN1 HBX HBW b0 b1 m0
  go_wp2_with fail
  go_loopw [7] (fun iv wr => ∃ k : Nat, lo ≤ k ∧ k ≤ hi + 1 ∧ iv = .int .i64 k ∧ Hid (Blk wr m #[.int .i64 (q : Nat), .slice (some ⟨gc, 0, none⟩) N cc, .int .i64 (zN (addT C lo k) N : Nat)] 104) ∧ Hid (NOwn wr base (.slice (some ⟨gc, 0, none⟩) N cc) (rowI (addT C lo k) N)) ∧ Hid (Below base w wr)) (fun iv _ => hi + 1 - (RowKit.intOf iv).toNat)
  case atStart => exact ⟨lo, Nat.le_refl _, by omega, rfl, HM2, HN2, HW2⟩
  case round =>
    obtain ⟨k, hk1, hk2, rfl, HM, HN, HB⟩ := hrel
    have m0 := HM.out.cell 0
    have m1 := HM.out.cell 1
    have m2 := HM.out.cell 2
    have mf := HM.out.free 2
    simp at m0 m1 m2
    by_cases hlt : k ≤ hi
    · have hd : decide ((k : Int) ≤ (hi : Int)) = true := decide_eq_true (by omega)
      have hd2 : decide (k ≤ hi) = true := decide_eq_true hlt
      have hkN : k < N := by omega
      have hkNi : (k : Int) < (N : Int) := by omega
      obtain ⟨ck, fk, _, _⟩ := nown_cell HN.out (k := k) (by rw [rowI_len]; exact hkN)
      rw [rowI_at _ hkN, addT_at] at ck
      have hcb := HCB.out k hkN
      have STP := Lib.hid (MI.put (x := C k + 1) HM.out HN.out HGM.out.2.2 hkN)
      have hzs := zN_set (C := addT C lo k) (i := k) (x := C k + 1) hkN
      rw [← addT_succ hk1, addT_at, if_neg (show ¬ C k + 1 = 0 by omega)] at hzs
      rw [← addT_succ hk1] at STP
      have hz := zN_le (addT C lo k) N
      have hz2 := zN_le (addT C lo (k + 1)) N
      obtain ⟨z, hze⟩ : ∃ z, z = zN (addT C lo k) N := ⟨_, rfl⟩
      obtain ⟨z2, hze2⟩ : ∃ z, z = zN (addT C lo (k + 1)) N := ⟨_, rfl⟩
      rw [← hze] at m2 STP hzs hz
      rw [← hze2] at hzs hz2
      have HZE2 := Lib.hid hze2
      obtain ⟨c, hc⟩ : ∃ c, c = C k := ⟨_, rfl⟩
      rw [← hc] at ck hcb STP hzs
      have HB2 : Hid (Below base w (wr.setCell ⟨gc, k, none⟩ (.int .i64 ((c + 1 : Nat) : Int)))) := HB.out.setCell (p := ⟨gc, k, none⟩) HBS.out.2.1 _
      have hne : (⟨gc, k, none⟩ : Addr).block ≠ (⟨m, 2, none⟩ : Addr).block := HGM.out.2.2
      have HGN := Lib.hid hne
      have HCC := Lib.hid hc
      clear hc hze hze2 hne
      by_cases h0 : c = 0
      · subst h0
        rw [if_pos rfl] at hzs
        have hzz : (z : Int) - 1 = (z2 : Int) := by omega
        go_upto_region 7 with fail
        obtain ⟨w1, hw1⟩ : ∃ w1, w1 = wr.setCell ⟨gc, k, none⟩ (.int .i64 (1)) := ⟨_, rfl⟩
        have hst : Blk w1 m #[.int .i64 (q : Nat), .slice (some ⟨gc, 0, none⟩) N cc, .int .i64 (z : Nat)] 104 ∧ NOwn w1 base (.slice (some ⟨gc, 0, none⟩) N cc) (rowI (addT C lo (k + 1)) N) := by
          rw [hw1]; have h := STP.out; simpa using h
        have hB2 : Below base w w1 := by rw [hw1]; have h := HB2.out; simpa using h
        rw [← hw1]
        clear hw1 m0 m1 m2 mf ck fk STP HB2
        have HB3 := Lib.hid hB2
        have HN3 := Lib.hid hst.2
        have HM3 := Lib.hid hst.1
        have n0 := hst.1.cell 0
        have n1 := hst.1.cell 1
        have n2 := hst.1.cell 2
        have nf := hst.1.free 2
        simp at n0 n1 n2
        clear hst hB2
        go_wp2_with fail
        have HM4 : Hid (Blk (w1.setCell ⟨m, 2, none⟩ (.int .i64 (z2 : Nat))) m #[.int .i64 (q : Nat), .slice (some ⟨gc, 0, none⟩) N cc, .int .i64 (zN (addT C lo (k + 1)) N : Nat)] 104) := by
          rw [← HZE2.out]; exact HM3.out.set 2 _
        have HN4 : Hid (NOwn (w1.setCell ⟨m, 2, none⟩ (.int .i64 (z2 : Nat))) base (.slice (some ⟨gc, 0, none⟩) N cc) (rowI (addT C lo (k + 1)) N)) := own_box HN3.out HGM.out.2.2 2 _
        have HB4 : Hid (Below base w (w1.setCell ⟨m, 2, none⟩ (.int .i64 (z2 : Nat)))) := HB3.out.setCell (p := ⟨m, 2, none⟩) HBS.out.1 _
        go_roundw
        case rel => exact ⟨k + 1, by omega, by omega, by go_num, HM4, HN4, HB4⟩
        case measure => simp [RowKit.intOf]; omega
      · have t1 : (c == 0) = false := by rw [beq_eq_false_iff_ne]; exact h0
        have t2 : ((c : Int) == 0) = false := by rw [beq_eq_false_iff_ne]; omega
        have t3 : ¬ (c : Int) = 0 := by omega
        have t4 : ((c : Int) + 1 == 0) = false := by rw [beq_eq_false_iff_ne]; omega
        have t5 : ¬ (c : Int) + 1 = 0 := by omega
        rw [if_neg h0] at hzs
        obtain rfl : z2 = z := by omega
        go_upto_region 7 with fail
        obtain ⟨w1, hw1⟩ : ∃ w1, w1 = wr.setCell ⟨gc, k, none⟩ (.int .i64 ((c : Int) + 1)) := ⟨_, rfl⟩
        have hst : Blk w1 m #[.int .i64 (q : Nat), .slice (some ⟨gc, 0, none⟩) N cc, .int .i64 (z2 : Nat)] 104 ∧ NOwn w1 base (.slice (some ⟨gc, 0, none⟩) N cc) (rowI (addT C lo (k + 1)) N) := by
          rw [hw1]; have h := STP.out; rw [Int.natCast_add] at h; exact h
        have hB2 : Below base w w1 := by rw [hw1]; have h := HB2.out; rw [Int.natCast_add] at h; exact h
        rw [← hw1]
        clear hw1 m0 m1 m2 mf ck fk STP HB2
        have HB3 := Lib.hid hB2
        have HN3 := Lib.hid hst.2
        have HM3 := Lib.hid hst.1
        have n0 := hst.1.cell 0
        have n1 := hst.1.cell 1
        have n2 := hst.1.cell 2
        have nf := hst.1.free 2
        simp at n0 n1 n2
        have kc := (nown_cell HN3.out (k := k) (by rw [rowI_len]; exact hkN)).1
        rw [rowI_at _ hkN, addT_succ hk1] at kc
        have e5 : setF (addT C lo k) k (C k + 1) k = C k + 1 := if_pos rfl
        rw [e5, ← HCC.out, Int.natCast_add] at kc
        clear hst hB2 e5
        go_wp2_with fail
        have HM4 : Hid (Blk w1 m #[.int .i64 (q : Nat), .slice (some ⟨gc, 0, none⟩) N cc, .int .i64 (zN (addT C lo (k + 1)) N : Nat)] 104) := by
          rw [← HZE2.out]; exact HM3.out
        go_roundw
        case rel => exact ⟨k + 1, by omega, by omega, by go_num, HM4, HN3, HB3⟩
        case measure => simp [RowKit.intOf]; omega
    · have hd : decide ((k : Int) ≤ (hi : Int)) = false := decide_eq_false (by omega)
      have hd2 : decide (k ≤ hi) = false := decide_eq_false hlt
      have HR : Hid (MI wr m base q N (addT C lo (hi + 1))) := by
        have : k = hi + 1 := by omega
        rw [← this]
        exact ⟨gc, cc, HM.out, HBS.out.1, HN.out, HGM.out.2.2⟩
      clear hlt hk2 hk1
      go_wp2_with fail
      go_returns
      exact ⟨rfl, HR.out, HB.out⟩
end

section
open Go Go.RowKit Go.Lib
set_option maxRecDepth 100000 in
set_option maxHeartbeats 4000000 in
theorem add_miss (m base q N s o : Nat) (C : Nat → Nat) (w : World) (hm : MI w m base q N C) (hq : q ≤ 10) (ho : o ≤ 10) (hs : s < 4096) (hC : ∀ i, i < N → C i ≤ 100000) (hC1 : ∀ i, i < N → meetB s o (i * 2 ^ q) q = true → 1 ≤ C i) (hl : (s + 2 ^ o - 1) / 2 ^ q < N) (hN : N ≤ 1024) :
    Calls Try.prog 53 #[.pointer (some ⟨m, 0, none⟩), .agg #[.int .i64 (s : Nat), .int .i64 (o : Nat)], .int .i64 (-1)] w fun e w' => e = .returned (.tuple #[]) ∧ MI w' m base q N (missC C s o q) ∧ Below base w w' := by
  obtain ⟨PO, hPO, hPO1, hPO2, hPO3⟩ := one_shl ho
  have hall := subT_all C s o q
  have hsq := shr_nat s q
  have hlq := shr_nat (s + PO - 1) q
  have hb := hm
  have HC1 : Hid (∀ k, k < N → s / 2 ^ q ≤ k → k ≤ (s + 2 ^ o - 1) / 2 ^ q → 1 ≤ C k) := fun k h h1 h2 => hC1 k h (meetB_hit.2 ⟨h1, h2⟩)
  rw [← hPO] at HC1
  clear hC1
  obtain ⟨gc, cc, h1, h2, h3, h4⟩ := hm
  rw [← hPO] at hl hall
  obtain ⟨lo, hlo⟩ : ∃ x, x = s / 2 ^ q := ⟨_, rfl⟩
  obtain ⟨hi, hhi⟩ : ∃ x, x = (s + PO - 1) / 2 ^ q := ⟨_, rfl⟩
  have hloh : lo ≤ hi := by rw [hlo, hhi]; exact Nat.div_le_div_right (by omega)
  rw [← hlo] at hall hsq HC1
  rw [← hhi] at hall hlq hl HC1
  rw [← hall]
  obtain ⟨L, hL⟩ : ∃ L, L = s + PO - 1 := ⟨_, rfl⟩
  rw [← hL] at hlq
  have hLi : (s : Int) + (PO : Int) - 1 = (L : Int) := by omega
  obtain ⟨W, hW⟩ : ∃ W, W = w.alloc (.cells #[.int .i64 (s : Nat), .int .i64 (o : Nat)] 27) := ⟨_, rfl⟩
  obtain ⟨gB, hgB⟩ : ∃ g, g = w.heap.size := ⟨_, rfl⟩
  have hBB : Blk W gB #[.int .i64 (s : Nat), .int .i64 (o : Nat)] 27 := by rw [hW, hgB]; exact Blk.new w _ _
  have hbW : Below w.heap.size w W := by rw [hW]; exact (Below.refl _ _).alloc (Nat.le_refl _) _
  have hmlt := h1.lt
  have hbm := h2
  have hgcb : base ≤ gc ∧ gc < w.heap.size := by obtain ⟨cur, q1, q2, _⟩ := nown_blk h3; exact ⟨q2, q1.lt⟩
  have HGM : Hid (gB ≠ m ∧ gc ≠ gB ∧ gc ≠ m) := ⟨by omega, by omega, h4⟩
  have HBS : Hid (base ≤ m ∧ base ≤ gc ∧ base ≤ gB) := ⟨hbm, hgcb.1, by omega⟩
  have HM1 := Lib.hid (h1.kept hbW)
  have HN1 := Lib.hid (own_older h3 hbW)
  have HBX := Lib.hid hBB
  have HBW : Hid (Below base w W) := hbW.mono (by omega)
  have HCB := Lib.hid hC
  have hsz : W.heap.size = w.heap.size + 1 := by rw [hW]; simp
  have HSZ : Hid (m < W.heap.size ∧ gc < W.heap.size ∧ gB < W.heap.size) := ⟨by omega, by omega, by omega⟩
  have hloS : lo ≤ 4096 := by rw [hlo]; exact Nat.le_trans (Nat.div_le_self _ _) (by omega)
  have e0 := subT_zero C lo
  rw [← e0] at HM1 HN1
  go_enter Try.func53, Try.ntmps53
  go_upto_region 1 with fail
  rw [← hW, ← hgB]
  clear hW hgB hbW hBB hsz h1 h2 h3 h4 hbm hgcb hmlt hb hlo hhi hL hPO hC e0
  have b0 := HBX.out.cell 0
  have b1 := HBX.out.cell 1
  have m0 := HM1.out.cell 0
  simp at b0 b1 m0
  go_region
  go_wp2_with fail
  go_region
  obtain ⟨W2, hW2⟩ : ∃ W2, W2 = W.drew.drew := ⟨_, rfl⟩
  have hb2 : Below W.heap.size W W2 := by rw [hW2]; exact ((Below.refl _ _).drew).drew
  rw [← hW2]
  have HM2 := Lib.hid (HM1.out.kept hb2)
  have HN2 := Lib.hid (own_older HN1.out hb2)
  have HX2 := Lib.hid (HBX.out.kept hb2)
  have HW2 : Hid (Below base w W2) := HBW.out.trans (hb2.mono (by have := HSZ.out.1; have := HBS.out.1; omega))
  have HSZ2 : Hid (W.heap.size ≤ W2.heap.size) := hb2.size
  clear hW2 hb2 HM1 HN1 HBX HBW b0 b1 m0
  go_wp2_with fail
  go_loopw [7] (fun iv wr => ∃ k : Nat, lo ≤ k ∧ k ≤ hi + 1 ∧ iv = .int .i64 k ∧ Hid (Blk wr m #[.int .i64 (q : Nat), .slice (some ⟨gc, 0, none⟩) N cc, .int .i64 (zN (subT C lo k) N : Nat)] 104) ∧ Hid (NOwn wr base (.slice (some ⟨gc, 0, none⟩) N cc) (rowI (subT C lo k) N)) ∧ Hid (Below base w wr)) (fun iv _ => hi + 1 - (RowKit.intOf iv).toNat)
  case atStart => exact ⟨lo, Nat.le_refl _, by omega, rfl, HM2, HN2, HW2⟩
  case round =>
    obtain ⟨k, hk1, hk2, rfl, HM, HN, HB⟩ := hrel
    have m0 := HM.out.cell 0
    have m1 := HM.out.cell 1
    have m2 := HM.out.cell 2
    have mf := HM.out.free 2
    simp at m0 m1 m2
    by_cases hlt : k ≤ hi
    · have hd : decide ((k : Int) ≤ (hi : Int)) = true := decide_eq_true (by omega)
      have hd2 : decide (k ≤ hi) = true := decide_eq_true hlt
      have hkN : k < N := by omega
      have hkNi : (k : Int) < (N : Int) := by omega
      obtain ⟨ck, fk, _, _⟩ := nown_cell HN.out (k := k) (by rw [rowI_len]; exact hkN)
      rw [rowI_at _ hkN, subT_at] at ck
      have hcb := HCB.out k hkN
      have hc1 := HC1.out k hkN hk1 hlt
      obtain ⟨d, hd0⟩ : ∃ d, d = C k - 1 := ⟨_, rfl⟩
      have hdc : C k = d + 1 := by omega
      have STP := Lib.hid (MI.put (x := d) HM.out HN.out HGM.out.2.2 hkN)
      have hzs := zN_set (C := subT C lo k) (i := k) (x := d) hkN
      rw [hd0, ← subT_succ hk1, subT_at, if_neg (show ¬ C k = 0 by omega), ← hd0] at hzs
      rw [hd0, ← subT_succ hk1, ← hd0] at STP
      have hz := zN_le (subT C lo k) N
      have hz2 := zN_le (subT C lo (k + 1)) N
      obtain ⟨z, hze⟩ : ∃ z, z = zN (subT C lo k) N := ⟨_, rfl⟩
      obtain ⟨z2, hze2⟩ : ∃ z, z = zN (subT C lo (k + 1)) N := ⟨_, rfl⟩
      rw [← hze] at m2 STP hzs hz
      rw [← hze2] at hzs hz2
      have HZE2 := Lib.hid hze2
      obtain ⟨c, hc⟩ : ∃ c, c = C k := ⟨_, rfl⟩
      rw [← hc] at ck hcb hdc
      have hcd : (c : Int) + -1 = (d : Int) := by omega
      have HD0 := Lib.hid hd0
      clear hc1 hd0
      have HB2 : Hid (Below base w (wr.setCell ⟨gc, k, none⟩ (.int .i64 ((d : Nat) : Int)))) := HB.out.setCell (p := ⟨gc, k, none⟩) HBS.out.2.1 _
      have hne : (⟨gc, k, none⟩ : Addr).block ≠ (⟨m, 2, none⟩ : Addr).block := HGM.out.2.2
      have HGN := Lib.hid hne
      clear hc hze hze2 hne
      have t1 : (c == 0) = false := by rw [beq_eq_false_iff_ne]; omega
      have t2 : ((c : Int) == 0) = false := by rw [beq_eq_false_iff_ne]; omega
      have t3 : ¬ (c : Int) = 0 := by omega
      by_cases h0 : d = 0
      · rw [if_pos h0] at hzs
        have hzz : (z : Int) + 1 = (z2 : Int) := by omega
        have t4 : ((d : Int) == 0) = true := by rw [beq_iff_eq]; omega
        have t5 : (d == 0) = true := by rw [beq_iff_eq]; exact h0
        clear hdc
        go_upto_region 7 with fail
        obtain ⟨w1, hw1⟩ : ∃ w1, w1 = wr.setCell ⟨gc, k, none⟩ (.int .i64 0) := ⟨_, rfl⟩
        have hst : Blk w1 m #[.int .i64 (q : Nat), .slice (some ⟨gc, 0, none⟩) N cc, .int .i64 (z : Nat)] 104 ∧ NOwn w1 base (.slice (some ⟨gc, 0, none⟩) N cc) (rowI (subT C lo (k + 1)) N) := by
          rw [hw1]; have h := STP.out; rw [h0] at h; simpa using h
        have hB2 : Below base w w1 := by rw [hw1]; have h := HB2.out; rw [h0] at h; simpa using h
        rw [← hw1]
        clear hw1 m0 m1 m2 mf ck fk STP HB2
        have HB3 := Lib.hid hB2
        have HN3 := Lib.hid hst.2
        have HM3 := Lib.hid hst.1
        have n0 := hst.1.cell 0
        have n1 := hst.1.cell 1
        have n2 := hst.1.cell 2
        have nf := hst.1.free 2
        simp at n0 n1 n2
        have kc := (nown_cell HN3.out (k := k) (by rw [rowI_len]; exact hkN)).1
        rw [rowI_at _ hkN, subT_succ hk1] at kc
        have e5 : setF (subT C lo k) k (C k - 1) k = C k - 1 := if_pos rfl
        rw [e5, ← HD0.out, h0] at kc
        clear hst hB2 e5
        go_wp2_with fail
        have HM4 : Hid (Blk (w1.setCell ⟨m, 2, none⟩ (.int .i64 (z2 : Nat))) m #[.int .i64 (q : Nat), .slice (some ⟨gc, 0, none⟩) N cc, .int .i64 (zN (subT C lo (k + 1)) N : Nat)] 104) := by
          rw [← HZE2.out]; exact HM3.out.set 2 _
        have HN4 : Hid (NOwn (w1.setCell ⟨m, 2, none⟩ (.int .i64 (z2 : Nat))) base (.slice (some ⟨gc, 0, none⟩) N cc) (rowI (subT C lo (k + 1)) N)) := own_box HN3.out HGM.out.2.2 2 _
        have HB4 : Hid (Below base w (w1.setCell ⟨m, 2, none⟩ (.int .i64 (z2 : Nat)))) := HB3.out.setCell (p := ⟨m, 2, none⟩) HBS.out.1 _
        go_roundw
        case rel => exact ⟨k + 1, by omega, by omega, by go_num, HM4, HN4, HB4⟩
        case measure => simp [RowKit.intOf]; omega

      · rw [if_neg h0] at hzs
        have t4 : ((d : Int) == 0) = false := by rw [beq_eq_false_iff_ne]; omega
        have t5 : (d == 0) = false := by rw [beq_eq_false_iff_ne]; exact h0
        have t6 : ¬ (d : Int) = 0 := by omega
        obtain rfl : z2 = z := by omega
        clear hdc
        go_upto_region 7 with fail
        obtain ⟨w1, hw1⟩ : ∃ w1, w1 = wr.setCell ⟨gc, k, none⟩ (.int .i64 (d : Nat)) := ⟨_, rfl⟩
        have hst : Blk w1 m #[.int .i64 (q : Nat), .slice (some ⟨gc, 0, none⟩) N cc, .int .i64 (z2 : Nat)] 104 ∧ NOwn w1 base (.slice (some ⟨gc, 0, none⟩) N cc) (rowI (subT C lo (k + 1)) N) := by
          rw [hw1]; exact STP.out
        have hB2 : Below base w w1 := by rw [hw1]; exact HB2.out
        rw [← hw1]
        clear hw1 m0 m1 m2 mf ck fk STP HB2
        have HB3 := Lib.hid hB2
        have HN3 := Lib.hid hst.2
        have HM3 := Lib.hid hst.1
        have n0 := hst.1.cell 0
        have n1 := hst.1.cell 1
        have n2 := hst.1.cell 2
        have nf := hst.1.free 2
        simp at n0 n1 n2
        have kc := (nown_cell HN3.out (k := k) (by rw [rowI_len]; exact hkN)).1
        rw [rowI_at _ hkN, subT_succ hk1] at kc
        have e5 : setF (subT C lo k) k (C k - 1) k = C k - 1 := if_pos rfl
        rw [e5, ← HD0.out] at kc
        clear hst hB2 e5
        go_wp2_with fail
        have HM4 : Hid (Blk w1 m #[.int .i64 (q : Nat), .slice (some ⟨gc, 0, none⟩) N cc, .int .i64 (zN (subT C lo (k + 1)) N : Nat)] 104) := by
          rw [← HZE2.out]; exact HM3.out
        go_roundw
        case rel => exact ⟨k + 1, by omega, by omega, by go_num, HM4, HN3, HB3⟩
        case measure => simp [RowKit.intOf]; omega

    · have hd : decide ((k : Int) ≤ (hi : Int)) = false := decide_eq_false (by omega)
      have hd2 : decide (k ≤ hi) = false := decide_eq_false hlt
      have HR : Hid (MI wr m base q N (subT C lo (hi + 1))) := by
        have : k = hi + 1 := by omega
        rw [← this]
        exact ⟨gc, cc, HM.out, HBS.out.1, HN.out, HGM.out.2.2⟩
      clear hlt hk2 hk1
      go_wp2_with fail
      go_returns
      exact ⟨rfl, HR.out, HB.out⟩
end

section
open Go Go.RowKit Go.Lib
/-- What first answers. -/
def firstV (q N : Nat) (C : Nat → Nat) : Int × Bool := match leastP (fun i => decide (C i = 0)) N with | some i => (((i * 2 ^ q : Nat) : Int), true) | none => (0, false)
set_option maxRecDepth 100000 in
set_option maxHeartbeats 4000000 in
theorem first_any (m base q N : Nat) (C : Nat → Nat) (w : World) (hm : MI w m base q N C) (hq : q ≤ 10) (hN : N * 2 ^ q ≤ 1024) :
    Calls Try.prog 54 #[.pointer (some ⟨m, 0, none⟩)] w fun e w' => e = .returned (.tuple #[.int .i64 (firstV q N C).1, .bool (firstV q N C).2]) ∧ Below w.heap.size w w' := by
  obtain ⟨gc, cc, h1, h2, h3, h4⟩ := hm
  have m0 := h1.cell 0
  have m1 := h1.cell 1
  have m2 := h1.cell 2
  simp at m0 m1 m2
  have hz9 := zN_le C N
  have hN1 : N ≤ 1024 := Nat.le_trans (Nat.le_mul_of_pos_right N (two_pos q)) hN
  by_cases hz : zN C N = 0
  · have hv : firstV q N C = (0, false) := by
      unfold firstV
      rw [leastP_none.2 fun j hj => decide_eq_false fun e => by have := zN_pos.2 ⟨j, hj, e⟩; omega]
    rw [hv]
    rw [hz] at m2
    clear h1 h3 hv
    go_enter Try.func54, Try.ntmps54
    go_wp2_with fail
    go_ret2
    exact ⟨rfl, Below.refl _ _⟩
  · obtain ⟨i, hi⟩ : ∃ i, leastP (fun i => decide (C i = 0)) N = some i := by
      cases h : leastP (fun i => decide (C i = 0)) N with
      | some i => exact ⟨i, rfl⟩
      | none =>
        exfalso
        obtain ⟨j, hj, e⟩ := zN_pos.1 (Nat.pos_of_ne_zero hz)
        have := leastP_none.1 h j hj
        exact absurd e (of_decide_eq_false this)
    have hv : firstV q N C = (((i * 2 ^ q : Nat) : Int), true) := by unfold firstV; rw [hi]
    obtain ⟨hiN, hiC, hil⟩ := leastP_some.1 hi
    have IX : Hid (∀ n, Calls Try.prog 65 #[.slice (some ⟨gc, 0, none⟩) N cc, .int .i64 0] (w.drewN n) fun e w' => e = .returned (.int .i64 (i : Nat)) ∧ w' = w.drewN n) := fun n => by
      have h := Try.slices_Index_int gc 0 N cc (rowI C N) 0 (w.drewN n) (by rw [rowI_len]; exact Nat.le_refl _) (by omega) (fun j hj => by
        have := (nown_cell (own_older h3 (below_drewN (Below.refl _ _) n)) (k := j) hj).1
        rw [Nat.zero_add]; exact this)
      rw [Lib.idxOf_hit (rowI C N) N i 0 hiN (by rw [rowI_len]; exact Nat.le_refl _) (by rw [rowI_at _ hiN, of_decide_eq_true hiC]; rfl) (fun j hj => by
        rw [rowI_at _ (by omega)]
        have := of_decide_eq_false (hil j hj)
        omega)] at h
      exact h
    rw [hv]
    obtain ⟨z, hze⟩ : ∃ z, z = zN C N := ⟨_, rfl⟩
    rw [← hze] at m2 hz hz9
    have z1 : (z == 0) = false := by rw [beq_eq_false_iff_ne]; exact hz
    have z2 : ((z : Int) == 0) = false := by rw [beq_eq_false_iff_ne]; omega
    have z3 : ¬ (z : Int) = 0 := by omega
    have hS : i * 2 ^ q ≤ 1024 := Nat.le_trans (Nat.mul_le_mul_right _ (Nat.le_of_lt hiN)) hN
    obtain ⟨S, hSe⟩ : ∃ S, S = i * 2 ^ q := ⟨_, rfl⟩
    rw [← hSe] at hS ⊢
    have e1 : (i : Int) * 2 ^ q = (S : Int) := by rw [hSe]; simp
    have e2 : IntKind.i64.wrap (S : Int) = (S : Int) := by rw [IntKind.wrap_i64]; omega
    clear h1 h3 hv hi hiC hil hze hSe hN
    go_enter Try.func54, Try.ntmps54
    go_wp2_with fail
    go_quiet (first | (go_at_call 65; exact Calls.quiet_of_same (IX.out _)))
    go_wp2_with fail
    go_ret2
    exact ⟨rfl, below_drewN (Below.refl _ _) _⟩
end

end Go.Proofs.Ytioeblljabohbaa
