/-
  Layer 17: gangerref17.Sum at any bytes.
-/
import Derived.Test.YtgohnidndjbjiaaCrateU
import Derived.Test.YtgohnidndjbjiaaCrateB
namespace Go.Proofs.Ytgohnidndjbjiaa
open Go Go.RowKit Go.Lib
set_option linter.unusedVariables false

/-- Block g holds the bits of f. -/
def BitsAt (w wr : World) (g : Nat) (f : Nat → Bool) : Prop := Blk wr g (cellsF f) 91 ∧ Below w.heap.size w wr ∧ w.heap.size ≤ g
theorem BitsAt.cell {w wr : World} {g : Nat} {f : Nat → Bool} (h : BitsAt w wr g f) (i : Nat) (hi : i < 32) : wr.cell? ⟨g, i, none⟩ = some (.bool (f i)) := by rw [h.1.cell, cellsF_get f i hi]
theorem BitsAt.set {w wr : World} {g : Nat} {f : Nat → Bool} (h : BitsAt w wr g f) (i : Nat) (v : Bool) : BitsAt w (wr.setCell ⟨g, i, none⟩ (.bool v)) g (fun j => if j = i then v else f j) :=
  ⟨by have := h.1.set i (.bool v); rw [cellsF_set] at this; exact this, Below.setCell (p := (⟨g, i, none⟩ : Addr)) h.2.1 h.2.2 _, h.2.2⟩
theorem BitsAt.ext {w wr : World} {g : Nat} {f f' : Nat → Bool} (h : BitsAt w wr g f) (e : ∀ i, i < 32 → f i = f' i) : BitsAt w wr g f' := ⟨by rw [← cellsF_ext f f' e]; exact h.1, h.2.1, h.2.2⟩
theorem BitsAt.drewN {w wr : World} {g : Nat} {f : Nat → Bool} (h : BitsAt w wr g f) (n : Nat) : BitsAt w (wr.drewN n) g f := ⟨h.1, below_drewN h.2.1 n, h.2.2⟩
theorem BitsAt.alloc {w wr : World} {g : Nat} {f : Nat → Bool} (h : BitsAt w wr g f) (o : Obj) : BitsAt w (wr.alloc o) g f := ⟨h.1.old o, h.2.1.alloc h.2.1.size o, h.2.2⟩
def tapsC : List Value := taps.map fun (t : Nat) => Value.int .i64 (t : Int)
theorem tapsC_get (k : Nat) (h : k < taps.length) : tapsC[k]? = some (.int .i64 ((taps[k] : Nat) : Int)) := by simp [tapsC, h]
def Lp1 (w : World) (g : Nat) (iv : Value) (wr : World) : Prop := ∃ k : Nat, k ≤ 32 ∧ iv = .int .i64 k ∧ BitsAt w wr g (fun j => decide (j < k))
def Lp2 (w : World) (g tb : Nat) (xs : List UInt8) (iv : Value) (wr : World) : Prop := ∃ n : Nat, n ≤ 8 * xs.length ∧ iv = .int .i64 n ∧ BitsAt w wr g (fun j => (regN (numB xs) n).testBit j) ∧ Blk wr tb tapsC.toArray 3
def Lp3 (w w1 : World) (g tb : Nat) (R : Nat) (kv : Value) (wr : World) : Prop := ∃ k : Nat, k ≤ 31 ∧ kv = .int .i64 k ∧ BitsAt w wr g (shF R k) ∧ Blk wr tb tapsC.toArray 3
def Lp4 (w w1 : World) (g tb : Nat) (R : Nat) (out : Bool) (kv : Value) (wr : World) : Prop := ∃ k : Nat, k ≤ 17 ∧ (out = false → k = 0) ∧ kv = .int .i64 k ∧ BitsAt w wr g (tpF R k) ∧ Blk wr tb tapsC.toArray 3
def Lp5 (w : World) (g R M : Nat) (nv iv : Value) (wr : World) : Prop := ∃ m : Nat, m ≤ 32 ∧ nv = .int .u32 ((M / 2 ^ m : Nat) : Int) ∧ iv = .int .i64 ((m : Int) - 1) ∧ BitsAt w wr g (fun j => R.testBit j)
set_option maxRecDepth 100000 in
set_option maxHeartbeats 1000000 in
theorem refSum_any {w : World} {K : Nat → Prop} {v : Value} {xs : List UInt8} (h : Rd w K v (bts xs)) (hn : xs.length ≤ 1000000) :
    Calls Try.prog 56 #[v] w fun e w' => e = .returned (.int .u32 (sumB xs)) ∧ Below w.heap.size w w' := by
  have H := Lib.hid h
  obtain ⟨A, c, rfl, _⟩ := rd_len h
  clear h
  obtain ⟨L, hL⟩ : ∃ L, L = xs.length := ⟨_, rfl⟩
  rw [← hL] at hn
  have HL := Lib.hid hL
  rw [← hL]
  clear hL
  go_enter Try.func56, Try.ntmps56
  go_wp2_with fail
  go_loopw [4] (Lp1 w w.heap.size) (fun i _ => 32 - (RowKit.intOf i).toNat)
  case atStart => exact ⟨0, Nat.zero_le _, rfl, Blk.new w (cellsF (fun j => decide (j < 0))) _, (Below.refl _ w).alloc (Nat.le_refl _) _, Nat.le_refl _⟩
  case round =>
    obtain ⟨k, hk, rfl, hB⟩ := hrel
    have HB := Lib.hid hB
    have hfr := hB.1.free
    clear hB
    by_cases hlt : k < 32
    · have t1 : decide ((k : Int) < 32) = true := decide_eq_true (by omega)
      have c0 := HB.out.cell k hlt
      have f0 := hfr k
      clear hfr
      go_wp2_with fail
      go_roundw
      case rel => exact ⟨k + 1, hlt, by go_num, (HB.out.set k true).ext fun i _ => by
        by_cases h : i = k
        · rw [if_pos h]; exact (decide_eq_true (by omega)).symm
        · rw [if_neg h]; by_cases h2 : i < k
          · rw [decide_eq_true h2, decide_eq_true (by omega)]
          · rw [decide_eq_false h2, decide_eq_false (by omega)]⟩
      case measure => simp [RowKit.intOf]; omega
    · have t1 : decide ((k : Int) < 32) = false := decide_eq_false (by omega)
      have hk32 : k = 32 := by omega
      obtain ⟨g, hg⟩ : ∃ g, g = w.heap.size := ⟨_, rfl⟩
      rw [← hg] at HB ⊢
      have HB1 : Hid (BitsAt w wr g (fun j => (regN (numB xs) 0).testBit j)) := HB.out.ext fun i hi => by
        show decide (i < k) = (fI 0 (ones ^^^ (numB xs % 2 ^ 0))).testBit i
        rw [decide_eq_true (by omega), Nat.pow_zero, Nat.mod_one, Nat.xor_zero]
        exact (ones_bit i hi).symm
      clear HB hg hfr hlt hk hk32
      go_wp2_with fail
      clear t1
      have HT0 : Hid (Blk (wr.alloc (.cells tapsC.toArray 3)) wr.heap.size tapsC.toArray 3) := Blk.new wr tapsC.toArray _
      generalize wr.heap.size = tb at *
      go_loopw [6] (Lp2 w g tb xs) (fun i _ => 8 * L - (RowKit.intOf i).toNat)
      case atStart => exact ⟨0, Nat.zero_le _, rfl, HB1.out.alloc _, HT0.out⟩
      case round =>
        obtain ⟨n, hnl, rfl, hB, hT⟩ := hrel
        rw [← HL.out] at hnl
        have HB := Lib.hid hB
        have HT := Lib.hid hT
        clear hB hT HB1 HT0
        have hR32 := Lib.hid (regN_32 (numB xs) n)
        by_cases hlt : n < 8 * L
        · have HRS := Lib.hid (regN_succ (numB xs) n)
          obtain ⟨q, j, C, LB⟩ := lp_bit n L (by omega) hlt
          have hqx : q < xs.length := by rw [← HL.out]; exact LB.q1
          have hbit := numB_bit xs q j hqx LB.j8
          rw [← LB.pq] at hbit
          rw [hbit] at HRS
          obtain ⟨b, off, rfl, hb1, hb2, c0⟩ := rd_at (H.out.kept HB.out.2.1) hqx
          have hxl := xs[q].toNat_lt
          generalize xs[q].toNat = X at *
          have HLB := Lib.hid LB
          have hN1 : Hid (n + 1 ≤ 8 * L) := hlt
          clear LB hbit hqx
          obtain ⟨R, hR⟩ : ∃ R, R = regN (numB xs) n := ⟨_, rfl⟩
          obtain ⟨R', hR'⟩ : ∃ R', R' = regN (numB xs) (n + 1) := ⟨_, rfl⟩
          rw [← hR] at HB hR32 HRS
          rw [← hR'] at HRS
          have HR' := Lib.hid hR'
          clear hR hR'
          obtain ⟨d, hd⟩ : ∃ d, d = X / 2 ^ j % 2 := ⟨_, rfl⟩
          have hd2 : d < 2 := by rw [hd]; exact Nat.mod_lt _ (by decide)
          rw [← hd] at HRS
          obtain ⟨out, hout⟩ : ∃ out : Bool, out = (R.testBit 0 != decide (d = 1)) := ⟨_, rfl⟩
          have HOUT := Lib.hid hout
          have c1 : wr.cell? ⟨g, 0, none⟩ = some (.bool (R.testBit 0)) := HB.out.cell 0 (by decide)
          have t1 : decide ((n : Int) < 8 * (L : Int)) = true := decide_eq_true (by omega)
          have t1' : decide (n < 8 * L) = true := decide_eq_true hlt
          go_upto_region 10 with fail
          go_cut [7] (fun sl wx => sl = .bool out ∧ ∃ m, wx = wr.drewN m)
          case first =>
            obtain ⟨hqk, hqk', hj8, hpq, v1, v1', v2, v2', v3, v3', v4, hC, hC256, v5, v6⟩ := HLB.out
            have u5 : ((X : Int) / 2 ^ j).tmod 2 = (d : Int) := bit_tmod X j d hd.symm
            have u6 : (X : Int) / 2 ^ j % 2 = (d : Int) := bit_int X j d hd.symm
            clear hd hC hpq HLB v3 v4 v3' v5 v6 hC256 t1 t1' hN1 hxl HL hnl hR32
            generalize R.testBit 0 = r0 at *
            go_wp2_with fail
            go_quiet (fail)
            go_wp2_with fail
            go_meet
            refine ⟨?_, nq, rfl⟩
            rw [HOUT.out]
            rcases (show d = 0 ∨ d = 1 by omega) with h | h <;> subst h <;> cases r0 <;> rfl
          case rest =>
            obtain ⟨hsl, m, hwx⟩ := hcut
            subst hsl hwx
            have HB2 : Hid (BitsAt w (wr.drewN m) g (fun j => R.testBit j)) := HB.out.drewN m
            have HT2 : Hid (Blk (wr.drewN m) tb tapsC.toArray 3) := HT.out
            have HNX : Hid (R' = if out then (R / 2) ^^^ poly else R / 2) := by unfold Hid; rw [HRS.out]; exact bit_next R d out hd2 hout
            have H32 : Hid (R < 2 ^ 32) := hR32.out
            generalize wr.drewN m = wr2 at *
            clear HB HT hR32 HRS hd hd2 hout HOUT c0 c1 hb1 hb2 hxl HLB
            go_wp2_with fail
            clear t1 t1'
            go_loopw [8] (Lp3 w wr2 g tb R) (fun i _ => 31 - (RowKit.intOf i).toNat)
            case atStart => exact ⟨0, Nat.zero_le _, rfl, HB2.out.ext fun i hi => (shF_zero R i hi).symm, HT2.out⟩
            case round =>
              obtain ⟨k, hk, rfl, hB, hT⟩ := hrel
              have hne : g ≠ tb := hB.1.ne_ hT (by decide)
              have HB := Lib.hid hB
              have HT := Lib.hid hT
              have hfr := hB.1.free
              clear hB hT HB2 HT2
              by_cases hlt : k < 31
              · have u1 : decide ((k : Int) < 31) = true := decide_eq_true (by omega)
                obtain ⟨K1, hK1⟩ : ∃ K1, K1 = k + 1 := ⟨_, rfl⟩
                have u2 : (k : Int) + 1 = (K1 : Int) := by omega
                have u3 : (K1 : Int) < 32 := by omega
                have u3' : K1 < 32 := by omega
                have c1 : wr.cell? ⟨g, K1, none⟩ = some (.bool (R.testBit K1)) := by
                  rw [HB.out.cell K1 u3']; unfold shF; rw [if_neg (by omega), hK1]
                have f0 := hfr k
                have ck := HB.out.cell k (by omega)
                have HSET : Hid (∀ w', w' = wr.setCell ⟨g, k, none⟩ (.bool (R.testBit K1)) → BitsAt w w' g (shF R K1) ∧ Blk w' tb tapsC.toArray 3) := fun w' hw => by
                  subst hw
                  refine ⟨(HB.out.set k _).ext fun i hi => ?_, HT.out.other (fun e => hne e.symm) _⟩
                  rw [hK1]; exact shF_succ R k i hi
                have hK1' : K1 ≤ 31 := by omega
                clear hfr hne hK1
                go_wp2_with fail
                go_roundw
                case rel => exact ⟨K1, hK1', rfl, (HSET.out _ rfl).1, (HSET.out _ rfl).2⟩
                case measure => simp [RowKit.intOf]; omega
              · have u1 : decide ((k : Int) < 31) = false := decide_eq_false (by omega)
                have hk31 : k = 31 := by omega
                have f0 := hfr 31
                have HSET : Hid (∀ w', w' = wr.setCell ⟨g, 31, none⟩ (.bool false) → BitsAt w w' g (tpF R 0) ∧ Blk w' tb tapsC.toArray 3) := fun w' hw => by
                  subst hw
                  refine ⟨(HB.out.set 31 false).ext fun i hi => ?_, HT.out.other (fun e => hne e.symm) _⟩
                  rw [hk31, shF_last R H32.out i hi]; exact (tpF_zero R i hi).symm
                have c1 := HB.out.cell 31 (by decide)
                clear hfr hne hlt hk hk31
                go_wp2_with fail
                clear u1
                obtain ⟨HS1, HS2⟩ := HSET.out _ rfl
                go_loopw [9] (Lp4 w wr2 g tb R out) (fun i _ => 17 - (RowKit.intOf i).toNat)
                case atStart => exact ⟨0, Nat.zero_le _, fun _ => rfl, rfl, HS1, HS2⟩
                case round =>
                  obtain ⟨k, hk, hko, rfl, hB, hT⟩ := hrel
                  have hne : g ≠ tb := hB.1.ne_ hT (by decide)
                  have HB := Lib.hid hB
                  have HT := Lib.hid hT
                  have hfr := hB.1.free
                  clear hB hT HS1 HS2 HSET
                  by_cases hgo : k < 17 ∧ out = true
                  · obtain ⟨hlt, rfl⟩ := hgo
                    have u1 : decide ((k : Int) < 17) = true := decide_eq_true (by omega)
                    have hT32 := taps_lt k hlt
                    have c1 : wr.cell? ⟨tb, k, none⟩ = some (.int .i64 ((taps[k] : Nat) : Int)) := by rw [HT.out.cell]; exact (List.getElem?_toArray ..).trans (tapsC_get k hlt)
                    have HSET : Hid (∀ w', w' = wr.setCell ⟨g, taps[k], none⟩ (.bool (!(tpF R k taps[k]))) → BitsAt w w' g (tpF R (k + 1)) ∧ Blk w' tb tapsC.toArray 3) := fun w' hw => by
                      subst hw
                      exact ⟨(HB.out.set taps[k] _).ext (tpF_succ R k hlt), HT.out.other (fun e => hne e.symm) _⟩
                    generalize taps[k] = T at *
                    have c2 := HB.out.cell T hT32
                    have f0 := hfr T
                    have hT32' : (T : Int) < 32 := by omega
                    generalize tpF R k T = rT at *
                    clear hfr hne hko
                    go_wp2_with fail
                    go_region
                    go_wp2_with fail
                    go_roundw
                    case rel => exact ⟨k + 1, hlt, (fun h => by cases h), by go_num, (HSET.out _ rfl).1.drewN 1, (HSET.out _ rfl).2⟩
                    case measure => simp [RowKit.intOf]; omega
                  · have HN2 : Hid (BitsAt w wr g (fun j => R'.testBit j)) := HB.out.ext fun i hi => by
                      rw [HNX.out]
                      cases out with
                      | false => rw [hko rfl]; exact tpF_zero R i hi
                      | true =>
                        obtain rfl : k = 17 := by have : ¬ k < 17 := fun h => hgo ⟨h, rfl⟩; omega
                        exact tpF_all R i hi
                    have hN2 : n + 1 ≤ 8 * L := hN1
                    clear hfr hne HB HNX hko
                    by_cases hlt : k < 17
                    · have u1 : decide ((k : Int) < 17) = true := decide_eq_true (by omega)
                      obtain rfl : out = false := by cases out with
                        | false => rfl
                        | true => exact absurd ⟨hlt, rfl⟩ hgo
                      clear hgo
                      go_wp2_with fail
                      go_roundw
                      case rel => exact ⟨n + 1, by rw [← HL.out]; exact hN2, by go_num, by rw [← HR'.out]; exact HN2.out, HT.out⟩
                      case measure => simp [RowKit.intOf]; omega
                    · have u1 : decide ((k : Int) < 17) = false := decide_eq_false (by omega)
                      clear hgo
                      go_wp2_with fail
                      go_roundw
                      case rel => exact ⟨n + 1, by rw [← HL.out]; exact hN2, by go_num, by rw [← HR'.out]; exact HN2.out, HT.out⟩
                      case measure => simp [RowKit.intOf]; omega
        · have t1 : decide ((n : Int) < 8 * (L : Int)) = false := decide_eq_false (by omega)
          have t1' : decide (n < 8 * L) = false := decide_eq_false hlt
          have hne : n = 8 * xs.length := by rw [← HL.out]; omega
          obtain ⟨R, hR⟩ : ∃ R, R = regN (numB xs) n := ⟨_, rfl⟩
          have HM : Hid (R ^^^ ones = sumB xs) := by unfold Hid; rw [hR, hne, regN_all]; rfl
          rw [← hR] at HB hR32
          have HMl : Hid (sumB xs < 4294967296) := sumB_lt xs
          clear hne HT hR hlt
          go_wp2_with fail
          clear t1 t1'
          obtain ⟨M, hM⟩ : ∃ M, M = sumB xs := ⟨_, rfl⟩
          rw [← hM] at HM HMl
          have HMX := Lib.hid hM
          clear hM
          go_loopw [10, 11] (Lp5 w g R M) (fun _ i _ => (RowKit.intOf i + 1).toNat)
          case atStart => exact ⟨32, by decide, by rw [Nat.div_eq_of_lt HMl.out]; rfl, rfl, HB.out⟩
          case round =>
            obtain ⟨m, hm, rfl, rfl, hB⟩ := hrel
            have HB := Lib.hid hB
            clear hB
            cases m with
            | zero =>
              go_wp2_with fail
              go_returns
              exact ⟨by rw [← HMX.out]; simp, HB.out.2.1⟩
            | succ i =>
              have c0 := HB.out.cell i (by omega)
              have hs := num_step M i
              have hb : M.testBit i = !(R.testBit i) := by rw [← HM.out]; exact sum_bit R i (by omega)
              rw [hb] at hs
              have hl : M / 2 ^ i < 4294967296 := Nat.lt_of_le_of_lt (Nat.div_le_self _ _) HMl.out
              obtain ⟨B, hB⟩ : ∃ B, B = M / 2 ^ i := ⟨_, rfl⟩
              have HBM := Lib.hid hB
              rw [← hB] at hs hl
              generalize M / 2 ^ (i + 1) = A at *
              have ei : ((i + 1 : Nat) : Int) - 1 = (i : Int) := by omega
              rw [ei]
              have hi32 : (i : Int) < 32 := by omega
              cases hr : R.testBit i with
              | false =>
                rw [hr] at hs c0
                simp at hs
                obtain ⟨A2, hA2⟩ : ∃ A2, A2 = A * 2 := ⟨_, rfl⟩
                have e1 : IntKind.u32.wrap ((A : Int) * 2) = (A2 : Int) := by rw [IntKind.wrap_u32]; omega
                have e2 : IntKind.u32.wrap ((A2 : Int) + 1) = (B : Int) := by rw [IntKind.wrap_u32]; omega
                clear hs hl hb hA2 hB hr
                go_wp2_with fail
                go_roundw
                case rel => exact ⟨i, by omega, by rw [← HBM.out], rfl, HB.out⟩
                case measure => simp [RowKit.intOf]
              | true =>
                rw [hr] at hs c0
                simp at hs
                have e1 : IntKind.u32.wrap ((A : Int) * 2) = (B : Int) := by rw [IntKind.wrap_u32]; omega
                clear hs hl hb hB hr
                go_wp2_with fail
                go_roundw
                case rel => exact ⟨i, by omega, by rw [← HBM.out], rfl, HB.out⟩
                case measure => simp [RowKit.intOf]
end Go.Proofs.Ytgohnidndjbjiaa
