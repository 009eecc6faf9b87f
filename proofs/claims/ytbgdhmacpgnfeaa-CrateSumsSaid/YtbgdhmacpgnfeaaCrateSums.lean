/-
  CrateSums: sums of texts laid over one another come to nought, and a burst of 32 bits is told, whatever the bytes: so the law returns true for every input.
-/
import Derived.Test.YtbgdhmacpgnfeaaCrateK
import Derived.Test.YtbgdhmacpgnfeaaCrateY
import Derived.Test.YtbgdhmacpgnfeaaOpen
import Derived.Test.YtbgdhmacpgnfeaaRows
import Derived.Test.YtbgdhmacpgnfeaaArgs2
namespace Go.Proofs.Ytbgdhmacpgnfeaa.crateSums
open Go.ChangeShapes Go.WideShapes Go.ChangeAt Go.RowKit
set_option linter.unusedVariables false

theorem own : ownKnob Try.prog.godebug = none := by kernel_rfl

open Go.Lib
theorem long (A B : Option Addr) (n c m d : Nat) (at_ by_ : Int) (w : World) (h : 9000 < n) (h2 : 9000 < m) :
    Calls Try.prog 7 #[.slice A n c, .slice B m d, .int .i64 at_, .int .u32 by_] w fun e w' => e = .returned (.bool true) ∧ Below w.heap.size w w' := by
  have HK := Lib.hid (known17_any w)
  obtain ⟨N, hN, h3⟩ : ∃ N : Nat, min (n : Int) m = (N : Int) ∧ 9000 < N := ⟨min n m, by omega, by omega⟩
  have t : decide ((N : Int) > 9000) = true := decide_eq_true (by omega)
  clear h h2 h3
  go_enter Try.func7, Try.ntmps7
  go_wp2_with fail
  refine HK.out.mono ?_; rintro e w1 ⟨rfl, b1⟩
  go_wp2_with fail
  go_returns
  exact ⟨rfl, b1⟩
/-- Where loop 1 stands. -/
def Lp1 (w : World) (a b : List UInt8) (N : Nat) (xv iv : Value) (wr : World) : Prop :=
  ∃ k : Nat, k ≤ N ∧ iv = .int .i64 k ∧ wr.ownsRow w.heap.size 5 1 xv k (bts (overB (a.take k) (b.take k))) ∧ Below w.heap.size w wr
/-- Where loop 2 stands. -/
def Lp2 (w4 : World) (xs : List UInt8) (N K8 fr BY : Nat) (yv wasv iv : Value) (wr : World) : Prop :=
  ∃ (i : Nat) (ys : List UInt8), i ≤ 32 ∧ fr + i ≤ K8 ∧ iv = .int .i64 i ∧ wasv = .bool (decide (BY % 2 ^ i ≠ 0)) ∧ ys.length = N ∧ numB ys ^^^ numB xs = BY % 2 ^ i * 2 ^ fr ∧ wr.ownsRow w4.heap.size 5 1 yv N (bts ys) ∧ Below w4.heap.size w4 wr
set_option maxRecDepth 100000 in
set_option maxHeartbeats 1000000 in
theorem short (va vb : Value) (a b : List UInt8) (at_ by_ : Int) (w : World) (ha : Rd w (· < w.heap.size) va (bts a)) (hb : Rd w (· < w.heap.size) vb (bts b)) (w2 : (Lit.int .i64 at_).wf = true) (w3 : (Lit.int .u32 by_).wf = true) (hs : a.length ≤ 9000 ∨ b.length ≤ 9000) :
    Calls Try.prog 7 #[va, vb, .int .i64 at_, .int .u32 by_] w fun e w' => e = .returned (.bool true) ∧ Below w.heap.size w w' := by
  obtain ⟨i0, hi, hz0, hz1, hz2⟩ := info_parts Try.infoB
  have HA := Lib.hid ha
  have HB := Lib.hid hb
  obtain ⟨A, ca, rfl, hca⟩ := rd_len ha
  obtain ⟨B, cb, rfl, hcb⟩ := rd_len hb
  have hca2 : a.length ≤ ca := by obtain ⟨_, _, h1, h2, _⟩ := ha; injection h1 with _ _ h3; rw [bts_len] at h2; omega
  have hcb2 : b.length ≤ cb := by obtain ⟨_, _, h1, h2, _⟩ := hb; injection h1 with _ _ h3; rw [bts_len] at h2; omega
  clear ha hb
  obtain ⟨N, hN, hNa, hNb, hNs⟩ : ∃ N : Nat, min (a.length : Int) b.length = (N : Int) ∧ N ≤ a.length ∧ N ≤ b.length ∧ N ≤ 9000 := ⟨min a.length b.length, by omega, by omega, by omega, by omega⟩
  have t1 : decide ((N : Int) > 9000) = false := decide_eq_false (by omega)
  unfold maxLen at hca hcb
  go_enter Try.func7, Try.ntmps7
  go_wp2_with fail
  go_loopw [10, 11] (Lp1 w a b N) (fun _ i _ => N - (RowKit.intOf i).toNat)
  case atStart => exact ⟨0, Nat.zero_le _, rfl, World.ownsRow_nil _ _ _ _, Below.refl _ w⟩
  case round =>
    obtain ⟨k, hk, rfl, ho, hB⟩ := hrel
    have HO := Lib.hid ho
    have HW := Lib.hid hB
    obtain ⟨Ax, cx, rfl⟩ := owned_slice ho
    by_cases hlt : k < N
    · have l1 : k < a.length := by omega
      have l2 : k < b.length := by omega
      have t2 : decide ((k : Int) < N) = true := decide_eq_true (by omega)
      have t2' : decide (k < N) = true := decide_eq_true hlt
      obtain ⟨ga, oa, rfl, ba0, ba1, c0⟩ := rd_at (HA.out.kept hB) l1
      obtain ⟨gb, ob, rfl, bb0, bb1, c1⟩ := rd_at (HB.out.kept hB) l2
      have hov : Hid (bts (overB (a.take (k + 1)) (b.take (k + 1))) = bts (overB (a.take k) (b.take k)) ++ [.int .u8 ((a[k].toNat ^^^ b[k].toNat : Nat) : Int)]) := by
        unfold Hid
        rw [List.take_succ_eq_append_getElem l1, List.take_succ_eq_append_getElem l2, overB_snoc _ _ _ _ (by simp; omega), bts_app]
        congr 1
      have q1 := a[k].toNat_lt
      have q2 := b[k].toNat_lt
      generalize a[k].toNat = X at *
      generalize b[k].toNat = Y at *
      have hx : bits .xor .u8 (X : Int) (Y : Int) = ((X ^^^ Y : Nat) : Int) := u8_xor_nat X Y (by omega) (by omega)
      generalize X ^^^ Y = Z at *
      clear ho hB
      have one : ∀ u ∈ [Value.int .u8 (Z : Int)], u.oneCell' = true := by
        intro u hu
        obtain rfl : u = .int .u8 (Z : Int) := (by simpa using hu)
        rfl
      have hsz : w.heap.size ≤ wr.heap.size := HW.out.size
      go_wp2_with fail
      go_region_held3 (fun w' => w'.cell? ⟨ga, oa + k, none⟩ = some (.int .u8 (X : Int)) ∧ w'.cell? ⟨gb, ob + k, none⟩ = some (.int .u8 (Y : Int)) ∧ Below w.heap.size w w')
        (first
          | exact ⟨c0, c1, HW.out.drew⟩
          | (rcases ‹_ ∧ _ ∧ Below _ _ _› with ⟨q0, q1, q2⟩; exact ⟨Lib.cell?_alloc_some _ q0, Lib.cell?_alloc_some _ q1, q2.alloc q2.size _⟩)
          | (rcases ‹_ ∧ _ ∧ Below _ _ _› with ⟨q0, q1, q2⟩; exact ⟨hgrow4.cell q0 (fun e => by have := (HO.out.lt ga e.symm).1; omega), hgrow4.cell q1 (fun e => by have := (HO.out.lt gb e.symm).1; omega), q2.grown hgrow4 q2.size (fun i hi => (HO.out.lt i hi).1)⟩))
        ((refine step_append_lies _ (by rfl) _ _ 22 (by rfl) w.heap.size 5 i0 _ 1 1 Try.underlying22 hi hz0 hz1 hz2 rfl (by decide) _ k _ (by rfl) (World.ownsRow.alloc (w := wr.drew) HO.out _) ⟨wr.heap.size, 0, none⟩ 1 1 [.int .u8 (Z : Int)] (by rfl) (by rfl) (news_blk (cs := [.int .u8 (Z : Int)]) (Blk.fresh _ _ _ _ (by rfl))) one (by decide) (by unfold maxLen; omega) (by omega) (by simp; omega) (wr.heap.size + 1) (by simp) ?_; intro g4 cap4 w4 hown4 hgrow4 _ _))
      rcases ‹_ ∧ _ ∧ Below _ _ _› with ⟨_, _, B4⟩
      go_wp2_with fail
      go_roundw
      case rel => exact ⟨k + 1, hlt, by go_num, by rw [hov.out]; exact hown4, B4⟩
      case measure => simp [RowKit.intOf]; omega
    · obtain rfl : k = N := by omega
      have t2 : decide ((k : Int) < k) = false := decide_eq_false (by omega)
      have RA : Hid (Rd w (· < w.heap.size) (.slice A k ca) (bts (a.take k))) := rd_take HA.out k hNa
      have RB : Hid (Rd w (· < w.heap.size) (.slice B k cb) (bts (b.take k))) := rd_take HB.out k hNb
      have la : Hid ((a.take k).length = k) := by unfold Hid; rw [List.length_take]; omega
      have lb : Hid ((b.take k).length = k) := by unfold Hid; rw [List.length_take]; omega
      have BX := Lib.hid (owned_rd ho)
      clear ho hB
      obtain ⟨xs, hxs⟩ : ∃ xs, xs = a.take k := ⟨_, rfl⟩
      obtain ⟨ys, hys⟩ : ∃ ys, ys = b.take k := ⟨_, rfl⟩
      rw [← hxs] at RA la BX
      rw [← hys] at RB lb BX
      clear hxs hys
      obtain ⟨s1, hs1⟩ : ∃ s, s = sumB xs := ⟨_, rfl⟩
      obtain ⟨s2, hs2⟩ : ∃ s, s = sumB ys := ⟨_, rfl⟩
      obtain ⟨s3, hs3⟩ : ∃ s, s = sumB (overB xs ys) := ⟨_, rfl⟩
      obtain ⟨s4, hs4⟩ : ∃ s, s = sumB (List.replicate k 0) := ⟨_, rfl⟩
      obtain ⟨s12, hs12⟩ : ∃ s, s = s1 ^^^ s2 := ⟨_, rfl⟩
      obtain ⟨s123, hs123⟩ : ∃ s, s = s12 ^^^ s3 := ⟨_, rfl⟩
      have b1 : s1 < 2 ^ 32 := by rw [hs1]; exact sumB_lt _
      have b2 : s2 < 2 ^ 32 := by rw [hs2]; exact sumB_lt _
      have b3 : s3 < 2 ^ 32 := by rw [hs3]; exact sumB_lt _
      have b4 : s4 < 2 ^ 32 := by rw [hs4]; exact sumB_lt _
      have b12 : s12 < 2 ^ 32 := by rw [hs12]; exact Nat.xor_lt_two_pow b1 b2
      have b123 : s123 < 2 ^ 32 := by rw [hs123]; exact Nat.xor_lt_two_pow b12 b3
      have e1 : bits .xor .u32 (s1 : Int) (s2 : Int) = (s12 : Int) := by rw [hs12]; exact u32_xor_nat s1 s2 b1 b2
      have e2 : bits .xor .u32 (s12 : Int) (s3 : Int) = (s123 : Int) := by rw [hs123]; exact u32_xor_nat s12 s3 b12 b3
      have e3 : bits .xor .u32 (s123 : Int) (s4 : Int) = 0 := by
        have h0 : s123 ^^^ s4 = 0 := by rw [hs123, hs12, hs1, hs2, hs3, hs4]; have := sum4 xs ys (by rw [la.out, lb.out]); rw [la.out] at this; exact this
        rw [u32_xor_nat s123 s4 b123 b4, h0]; rfl
      have SA : Hid (∀ w', Below wr.heap.size wr w' → Calls Try.prog 11 #[.slice A k ca] w' fun e w'' => e = .returned (.int .u32 s1) ∧ w'' = w') := fun w' hb => by
        have := sum_any ((RA.out.kept HW.out).kept hb) (by rw [la.out]; omega)
        rw [← hs1] at this; exact this
      have SB : Hid (∀ w', Below wr.heap.size wr w' → Calls Try.prog 11 #[.slice B k cb] w' fun e w'' => e = .returned (.int .u32 s2) ∧ w'' = w') := fun w' hb => by
        have := sum_any ((RB.out.kept HW.out).kept hb) (by rw [lb.out]; omega)
        rw [← hs2] at this; exact this
      have SX : Hid (∀ w', Below wr.heap.size wr w' → Calls Try.prog 11 #[.slice Ax k cx] w' fun e w'' => e = .returned (.int .u32 s3) ∧ w'' = w') := fun w' hb => by
        have := sum_any (BX.out.kept hb) (by rw [overB_len _ _ (by rw [la.out, lb.out]), la.out]; omega)
        rw [← hs3] at this; exact this
      obtain ⟨ZC, hZC⟩ : ∃ ZC, ZC = (bts (List.replicate k 0)).toArray := ⟨_, rfl⟩
      have SZ : Hid (∀ w1 : World, w1 = wr.alloc (.cells ZC 5) ∨ w1 = (wr.alloc (.cells ZC 5)).drew ∨ w1 = wr.drew.alloc (.cells ZC 5) → Calls Try.prog 11 #[.slice (some ⟨wr.heap.size, 0, none⟩) k k] w1 fun e w'' => e = .returned (.int .u32 s4) ∧ w'' = w1) := fun w1 h => by
        have r1 := rd_lit wr (List.replicate k 0) k (by simp) (by unfold maxLen; omega) wr.heap.size rfl (0, 0)
        rw [← hZC] at r1
        have r2 : Rd w1 (fun b => b = wr.heap.size) (.slice (some ⟨wr.heap.size, 0, none⟩) k k) (bts (List.replicate k 0)) := by
          rcases h with rfl | rfl | rfl <;> exact r1
        have := sum_any r2 (by simp; omega)
        rw [← hs4] at this; exact this
      have hm : ∀ (w1 : World), (Instr.makeSlice 22 (.int .i64 (k : Int)) (.int .i64 (k : Int))).run Try.prog w1 = .ok (.slice (some ⟨w1.heap.size, 0, none⟩) k k) (w1.alloc (.cells ZC 5)) := fun w1 => by
        have hr := run_make (P := Try.prog) w1 22 5 i0 (.int .u8 0) Try.underlying22 hi hz0 .i64 .i64 k k (by omega) (Int.le_refl _) (by rw [hz2]; omega) (by omega)
        simp only [Int.toNat_natCast] at hr
        have e : madeCells (Value.int .u8 0).cells (k * i0.size) = ZC := by
          rw [hZC]
          apply Array.ext'
          rw [show (Value.int .u8 0).cells = #[Value.int .u8 0] from rfl, hz1, Nat.mul_one, toList_madeCells_one]
          simp [bts]
        rw [hr, e]
      have ka : k ≤ ca := by omega
      have kb : k ≤ cb := by omega
      have ka' : (k : Int) ≤ ca := by omega
      have kb' : (k : Int) ≤ cb := by omega
      clear hs1 hs2 hs3 hs4 hs12 hs123 b1 b2 b3 b4 b12 b123 hZC
      go_upto_region 9 with fail
      go_cut [57] (fun sl wx => sl = .bool false ∧ ∃ wq, wq = wx ∧ Below wr.heap.size wr wq)
      case first =>
        go_wp2_with fail
        go_region_held3 (fun w' => Below wr.heap.size wr w')
          (first
            | exact (Below.refl _ _).drew
            | assumption
            | exact (by assumption : Below wr.heap.size wr _).alloc (by assumption : Below wr.heap.size wr _).size _
            | exact below_next (by assumption) (by assumption))
          (first
            | (go_at_call 11; first
                | ((with_reducible refine (SA.out _ (by assumption)).mono ?_); rintro e w1 ⟨rfl, rfl⟩)
                | ((with_reducible refine (SB.out _ (by assumption)).mono ?_); rintro e w1 ⟨rfl, rfl⟩)
                | ((with_reducible refine (SX.out _ (by assumption)).mono ?_); rintro e w1 ⟨rfl, rfl⟩)
                | ((refine (SZ.out _ (by first | exact .inl rfl | exact .inr (.inl rfl) | exact .inr (.inr rfl))).mono ?_); rintro e w1 ⟨rfl, rfl⟩)))
        all_goals
          go_wp2_with fail
          go_meet
          exact ⟨rfl, _, rfl, ((Below.refl _ wr).alloc (Nat.le_refl _) _).drew⟩
      case rest =>
        obtain ⟨hsl, w4, hwx, hb4⟩ := hcut
        subst hsl
        subst hwx
        have B4 := Lib.hid (HW.out.trans (hb4.mono HW.out.size))
        have RA4 := Lib.hid (RA.out.kept B4.out)
        have KN := Lib.hid (fun w => known17_any w)
        clear hb4 SA SB SX SZ hm e1 e2 e3
        by_cases hk0 : k = 0
        · subst hk0
          go_wp2_with fail
          refine (KN.out _).mono ?_; rintro e w5 ⟨rfl, bk⟩
          have B5 := Lib.hid (B4.out.trans (bk.mono B4.out.size))
          clear bk
          go_wp2_with fail
          go_returns
          exact ⟨rfl, B5.out⟩
        · have tz : ((k : Int) == 0) = false := by simp; omega
          have tz' : (k == 0) = false := by simp; omega
          obtain ⟨K8, hK8⟩ : ∃ K8, K8 = 8 * k := ⟨_, rfl⟩
          have m1 : IntKind.i64.wrap (8 * (k : Int)) = (K8 : Int) := by rw [IntKind.wrap_i64]; omega
          have m2 : IntKind.u64.wrap (K8 : Int) = (K8 : Int) := by rw [IntKind.wrap_u64]; omega
          have hK0 : 0 < K8 := by omega
          obtain ⟨fr, hfr⟩ := Int.eq_ofNat_of_zero_le (a := IntKind.u64.wrap at_ % (K8 : Int)) (Int.emod_nonneg _ (by omega))
          have hfl : fr < K8 := by have := Int.emod_lt_of_pos (IntKind.u64.wrap at_) (show (0 : Int) < (K8 : Int) by omega); rw [hfr] at this; exact Int.ofNat_lt.1 this
          have hK9 : K8 ≤ 72000 := by omega
          have m3 : IntKind.i64.wrap (fr : Int) = (fr : Int) := i64_nat fr (Nat.le_trans (Nat.le_of_lt hfl) (Nat.le_trans hK9 (by decide)))
          have tk : ¬ (K8 : Int) = 0 := by omega
          have ud := u64_bd at_
          have hfr2 : IntKind.u64.wrap at_ % (8 * (k : Int)) = (fr : Int) := by rw [← hfr, hK8]; congr 1
          have m4 : wrap64 (fr : Int) = (fr : Int) := w64_nat fr (Nat.le_trans (Nat.le_of_lt hfl) (Nat.le_trans hK9 (by decide)))
          clear hfr
          have hby : Hid (0 ≤ by_ ∧ by_ < 4294967296) := by
            have h' : 0 ≤ by_ ∧ by_ ≤ 4294967295 := by simpa [Lit.wf, IntKind.min, IntKind.max, IntKind.bits, IntKind.signed] using w3
            exact ⟨h'.1, by omega⟩
          have hfl' : Hid (fr < 8 * k) := by rw [← hK8]; exact hfl
          have hk9 := Lib.hid hNs
          go_wp2_with fail
          refine (byCopy_any RA4.out (by rw [la.out]; omega)).mono ?_; rintro e w5 ⟨v5, rfl, ho5, hb5⟩
          rw [la.out] at ho5
          have HY := Lib.hid ho5
          have B5 := Lib.hid hb5
          obtain ⟨g5, d5, rfl⟩ : ∃ g d, v5 = .slice (some ⟨g, 0, none⟩) k d := by
            obtain ⟨_, ⟨_, h0⟩ | ⟨g, cap, _, h, _⟩⟩ := ho5
            · exact absurd h0 hk0
            · exact ⟨g, cap, h⟩
          clear ho5 hb5
          obtain ⟨BY, rfl⟩ := Int.eq_ofNat_of_zero_le (a := by_) hby.out.1
          have hBY : Hid (BY < 4294967296) := by have := hby.out.2; unfold Hid; omega
          clear m1 m2 hby w3
          go_wp2_with fail
          clear ud hfr2 m3 m4 hK9 hfl hK0 tk hK8 hNs
          have m8 : wrap64 (8 * (k : Int)) = 8 * (k : Int) := w64_nat (8 * k) (Nat.le_trans (Nat.mul_le_mul_left 8 hk9.out) (by decide))
          have HKA := Lib.hid ka
          have HKA' := Lib.hid ka'
          have HCA := Lib.hid hca
          clear t1 t2 hN hNa hNb hca hcb hca2 hcb2 ka kb ka' kb' tz tz' hk hk0 hi hz0 hz1 hz2
          go_loopw [13, 15] (Lp2 w4 xs k (8 * k) fr BY (.slice (some ⟨g5, 0, none⟩) k d5)) (fun _ i _ => 32 - (RowKit.intOf i).toNat)
          case atStart => exact ⟨0, xs, Nat.zero_le _, Nat.le_of_lt hfl'.out, rfl, by simp [Nat.mod_one], la.out, by simp [Nat.mod_one], HY.out, B5.out⟩
          case round =>
            obtain ⟨i, zs, hi1, hi2, rfl, rfl, hzl, hzn, hzo, hzb⟩ := hrel
            have HZL := Lib.hid hzl
            have HZN := Lib.hid hzn
            have HZO := Lib.hid hzo
            have HZB := Lib.hid hzb
            have HI2 := Lib.hid hi2
            obtain ⟨was, hwas⟩ : ∃ was, was = decide (BY % 2 ^ i ≠ 0) := ⟨_, rfl⟩
            have HWAS := Lib.hid hwas
            rw [← hwas]
            clear hzl hzn hzo hzb hwas hi2
            by_cases hgo : i < 32 ∧ fr + i < 8 * k
            · obtain ⟨P, LP⟩ := lp_in fr i k hk9.out hgo.1 hgo.2
              have hg1 := hgo.1
              have HLP := Lib.hid LP
              obtain ⟨hPe, hPk, u1, u2, u2', u2'', u3, u3', u4, hnx⟩ := LP
              have HNX := Lib.hid hnx
              clear hgo hPe hnx hPk
              rcases Nat.mod_two_eq_zero_or_one (BY / 2 ^ i) with hm | hm
              · have HM := Lib.hid hm
                have u5 : ((BY : Int) / 2 ^ i).tmod 2 = 0 := bit_tmod BY i 0 hm
                clear hm
                go_wp2_with fail
                go_roundw
                case rel => exact ⟨i + 1, zs, hg1, HNX.out, by go_num, by rw [HWAS.out, low_succ, HM.out, Nat.zero_mul, Nat.add_zero], HZL.out, turned_same HZN.out HM.out, HZO.out, HZB.out⟩
                case measure => simp [RowKit.intOf]; omega
              · have HM := Lib.hid hm
                have u5 : ((BY : Int) / 2 ^ i).tmod 2 = 1 := bit_tmod BY i 1 hm
                clear hm
                obtain ⟨q, j, C, LB⟩ := lp_bit P k (Nat.le_trans hk9.out (by decide)) HLP.out.lt
                obtain ⟨hqk, hqk', hj8, hpq, v1, v1', v2, v2', v3, v3', v4, hC, hC256, v5, v6⟩ := LB
                have hqz : q < zs.length := by rw [HZL.out]; exact hqk
                have c0 : wr.cell? ⟨g5, q, none⟩ = some (.int .u8 ((zs[q]).toNat : Int)) := by
                  rw [HZO.out.cellAt q (by rw [Nat.mul_one]; exact hqk)]
                  exact bts_get zs q hqz
                have f0 : wr.frozen? ⟨g5, q, none⟩ = false := HZO.out.frozenAt q
                have hxl := zs[q].toNat_lt
                have HST : Hid (bts (zs.set q (zs[q] ^^^ UInt8.ofNat C)) = (bts zs).set q (.int .u8 ((zs[q].toNat ^^^ C : Nat) : Int))) := by
                  unfold Hid bts
                  rw [List.map_set, UInt8.toNat_xor, UInt8.toNat_ofNat', Nat.mod_eq_of_lt hC256]
                have HTN : Hid (numB (zs.set q (zs[q] ^^^ UInt8.ofNat C)) ^^^ numB xs = BY % 2 ^ (i + 1) * 2 ^ fr) := turned_next HZN.out q hqz (UInt8.ofNat C) (by
                  rw [UInt8.toNat_ofNat', Nat.mod_eq_of_lt hC256, hC, ← Nat.pow_add]; congr 1; rw [← HLP.out.eq, hpq, Nat.add_comm]) HM.out
                have HWT : Hid (decide (BY % 2 ^ (i + 1) ≠ 0) = true) := by
                  refine decide_eq_true ?_
                  rw [low_succ, HM.out]
                  have := Nat.two_pow_pos i
                  omega
                have HSL : Hid ((zs.set q (zs[q] ^^^ UInt8.ofNat C)).length = k) := by unfold Hid; rw [List.length_set]; exact HZL.out
                generalize zs.set q (zs[q] ^^^ UInt8.ofNat C) = zs2 at *
                generalize zs[q].toNat = X at *
                have hx : bits .xor .u8 (X : Int) (C : Int) = ((X ^^^ C : Nat) : Int) := u8_xor_nat X C hxl hC256
                generalize X ^^^ C = Z at *
                have v7 : (2 : Int) ^ (min j 8) % 256 = (C : Int) := by rw [Nat.min_eq_left (Nat.le_of_lt hj8), v5]; omega
                clear hC hpq hqz
                go_wp2_with fail
                go_roundw
                case rel =>
                  have hst := HZO.out.stored q (.int .u8 (Z : Int))
                  exact ⟨i + 1, zs2, hg1, HNX.out, by go_num, by rw [HWT.out], HSL.out, HTN.out, by rw [HST.out]; exact hst.1, Below.setCell (p := (⟨g5, q, none⟩ : Addr)) HZB.out (owns_base HZO.out rfl) _⟩
                case measure => simp [RowKit.intOf]; omega
            · have hkl : zs.length = xs.length := by rw [HZL.out, la.out]
              have hbu : (sumB zs = sumB xs) ↔ BY % 2 ^ i = 0 := sumB_burst zs xs hkl (BY % 2 ^ i) fr (Nat.lt_of_le_of_lt (Nat.mod_le _ _) hBY.out) (by rw [HZL.out]; exact Nat.le_trans (Nat.le_add_right _ _) HI2.out) HZN.out
              obtain ⟨t1_, ht1⟩ : ∃ s, s = sumB zs := ⟨_, rfl⟩
              obtain ⟨t2_, ht2⟩ : ∃ s, s = sumB xs := ⟨_, rfl⟩
              have hne : ((t1_ : Int) != (t2_ : Int)) = was := by
                rw [← ht1, ← ht2] at hbu
                rw [HWAS.out]
                by_cases h : t1_ = t2_
                · have h0 := hbu.1 h
                  rw [h, h0]; simp
                · have h0 : ¬ BY % 2 ^ i = 0 := fun h1 => h (hbu.2 h1)
                  rw [decide_eq_true h0]
                  exact bne_iff_ne.2 (fun e => h (Int.ofNat_inj.1 e))
              have ZR := Lib.hid (owned_rd HZO.out)
              have SY : Hid (∀ w', Below wr.heap.size wr w' → Calls Try.prog 11 #[.slice (some ⟨g5, 0, none⟩) k d5] w' fun e w'' => e = .returned (.int .u32 t1_) ∧ w'' = w') := fun w' hb => by
                have := sum_any (ZR.out.kept hb) (by rw [HZL.out]; have := hk9.out; omega)
                rw [← ht1] at this; exact this
              have BW : Hid (Below w.heap.size w wr) := B4.out.trans (HZB.out.mono B4.out.size)
              have SA2 : Hid (∀ w', Below wr.heap.size wr w' → Calls Try.prog 11 #[.slice A k ca] w' fun e w'' => e = .returned (.int .u32 t2_) ∧ w'' = w') := fun w' hb => by
                have := sum_any ((RA.out.kept BW.out).kept hb) (by rw [la.out]; have := hk9.out; omega)
                rw [← ht2] at this; exact this
              clear hbu ht1 ht2 hkl
              by_cases hi32 : i < 32
              · have hPK : fr + i = 8 * k := by have := HI2.out; omega
                have u1 : decide ((i : Int) < 32) = true := decide_eq_true (by omega)
                obtain ⟨P, hP⟩ : ∃ P, P = fr + i := ⟨_, rfl⟩
                have u2 : IntKind.i64.wrap ((fr : Int) + (i : Int)) = (P : Int) := by rw [← i64_nat P (by have := hk9.out; omega), hP]; simp
                have u2' : (fr : Int) + (i : Int) = (P : Int) := by omega
                have u2'' : wrap64 (P : Int) = (P : Int) := w64_nat _ (by have := hk9.out; omega)
                have u3 : decide ((P : Int) < 8 * (k : Int)) = false := decide_eq_false (by omega)
                have u3' : decide (P < 8 * k) = false := decide_eq_false (by omega)
                have ka := HKA.out
                have ka' := HKA'.out
                have hca := HCA.out
                clear hgo hPK hP
                go_wp2_with fail
                go_region_held3 (fun w' => Below wr.heap.size wr w')
                  (first
                    | exact (Below.refl _ _).drew
                    | assumption
                    | exact below_next (by assumption) (by assumption))
                  (first
                    | (go_at_call 11; first
                        | ((with_reducible refine (SY.out _ (by assumption)).mono ?_); rintro e w1 ⟨rfl, rfl⟩)
                        | ((with_reducible refine (SA2.out _ (by assumption)).mono ?_); rintro e w1 ⟨rfl, rfl⟩))
                    | (go_at_call 9; ((with_reducible refine (KN.out _).mono ?_); rintro e w1 ⟨rfl, bk⟩)))
                all_goals
                  go_wp2_with fail
                  go_returns
                  exact ⟨rfl, BW.out.trans ((by assumption : Below wr.heap.size wr _).mono BW.out.size)⟩
              · have u1 : decide ((i : Int) < 32) = false := decide_eq_false (by omega)
                have ka := HKA.out
                have ka' := HKA'.out
                have hca := HCA.out
                clear hgo
                go_wp2_with fail
                go_region_held3 (fun w' => Below wr.heap.size wr w')
                  (first
                    | exact (Below.refl _ _).drew
                    | assumption
                    | exact below_next (by assumption) (by assumption))
                  (first
                    | (go_at_call 11; first
                        | ((with_reducible refine (SY.out _ (by assumption)).mono ?_); rintro e w1 ⟨rfl, rfl⟩)
                        | ((with_reducible refine (SA2.out _ (by assumption)).mono ?_); rintro e w1 ⟨rfl, rfl⟩))
                    | (go_at_call 9; ((with_reducible refine (KN.out _).mono ?_); rintro e w1 ⟨rfl, bk⟩)))
                all_goals
                  go_wp2_with fail
                  go_returns
                  exact ⟨rfl, BW.out.trans ((by assumption : Below wr.heap.size wr _).mono BW.out.size)⟩
theorem walk (va : Value) (a : List UInt8) (vb : Value) (b : List UInt8) (at_ by_ : Int) (w : World) (ha : Rd w (· < w.heap.size) va (bts a)) (hb : Rd w (· < w.heap.size) vb (bts b)) (w2 : (Lit.int .i64 at_).wf = true) (w3 : (Lit.int .u32 by_).wf = true) :
    Calls Try.prog 7 #[va, vb, .int .i64 at_, .int .u32 by_] w fun e w' => e = .returned (.bool true) ∧ Below w.heap.size w w' := by
  by_cases h : 9000 < a.length ∧ 9000 < b.length
  · obtain ⟨A, ca, rfl, _⟩ := rd_len ha
    obtain ⟨B, cb, rfl, _⟩ := rd_len hb
    exact long A B _ ca _ cb at_ by_ w h.1 h.2
  · exact short va vb a b at_ by_ w ha hb w2 w3 (by omega)


set_option maxRecDepth 100000 in
theorem lifted (os : Os) (started : os.Started) (H : Type) (enc : TypeId × Value → H) :
    ReturnsInHanded {} Try.checked os 7 .any (Rows.crateSumsSpec.pre6 enc Try.prog Try.f7 Rows.crateSumsRow.domain false) (Rows.crateSumsSpec.post enc Try.prog Try.f7 false true false false) := by
  refine returnsInHanded_of_change (C := Try.checked) own started (by kernel_rfl) Try.func7
    (ChangeSpec.witness6 (enc := enc) (C := Try.checked) false ⟨#[], #[.slice none 0 0, .slice none 0 0, .int .i64 0, .int .u32 0], []⟩ 8 (by kernel_rfl) (by kernel_rfl) (by kernel_rfl) (by kernel_rfl)) ?_
  intro W base args ds gs before hval0 hW _ _
  have hval : ∀ (j : Nat) t v, Try.f7.params[j]? = some t → args[j]? = some v → Value.okWide Try.prog W .any base t v := hval0
  have hW' := hW
  obtain ⟨p, q, hA0, hV, rfl, hfz, hnd⟩ := hW
  have hA : DataW.TrodAll enc Try.prog W 0 (fun _ => true) true Try.f7.params.toList args.toList ds p := hA0
  rw [Try.params7] at hA hval
  obtain ⟨v0, vs0, d0, ds0, p0, q0, hargs, rfl, rfl, h0, r0⟩ := trodAll_cons hA
  obtain ⟨v1, vs1, d1, ds1, p1, q1, rfl, rfl, rfl, h1, r1⟩ := trodAll_cons r0
  obtain ⟨v2, vs2, d2, ds2, p2, q2, rfl, rfl, rfl, h2, r2⟩ := trodAll_cons r1
  obtain ⟨v3, vs3, d3, ds3, p3, q3, rfl, rfl, rfl, h3, r3⟩ := trodAll_cons r2
  obtain ⟨rfl, rfl, rfl⟩ := trodAll_nil r3
  obtain rfl : args = #[v0, v1, v2, v3] := by cases args; simp_all
  obtain ⟨a, w0⟩ := open_reader (reader_bytes Try.underlying22 Try.underlying5 (by kernel_rfl)) h0 (okWide_slice Try.underlying22 (hval 0 22 v0 rfl rfl))
  obtain ⟨b, w1⟩ := open_reader (reader_bytes Try.underlying22 Try.underlying5 (by kernel_rfl)) h1 (okWide_slice Try.underlying22 (hval 1 22 v1 rfl rfl))
  obtain ⟨at_, rfl, rfl, rfl, w2⟩ := open_int Try.underlying3 (hval 2 3 v2 rfl rfl) h2
  obtain ⟨by_, rfl, rfl, rfl, w3⟩ := open_int Try.underlying25 (hval 3 25 v3 rfl rfl) h3
  clear hA0 hval0
  refine (walk v0 a v1 b at_ by_ W w0 w1 w2 w3).mono fun e W' ⟨he, hb⟩ => ?_
  subst he
  exact ⟨_, rfl, law_post (by kernel_rfl) (by kernel_rfl) rfl Try.underlying4 rfl hW' rfl hb⟩

theorem over : Rows.crateSumsRow.holds Try.pinned (OpenSpec.ofChange Rows.crateSumsSpec) :=
  OpenClaim.holds_of_wide 7 Try.f7 rfl rfl rfl rfl rfl rfl rfl ⟨rfl, rfl, rfl, rfl, rfl⟩ rfl rfl rfl rfl rfl (by kernel_rfl) Try.func7 (by kernel_rfl)
    (of_decide_eq_true (by kernel_rfl)) (by unfold Func.isWrapper; first | (rw [if_pos (by decide +kernel)]; kernel_rfl) | (rw [if_neg (by decide +kernel)]; exact ⟨rfl, rfl⟩))
    (fun os started H enc _ => lifted os started H enc)

theorem proved : Rows.CrateSumsSaid :=
  over
#print axioms proved
end Go.Proofs.Ytbgdhmacpgnfeaa.crateSums
