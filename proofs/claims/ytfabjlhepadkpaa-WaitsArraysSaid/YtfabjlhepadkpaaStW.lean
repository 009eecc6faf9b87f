/-
  slices.SortStableFunc at api.Where: the row in the memory; the comparison; insertion.
-/
import Derived.Test.YtfabjlhepadkpaaProg
import Derived.Test.YtfabjlhepadkpaaMem
import Derived.Test.YtfabjlhepadkpaaChg
import Derived.Test.YtfabjlhepadkpaaDePQS
import Derived.Lib.Hide
import Derived.WalkKit
import Derived.Deep.QuietTactic
import Derived.Deep.RegionHeld3
import Derived.BigQuiet
import Derived.BigRegion
import Derived.Handy
import Derived.Deep.DeepCutAuto
import Derived.Deep.CutBlock
namespace Go.Proofs.Ytfabjlhepadkpaa
open Go Go.RowKit Go.Lib
set_option linter.unusedVariables false

/-- A row of n elements, those of the marks D: each has a job and a state. -/
structure WS (w0 : World) (g n : Nat) (jf : Nat → Nat) (hf : Nat → Int) (D : Nat → Nat) (w : World) : Prop where
  blk : ∃ cs T, Blk w g cs T ∧ ∀ k, k < n → cs[k * 2]? = some (.int .u32 (jf (D k) : Nat)) ∧ cs[k * 2 + 1]? = some (.int .i64 (hf (D k)))
  chg : Chg (One g) w0 w
section
variable {w0 w w' : World} {g n : Nat} {jf : Nat → Nat} {hf : Nat → Int} {D : Nat → Nat}
theorem WS.kept (h : WS w0 g n jf hf D w) (hb : Below w.heap.size w w') : WS w0 g n jf hf D w' := by
  obtain ⟨⟨cs, T, h1, h2⟩, h3⟩ := h
  exact ⟨⟨cs, T, h1.kept hb, h2⟩, h3.more hb⟩
theorem WS.cell (h : WS w0 g n jf hf D w) {k : Nat} (hk : k < n) : w.cell? ⟨g, k * 2, none⟩ = some (.int .u32 (jf (D k) : Nat)) ∧ w.cell? ⟨g, k * 2 + 1, none⟩ = some (.int .i64 (hf (D k))) ∧ w.frozen? ⟨g, k * 2, none⟩ = false ∧ w.frozen? ⟨g, k * 2 + 1, none⟩ = false := by
  obtain ⟨⟨cs, T, h1, h2⟩, h3⟩ := h
  exact ⟨(h1.cell _).trans (h2 k hk).1, (h1.cell _).trans (h2 k hk).2, h1.free _, h1.free _⟩
theorem WS.swap (h : WS w0 g n jf hf D w) {i j : Nat} (hi : i < n) (hj : j < n) (hij : i ≠ j) :
    WS w0 g n jf hf (swpF D i j) ((((w.setCell ⟨g, i * 2, none⟩ (.int .u32 (jf (D j) : Nat))).setCell ⟨g, i * 2 + 1, none⟩ (.int .i64 (hf (D j)))).setCell ⟨g, j * 2, none⟩ (.int .u32 (jf (D i) : Nat))).setCell ⟨g, j * 2 + 1, none⟩ (.int .i64 (hf (D i)))) := by
  obtain ⟨⟨cs, T, h1, h2⟩, h3⟩ := h
  refine ⟨⟨_, T, (((h1.set _ _).set _ _).set _ _).set _ _, fun k hk => ?_⟩, (((h3.trans (Chg.setCell _ _ rfl)).trans (Chg.setCell _ _ rfl)).trans (Chg.setCell _ _ rfl)).trans (Chg.setCell _ _ rfl)⟩
  have si := (Array.getElem?_eq_some_iff.1 (h2 i hi).2).1
  have sj := (Array.getElem?_eq_some_iff.1 (h2 j hj).2).1
  refine ⟨?_, ?_⟩ <;> (simp only [Array.getElem?_setIfInBounds, Array.size_setIfInBounds]; unfold swpF; repeat' split)
  all_goals first
    | rfl
    | exact (h2 k hk).1
    | exact (h2 k hk).2
    | (exfalso; omega)
end
/-- -1, 0, 1. -/
def cmpN (x y : Nat) : Int := if x < y then -1 else if y < x then 1 else 0
theorem cmpN_neg (x y : Nat) : decide (cmpN x y < 0) = decide (x < y) := by
  unfold cmpN
  by_cases h : x < y
  · rw [if_pos h, decide_eq_true h]; rfl
  · rw [if_neg h, decide_eq_false h]
    split <;> rfl
theorem nanW_any (x : Int) (w : World) : Calls Try.prog 57 #[.int .u32 x] w fun e w' => e = .returned (.bool false) ∧ w' = w := by
  go_enter Try.func57, Try.ntmps57
  go_wp2_with fail
  go_ret
  exact ⟨by simp, rfl⟩
theorem cmpU_any (x y : Nat) (w : World) : Calls Try.prog 49 #[.int .u32 (x : Nat), .int .u32 (y : Nat)] w fun e w' => e = .returned (.int .i64 (cmpN x y)) ∧ w' = w := by
  by_cases h1 : x < y
  · have d1 : decide ((x : Int) < (y : Int)) = true := decide_eq_true (by omega)
    have d1' : decide (x < y) = true := decide_eq_true h1
    have hc : cmpN x y = -1 := by unfold cmpN; rw [if_pos h1]
    rw [hc]
    go_enter Try.func49, Try.ntmps49
    go_wp2_with (go_at_call 57; refine (nanW_any _ _).mono ?_; rintro e w1 ⟨rfl, rfl⟩)
    go_ret
    exact ⟨rfl, rfl⟩
  · have d1 : decide ((x : Int) < (y : Int)) = false := decide_eq_false (by omega)
    have d1' : decide (x < y) = false := decide_eq_false h1
    by_cases h2 : y < x
    · have d2 : decide ((x : Int) > (y : Int)) = true := decide_eq_true (by omega)
      have d2' : decide ((y : Int) < (x : Int)) = true := decide_eq_true (by omega)
      have d2'' : decide (y < x) = true := decide_eq_true h2
      have hc : cmpN x y = 1 := by unfold cmpN; rw [if_neg h1, if_pos h2]
      rw [hc]
      go_enter Try.func49, Try.ntmps49
      go_wp2_with (go_at_call 57; refine (nanW_any _ _).mono ?_; rintro e w1 ⟨rfl, rfl⟩)
      go_ret
      exact ⟨rfl, rfl⟩
    · have d2 : decide ((x : Int) > (y : Int)) = false := decide_eq_false (by omega)
      have d2' : decide ((y : Int) < (x : Int)) = false := decide_eq_false (by omega)
      have d2'' : decide (y < x) = false := decide_eq_false h2
      have hc : cmpN x y = 0 := by unfold cmpN; rw [if_neg h1, if_neg h2]
      rw [hc]
      go_enter Try.func49, Try.ntmps49
      go_wp2_with (go_at_call 57; refine (nanW_any _ _).mono ?_; rintro e w1 ⟨rfl, rfl⟩)
      go_ret
      exact ⟨rfl, rfl⟩
theorem sayCmp_any (x y : Nat) (p q : Int) (w : World) : Calls Try.prog 48 #[.agg #[.int .u32 (x : Nat), .int .i64 p], .agg #[.int .u32 (y : Nat), .int .i64 q]] w fun e w' => e = .returned (.int .i64 (cmpN x y)) ∧ Below w.heap.size w w' := by
  have C : Hid (∀ w1, Calls Try.prog 49 #[.int .u32 (x : Nat), .int .u32 (y : Nat)] w1 fun e w' => e = .returned (.int .i64 (cmpN x y)) ∧ w' = w1) := cmpU_any x y
  generalize cmpN x y = r at *
  go_enter Try.func48, Try.ntmps48
  go_wp2_with fail
  refine (C.out _).mono ?_; rintro e w1 ⟨rfl, rfl⟩
  go_wp2_with fail
  go_ret
  exact ⟨rfl, by go_grown⟩
set_option maxRecDepth 100000 in
set_option maxHeartbeats 4000000 in
theorem insW_any (w0 : World) (g n cap a b : Nat) (jf : Nat → Nat) (hf : Nat → Int) (D : Nat → Nat) (w : World) (hW : WS w0 g n jf hf D w) (hab : a ≤ b) (hb : b ≤ n) (hn : n ≤ 4194304) (hasc : ∀ i j, a ≤ i → i < j → j < b → D i < D j) :
    Calls Try.prog 65 #[.slice (some ⟨g, 0, none⟩) n cap, .int .i64 (a : Nat), .int .i64 (b : Nat), .func (.func 48) #[] #[]] w fun e w' =>
      e = .returned (.tuple #[]) ∧ ∃ D', WS w0 g n jf hf D' w' ∧ SR a b D D' ∧ Srt jf D' a b := by
  have HW := Lib.hid hW
  have HA := Lib.hid hasc
  have CP : Hid (∀ x y p q w1, Calls Try.prog 48 #[.agg #[.int .u32 (x : Nat), .int .i64 p], .agg #[.int .u32 (y : Nat), .int .i64 q]] w1 fun e w' => e = .returned (.int .i64 (cmpN x y)) ∧ Below w1.heap.size w1 w') := sayCmp_any
  clear hW hasc
  go_enter Try.func65, Try.ntmps65
  go_wp2_with fail
  go_loopw [8] (fun iv wr => ∃ (i : Nat) (Dk : Nat → Nat), iv = .int .i64 i ∧ a < i ∧ i ≤ b + 1 ∧ Hid (WS w0 g n jf hf Dk wr) ∧ Hid (SR a (min i b) D Dk ∧ Srt jf Dk a (min i b))) (fun iv _ => b + 1 - (RowKit.intOf iv).toNat)
  case atStart => exact ⟨a + 1, D, by go_num, by omega, by omega, HW.out, SR.refl _ _ _, fun p q h1 h2 h3 => by omega⟩
  case round =>
    obtain ⟨i, Dk, rfl, hai, hib, HS, HK⟩ := hrel
    by_cases hlt : i < b
    · have hd : decide ((i : Int) < (b : Int)) = true := decide_eq_true (by omega)
      have hd' : decide (i < b) = true := decide_eq_true hlt
      have HKi : Hid (SR a i D Dk ∧ Srt jf Dk a i) := by have := HK.out; rwa [Nat.min_eq_left (by omega)] at this
      have HLT : Hid (∀ k, a ≤ k → k < i → Dk k < Dk i) := fun k k1 k2 => by
        obtain ⟨k', q1, q2, e⟩ := HKi.out.1.fwd k k1 k2
        rw [e, HKi.out.1.out i (by omega)]
        exact HA.out k' i q1 q2 hlt
      have HDONE : Hid (∀ j, a ≤ j → j ≤ i → (∀ k, j ≤ k → k < i → Rk jf (Dk i) (Dk k)) → (a < j → Rk jf (Dk (j - 1)) (Dk i)) → SR a (min (i + 1) b) D (dnF Dk j i) ∧ Srt jf (dnF Dk j i) a (min (i + 1) b)) := fun j j1 j2 h1 h2 => by
        rw [Nat.min_eq_left (by omega)]
        exact ⟨(HKi.out.1.mono (Nat.le_refl _) (by omega)).trans (dnF_SR j1 j2 (by omega)), dnF_srt HKi.out.2 j1 j2 h1 h2⟩
      clear HK HKi
      go_upto_region 4 with fail
      go_loopw [9] (fun jv wr => ∃ j : Nat, jv = .int .i64 j ∧ a ≤ j ∧ j ≤ i ∧ Hid (WS w0 g n jf hf (dnF Dk j i) wr) ∧ Hid (∀ k, j ≤ k → k < i → Rk jf (Dk i) (Dk k))) (fun jv _ => (RowKit.intOf jv).toNat)
      case atStart => exact ⟨i, rfl, by omega, Nat.le_refl _, by rw [dnF_self]; exact HS.out, fun k h1 h2 => by omega⟩
      case round =>
        clear HS
        obtain ⟨j, rfl, haj, hji, HJ, HR⟩ := hrel
        by_cases hja : a < j
        · have g1 : decide ((j : Int) > (a : Int)) = true := decide_eq_true (by omega)
          have g1' : decide ((a : Int) < (j : Int)) = true := decide_eq_true (by omega)
          have g1'' : decide (a < j) = true := decide_eq_true hja
          obtain ⟨t, ht⟩ : ∃ t, t = j - 1 := ⟨_, rfl⟩
          obtain ⟨c0, c1, f0, f1⟩ := HJ.out.cell (k := j) (by omega)
          obtain ⟨c2, c3, f2, f3⟩ := HJ.out.cell (k := t) (by omega)
          have HSW : ∀ wq, Below wr.heap.size wr wq → Hid (WS w0 g n jf hf (dnF Dk t i) ((((wq.setCell ⟨g, j * 2, none⟩ (.int .u32 (jf (dnF Dk j i t) : Nat))).setCell ⟨g, j * 2 + 1, none⟩ (.int .i64 (hf (dnF Dk j i t)))).setCell ⟨g, t * 2, none⟩ (.int .u32 (jf (dnF Dk j i j) : Nat))).setCell ⟨g, t * 2 + 1, none⟩ (.int .i64 (hf (dnF Dk j i j))))) := fun wq hq => by
            have h := (HJ.out.kept hq).swap (i := j) (j := t) (by omega) (by omega) (by omega)
            rw [ht, dnF_step Dk (by omega) hji, ← ht] at h
            exact h
          have e0 : dnF Dk j i j = Dk i := dnF_at Dk j i
          have e1 : dnF Dk j i t = Dk t := by rw [ht]; exact dnF_pre Dk (by omega)
          rw [e0, e1] at HSW
          rw [e0] at c0 c1
          rw [e1] at c2 c3
          have HL := HLT.out t (by omega) (by omega)
          have HY : Hid (jf (Dk i) < jf (Dk t) → ∀ k, t ≤ k → k < i → Rk jf (Dk i) (Dk k)) := fun hh k k1 k2 => by
            by_cases e : k = t
            · rw [e]; exact .inl hh
            · exact HR.out k (by omega) k2
          have HN : Hid (¬ jf (Dk i) < jf (Dk t) → SR a (min (i + 1) b) D (dnF Dk j i) ∧ Srt jf (dnF Dk j i) a (min (i + 1) b)) := fun hh => HDONE.out j haj hji HR.out (fun _ => by rw [← ht]; unfold Rk; omega)
          obtain ⟨x, hx⟩ : ∃ x, x = jf (Dk i) := ⟨_, rfl⟩
          obtain ⟨y, hy⟩ : ∃ y, y = jf (Dk t) := ⟨_, rfl⟩
          obtain ⟨px, hpx⟩ : ∃ x, x = hf (Dk i) := ⟨_, rfl⟩
          obtain ⟨py, hpy⟩ : ∃ x, x = hf (Dk t) := ⟨_, rfl⟩
          rw [← hx] at c0 HSW HY HN
          rw [← hy] at c2 HSW HY HN
          rw [← hpx] at c1 HSW
          rw [← hpy] at c3 HSW
          have CXY : Hid (∀ w1, Calls Try.prog 48 #[.agg #[.int .u32 (x : Nat), .int .i64 px], .agg #[.int .u32 (y : Nat), .int .i64 py]] w1 fun e w' => e = .returned (.int .i64 (cmpN x y)) ∧ Below w1.heap.size w1 w') := fun w1 => CP.out x y px py w1
          have hcn := cmpN_neg x y
          generalize cmpN x y = cr at CXY hcn
          have e1 : (j : Int) - 1 = (t : Int) := by omega
          have e2 : IntKind.i64.wrap ((j : Int) - 1) = (t : Int) := by rw [e1, IntKind.wrap_i64]; omega
          have e3 : IntKind.i64.wrap (t : Int) = (t : Int) := by rw [IntKind.wrap_i64]; omega
          have hjN : (j : Int) < (n : Int) := by omega
          have htN : (t : Int) < (n : Int) := by omega
          have HCELL : Hid (∀ wq, Below wr.heap.size wr wq → wq.cell? ⟨g, j * 2, none⟩ = some (.int .u32 (x : Nat)) ∧ wq.cell? ⟨g, j * 2 + 1, none⟩ = some (.int .i64 px) ∧ wq.cell? ⟨g, t * 2, none⟩ = some (.int .u32 (y : Nat)) ∧ wq.cell? ⟨g, t * 2 + 1, none⟩ = some (.int .i64 py) ∧ wq.frozen? ⟨g, j * 2, none⟩ = false ∧ wq.frozen? ⟨g, j * 2 + 1, none⟩ = false ∧ wq.frozen? ⟨g, t * 2, none⟩ = false ∧ wq.frozen? ⟨g, t * 2 + 1, none⟩ = false) := fun wq hq => by
            obtain ⟨_, _, z0, z1⟩ := (HJ.out.kept hq).cell (k := j) (by omega)
            obtain ⟨_, _, z2, z3⟩ := (HJ.out.kept hq).cell (k := t) (by omega)
            exact ⟨cell_next hq c0, cell_next hq c1, cell_next hq c2, cell_next hq c3, z0, z1, z2, z3⟩
          clear hx hy hpx hpy ht HL HLT HDONE f0 f1 f2 f3
          cases hq : decide (cr < 0)
          all_goals
            go_wp2_with fail
            go_region_held3 (fun w' => w'.cell? ⟨g, j * 2, none⟩ = some (.int .u32 (x : Nat)) ∧ w'.cell? ⟨g, j * 2 + 1, none⟩ = some (.int .i64 px) ∧ w'.cell? ⟨g, t * 2, none⟩ = some (.int .u32 (y : Nat)) ∧ w'.cell? ⟨g, t * 2 + 1, none⟩ = some (.int .i64 py) ∧ Below wr.heap.size wr w')
              (first
                | exact ⟨c0, c1, c2, c3, (Below.refl _ _).drew⟩
                | exact ⟨c0, c1, c2, c3, Below.refl _ _⟩
                | (rcases ‹_ ∧ _ ∧ _ ∧ _ ∧ Below wr.heap.size _ _› with ⟨q0, q1, q2, q3, q5⟩; exact ⟨cell_next (by assumption) q0, cell_next (by assumption) q1, cell_next (by assumption) q2, cell_next (by assumption) q3, below_next (by assumption) q5⟩))
              (first
                | (go_at_call 48; ((with_reducible refine (CXY.out _).mono ?_); rintro e wm ⟨rfl, bm⟩)))
            rcases ‹_ ∧ _ ∧ _ ∧ _ ∧ Below wr.heap.size _ _› with ⟨_, _, _, _, g6⟩
          · have hnl : ¬ x < y := by rw [hq] at hcn; exact of_decide_eq_false hcn.symm
            have HF := Lib.hid (HN.out hnl)
            have HZ := Lib.hid (HJ.out.kept g6)
            clear HCELL HSW HY HN HR
            go_wp2_with fail
            go_roundw
            case rel => exact ⟨i + 1, _, by go_num, by omega, by omega, HZ.out, HF.out⟩
            case measure => simp [RowKit.intOf]; omega
          · have hl : x < y := by rw [hq] at hcn; exact of_decide_eq_true hcn.symm
            have HYY := Lib.hid (HY.out hl)
            clear c0 c1 c2 c3
            obtain ⟨c0, c1, c2, c3, f0, f1, f2, f3⟩ := HCELL.out _ g6
            have HZ := HSW _ g6
            clear HCELL HSW HY HN HR
            go_wp2_with fail
            trace_state
            go_region
            go_wp2_with fail
            go_roundw
            case rel => exact ⟨t, by go_num, by omega, by omega, HZ.out.kept (below_drewN (Below.refl _ _) _), HYY.out⟩
            case measure => simp [RowKit.intOf]; omega
        · have g1 : decide ((j : Int) > (a : Int)) = false := decide_eq_false (by omega)
          have g1' : decide ((a : Int) < (j : Int)) = false := decide_eq_false (by omega)
          have g1'' : decide (a < j) = false := decide_eq_false hja
          have HF := Lib.hid (HDONE.out j haj hji HR.out (fun h => absurd h hja))
          clear HDONE HLT HR
          go_wp2_with fail
          go_quiet (fail)
          go_wp2_with fail
          go_roundw
          case rel => exact ⟨i + 1, _, by go_num, by omega, by omega, HJ.out.kept (below_drewN (Below.refl _ _) _), HF.out⟩
          case measure => simp [RowKit.intOf]; omega
    · have hd : decide ((i : Int) < (b : Int)) = false := decide_eq_false (by omega)
      have hd' : decide (i < b) = false := decide_eq_false hlt
      have HF : Hid (SR a b D Dk ∧ Srt jf Dk a b) := by have := HK.out; rwa [Nat.min_eq_right (by omega)] at this
      go_wp2_with fail
      go_returns
      exact ⟨rfl, Dk, HS.out, HF.out⟩
end Go.Proofs.Ytfabjlhepadkpaa
