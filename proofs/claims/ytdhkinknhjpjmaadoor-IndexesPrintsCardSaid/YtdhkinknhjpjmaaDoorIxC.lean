/-
  The reader's call end.
-/
import Derived.Test.YtdhkinknhjpjmaaDoorIxB
namespace Go.Proofs.YtdhkinknhjpjmaaDoor
open Go Go.RowKit Go.Lib
set_option linter.unusedVariables false

/-- The numbers of a run that have been marked when the index stands at i. -/
def uptoM (m : Nat → Bool) (a c i : Nat) : Nat → Bool := fun x => m x || decide (a ≤ x ∧ x < i ∧ (x - a) % c = 0)
theorem upto_zero (m : Nat → Bool) (a c : Nat) : uptoM m a c a = m := by
  funext x; unfold uptoM
  rw [decide_eq_false (by omega), Bool.or_false]
theorem mod_gap {a c i x : Nat} (hc : 0 < c) (ha : a ≤ i) (hm : (i - a) % c = 0) (hx : a ≤ x) (hxm : (x - a) % c = 0) : (x < i → x + c ≤ i) ∧ (i ≤ x → x < i + c → x = i) := by
  have e1 := Nat.div_add_mod (i - a) c
  have e2 := Nat.div_add_mod (x - a) c
  rw [hm] at e1
  rw [hxm] at e2
  generalize (i - a) / c = p at *
  generalize (x - a) / c = q at *
  constructor
  · intro h
    have : c * q < c * p := by omega
    have := Nat.lt_of_mul_lt_mul_left this
    have := Nat.mul_le_mul_left c (show q + 1 ≤ p by omega)
    rw [Nat.mul_add, Nat.mul_one] at this
    omega
  · intro h1 h2
    have h3 : c * q < c * (p + 1) := by rw [Nat.mul_add, Nat.mul_one]; omega
    have h4 := Nat.lt_of_mul_lt_mul_left h3
    have h5 := Nat.mul_le_mul_left c (show q ≤ p by omega)
    omega
theorem upto_next {m : Nat → Bool} {a c i : Nat} (hc : 0 < c) (ha : a ≤ i) (hm : (i - a) % c = 0) : uptoM m a c (i + c) = fun x => if x = i then true else uptoM m a c i x := by
  funext x
  unfold uptoM
  by_cases hx : x = i
  · subst hx
    rw [if_pos rfl, decide_eq_true ⟨ha, by omega, hm⟩, Bool.or_true]
  · rw [if_neg hx]
    congr 1
    refine decide_eq_decide.2 ⟨fun h => ?_, fun h => ⟨h.1, by omega, h.2.2⟩⟩
    have := mod_gap hc ha hm h.1 h.2.2
    refine ⟨h.1, ?_, h.2.2⟩
    rcases Nat.lt_or_ge x i with h1 | h1
    · exact h1
    · exact absurd (this.2 h1 h.2.1) hx
theorem upto_end {m : Nat → Bool} {a b c i : Nat} (hc : 0 < c) (ha : a ≤ i) (hm : (i - a) % c = 0) (h1 : b < i) (h2 : i ≤ b + c) : uptoM m a c i = fun x => m x || inRun a b c x := by
  funext x
  unfold uptoM inRun
  congr 1
  refine decide_eq_decide.2 ⟨fun h => ⟨h.1, ?_, h.2.2⟩, fun h => ⟨h.1, by omega, h.2.2⟩⟩
  have := (mod_gap hc ha hm h.1 h.2.2).1 h.2.1
  omega
theorem field_marks {s : St} {f : Nat → Bool} {j i : Nat} (hj : j ≤ 1000) (hi : i < 1009) (h : i ≠ 7 + j) (hf : ∀ x, x ≠ j → f x = s.marks x) : fieldV { s with marks := f } i = fieldV s i := by
  unfold fieldV
  dsimp only
  split
  · rfl
  · split
    · rfl
    · split
      · rfl
      · split
        · rfl
        · split
          · rw [hf _ (by omega)]
          · rfl
theorem Rdr.mark {w : World} {b : Nat} {s : St} (h : Rdr w b s) {j : Nat} (hj : j ≤ 1000) (f : Nat → Bool) (hf : f j = true) (hf2 : ∀ x, x ≠ j → f x = s.marks x) : Rdr (w.setCell ⟨b, 7 + j, none⟩ (.bool true)) b { s with marks := f } :=
  h.store (by omega) (by rw [f_mark _ hj]; show Value.bool (f j) = _; rw [hf]) fun i hi9 hi => field_marks hj hi9 hi hf2

theorem fill_le {s : St} (h9 : ∀ q, s.num q ≤ 9999) (q : Nat) : s.fill q ≤ 9999 := by
  have h1 : ∀ q, s.fill1 q ≤ 9999 := fun q => by
    unfold St.fill1
    split
    · unfold upd; split
      · exact h9 _
      · exact h9 _
    · exact h9 _
  unfold St.fill
  split
  · unfold upd; split
    · omega
    · exact h1 _
  · exact h1 _
set_option maxRecDepth 100000 in
set_option maxHeartbeats 8000000 in
theorem rend_any (b : Nat) (s : St) (w : World) (hs : StOk s) (h : Rdr w b s) :
    Calls Tryd.prog 21 #[.pointer (some ⟨b, 0, none⟩)] w fun e w' => e = .returned (.tuple #[]) ∧ Rdr w' b s.fin ∧ w.grownBy w' (some b) := by
  have hp := hs.part
  have c1 := h.cell (i := 1) (by omega)
  have c3 := h.cell (i := 3) (by omega)
  have c4 := h.cell (i := 4) (by omega)
  have c5 := h.cell (i := 5) (by omega)
  have f4 := h.frozen 4
  have f5 := h.frozen 5
  rw [f_part] at c1
  rw [show fieldV s 3 = .int .i64 (s.num 0) from f_num s (q := 0) (by omega)] at c3
  obtain ⟨t, ht⟩ : ∃ t : St, t = { s with num := s.fill } := ⟨_, rfl⟩
  have htp : t.part = s.part := by rw [ht]
  have FA : Hid (∀ w1, Rdr w1 b t → Calls Tryd.prog 33 #[.pointer (some ⟨b, 0, none⟩)] w1 fun e w' => e = .returned (.bool (isFault s.part t.num)) ∧ w1.grownBy w' (some b) ∧ Rdr w' b t) := fun w1 hr => by
    rw [← htp]; exact rfault_any b t w1 (by rw [htp]; exact hp) (by rw [ht]; exact fill_le hs.num) hr
  have FT : Hid (isFault s.part t.num = true → s.fin = { t with fault := some (t.fault.getD t.bg) }) := fun hq => by
    rw [ht] at hq ⊢; unfold St.fin; rw [if_pos hq]
  have FP : Hid (isFault s.part t.num = false → s.part = 3 → s.fin = t) := fun hq h3 => by
    rw [ht] at hq ⊢; unfold St.fin; rw [if_neg (by rw [hq]; simp), if_pos h3]
  have FM : Hid (isFault s.part t.num = false → s.part ≠ 3 → s.fin = { t with marks := fun i => t.marks i || inRun (t.num 0) (t.num 1) (t.num 2) i }) := fun hq h3 => by
    rw [ht] at hq ⊢; unfold St.fin; rw [if_neg (by rw [hq]; simp), if_neg h3]
  have FB : Hid (isFault s.part t.num = false → s.part ≠ 3 → t.num 0 ≤ 1000 ∧ t.num 1 ≤ 1000 ∧ t.num 2 ≤ 1000 ∧ t.num 0 ≤ t.num 1 ∧ 0 < t.num 2) := fun hq h3 => by
    unfold isFault at hq; rw [if_neg h3] at hq
    unfold badItem at hq
    rw [decide_eq_false_iff_not] at hq
    omega
  have G0 : Hid (w.grownBy w (some b)) := World.grownBy.refl w _
  rcases (by omega : s.part = 0 ∨ s.part = 1 ∨ 2 ≤ s.part) with hp0 | hp0 | hp0
  · have u1 : decide ((s.part : Int) < 1) = true := decide_eq_true (by omega)
    have u1n : decide (s.part < 1) = true := decide_eq_true (by omega)
    have u2 : decide ((s.part : Int) < 2) = true := decide_eq_true (by omega)
    have u2n : decide (s.part < 2) = true := decide_eq_true (by omega)
    have hh : Rdr ((w.setCell ⟨b, 4, none⟩ (.int .i64 (s.num 0))).setCell ⟨b, 5, none⟩ (.int .i64 1)).drew b t := by
      have := (h.num (p := 1) (by omega) (s.num 0)).num (p := 2) (by omega) 1
      have e : t = { s with num := upd (upd s.num 1 (s.num 0)) 2 1 } := by
        rw [ht]; unfold St.fill St.fill1; rw [if_pos (by omega), if_pos (by omega)]
      rw [e]; exact this.drew
    have R1 := Lib.hid hh
    have G1 := Lib.hid (gb_trans (gb_trans (gb_set w b 4 (.int .i64 (s.num 0))) (gb_set _ b 5 (.int .i64 1))) (gb_drew _ (some b)))
    clear hh ht hs h
    generalize fieldV s 4 = z4 at c4
    generalize fieldV s 5 = z5 at c5
    generalize hnx : s.num 0 = n0 at *
    clear hnx
    generalize hsp : s.part = p at *
    obtain ⟨isf, hisf⟩ : ∃ isf, isf = isFault p t.num := ⟨_, rfl⟩
    rw [← hisf] at FA FT FP FM FB
    clear hisf hsp hp0
    go_enter Tryd.func21, Tryd.ntmps21
    go_wp2_with fail
    go_region
    go_wp2_with fail
    generalize ((w.setCell ⟨b, 4, none⟩ (.int .i64 n0)).setCell ⟨b, 5, none⟩ (.int .i64 1)).drew = W1 at *
    refine (FA.out W1 R1.out).mono ?_; rintro e w2 ⟨rfl, g2, r2⟩
    have R2 := Lib.hid r2
    have G2 := Lib.hid (gb_trans G1.out g2)
    clear r2 g2 R1 G1 FA
    cases hq : isf with
    | true =>
      have HF := FT.out hq
      clear FT FP FM
      have c8 := R2.out.cell (i := 1008) (by omega)
      have c0 := R2.out.cell (i := 0) (by omega)
      have f8 := R2.out.frozen 1008
      rw [f_fault] at c8
      rw [f_bg] at c0
      cases hf : t.fault with
      | none =>
        rw [hf] at c8
        have c8' : w2.cell? ⟨b, 1008, none⟩ = some (.int .i64 (-1)) := c8
        have H := Lib.hid (R2.out.fault (some t.bg))
        have H2 : Hid (s.fin = { t with fault := some t.bg }) := by unfold Hid; rw [HF, hf]; rfl
        have G := Lib.hid (gb_trans G2.out (gb_set w2 b 1008 (.int .i64 (t.bg : Int))))
        clear c8 HF hq hf R2 G2
        generalize t.bg = bg at *
        go_wp2_with fail
        go_returns
        exact ⟨rfl, by rw [H2.out]; exact H.out, G.out⟩
      | some p =>
        rw [hf] at c8
        have c8' : w2.cell? ⟨b, 1008, none⟩ = some (.int .i64 (p : Int)) := c8
        have t8 : decide ((p : Int) < 0) = false := decide_eq_false (by omega)
        have H2 : Hid (s.fin = t) := by
          unfold Hid; rw [HF, hf]
          show { t with fault := some p } = t
          rw [← hf]
        clear c8 HF hq hf
        go_wp2_with fail
        go_returns
        exact ⟨rfl, by rw [H2.out]; exact R2.out, G2.out⟩
    | false =>
      by_cases hp3 : p = 3
      · have HF := FP.out hq hp3
        have t3 : ((p : Int) == 3) = true := by rw [beq_iff_eq]; omega
        clear FT FP FM
        have d1 := R2.out.cell (i := 1) (by omega)
        rw [f_part, htp] at d1
        go_wp2_with fail
        go_returns
        exact ⟨rfl, by rw [HF]; exact R2.out, G2.out⟩
      · have HF := Lib.hid (FM.out hq hp3)
        have t3 : ((p : Int) == 3) = false := by rw [beq_eq_false_iff_ne]; omega
        obtain ⟨k0, k1, k2, k3, k4⟩ := FB.out hq hp3
        clear FT FP FM FB
        have d1 := R2.out.cell (i := 1) (by omega)
        have d3 := R2.out.cell (i := 3) (by omega)
        rw [f_part, htp] at d1
        rw [show fieldV t 3 = .int .i64 (t.num 0) from f_num t (q := 0) (by omega)] at d3
        obtain ⟨x0, hx0⟩ : ∃ x0, x0 = t.num 0 := ⟨_, rfl⟩
        obtain ⟨x1, hx1⟩ : ∃ x1, x1 = t.num 1 := ⟨_, rfl⟩
        obtain ⟨x2, hx2⟩ : ∃ x2, x2 = t.num 2 := ⟨_, rfl⟩
        rw [← hx0, ← hx1, ← hx2] at HF
        rw [← hx0] at k0 k3 d3
        rw [← hx1] at k1 k3
        rw [← hx2] at k2 k4
        have HX1 := Lib.hid hx1
        have HX2 := Lib.hid hx2
        clear hx0 hx1 hx2
        go_wp2_with fail
        go_loopw [2] (fun v wr => ∃ i : Nat, v = .int .i64 i ∧ (x0 ≤ i ∧ i ≤ x1 + x2) ∧ Hid ((i - x0) % x2 = 0) ∧ Hid (Rdr wr b { t with marks := uptoM t.marks x0 x2 i }) ∧ Hid (w.grownBy wr (some b))) (fun v _ => x1 + x2 + 1 - (RowKit.intOf v).toNat)
        case atStart => exact ⟨x0, rfl, ⟨Nat.le_refl _, by omega⟩, (by unfold Hid; rw [Nat.sub_self, Nat.zero_mod]), (by unfold Hid; rw [upto_zero]; exact R2.out), G2.out⟩
        case round =>
          obtain ⟨i, rfl, ⟨hi0, hi1⟩, him, hir, hig⟩ := hrel
          have e4 := hir.out.cell (i := 4) (by omega)
          have e5 := hir.out.cell (i := 5) (by omega)
          rw [show fieldV ({ t with marks := uptoM t.marks x0 x2 i } : St) 4 = .int .i64 x1 by rw [HX1.out]; exact f_num _ (q := 1) (by omega)] at e4
          rw [show fieldV ({ t with marks := uptoM t.marks x0 x2 i } : St) 5 = .int .i64 x2 by rw [HX2.out]; exact f_num _ (q := 2) (by omega)] at e5
          by_cases hle : i ≤ x1
          · have g1 : decide ((i : Int) ≤ x1) = true := decide_eq_true (by omega)
            have g1n : decide (i ≤ x1) = true := decide_eq_true hle
            have e7 := hir.out.cell (i := 7 + i) (by omega)
            have f7 := hir.out.frozen (7 + i)
            have hii : (i : Int) < 1001 := by omega
            have H := Lib.hid (hir.out.mark (j := i) (by omega) (uptoM t.marks x0 x2 (i + x2)) (by rw [upto_next k4 hi0 him.out]; exact if_pos rfl) (fun x hx => by rw [upto_next k4 hi0 him.out]; exact if_neg hx))
            have G := Lib.hid (gb_trans hig.out (gb_set wr b (7 + i) (.bool true)))
            have hm2 : Hid ((i + x2 - x0) % x2 = 0) := by
              unfold Hid
              rw [show i + x2 - x0 = (i - x0) + x2 by omega, Nat.add_mod_right]; exact him.out
            generalize fieldV ({ t with marks := uptoM t.marks x0 x2 i } : St) (7 + i) = z7 at e7
            clear hir hig him
            go_wp2_with fail
            go_roundw
            case rel => exact ⟨i + x2, by go_num, ⟨by omega, by omega⟩, hm2.out, H.out, G.out⟩
            case measure => simp [RowKit.intOf]; omega
          · have g1 : decide ((i : Int) ≤ x1) = false := decide_eq_false (by omega)
            have g1n : decide (i ≤ x1) = false := decide_eq_false hle
            have H := Lib.hid hir.out
            rw [upto_end k4 hi0 him.out (by omega) hi1] at H
            have G := Lib.hid hig.out
            clear hir hig him
            go_wp2_with fail
            go_returns
            exact ⟨rfl, by rw [HF.out]; exact H.out, G.out⟩
  · have u1 : decide ((s.part : Int) < 1) = false := decide_eq_false (by omega)
    have u1n : decide (s.part < 1) = false := decide_eq_false (by omega)
    have u2 : decide ((s.part : Int) < 2) = true := decide_eq_true (by omega)
    have u2n : decide (s.part < 2) = true := decide_eq_true (by omega)
    have hh : Rdr (w.setCell ⟨b, 5, none⟩ (.int .i64 1)) b t := by
      have := h.num (p := 2) (by omega) 1
      have e : t = { s with num := upd s.num 2 1 } := by
        rw [ht]; unfold St.fill St.fill1; rw [if_pos (by omega), if_neg (by omega)]
      rw [e]; exact this
    have R1 := Lib.hid hh
    have G1 := Lib.hid (gb_trans G0.out (gb_set w b 5 (.int .i64 1)))
    clear hh ht hs h
    generalize fieldV s 5 = z5 at c5
    generalize hsp : s.part = p at *
    obtain ⟨isf, hisf⟩ : ∃ isf, isf = isFault p t.num := ⟨_, rfl⟩
    rw [← hisf] at FA FT FP FM FB
    clear hisf hsp hp0
    go_enter Tryd.func21, Tryd.ntmps21
    go_wp2_with fail
    generalize (w.setCell ⟨b, 5, none⟩ (.int .i64 1)) = W1 at *
    refine (FA.out W1 R1.out).mono ?_; rintro e w2 ⟨rfl, g2, r2⟩
    have R2 := Lib.hid r2
    have G2 := Lib.hid (gb_trans G1.out g2)
    clear r2 g2 R1 G1 FA
    cases hq : isf with
    | true =>
      have HF := FT.out hq
      clear FT FP FM
      have c8 := R2.out.cell (i := 1008) (by omega)
      have c0 := R2.out.cell (i := 0) (by omega)
      have f8 := R2.out.frozen 1008
      rw [f_fault] at c8
      rw [f_bg] at c0
      cases hf : t.fault with
      | none =>
        rw [hf] at c8
        have c8' : w2.cell? ⟨b, 1008, none⟩ = some (.int .i64 (-1)) := c8
        have H := Lib.hid (R2.out.fault (some t.bg))
        have H2 : Hid (s.fin = { t with fault := some t.bg }) := by unfold Hid; rw [HF, hf]; rfl
        have G := Lib.hid (gb_trans G2.out (gb_set w2 b 1008 (.int .i64 (t.bg : Int))))
        clear c8 HF hq hf R2 G2
        generalize t.bg = bg at *
        go_wp2_with fail
        go_returns
        exact ⟨rfl, by rw [H2.out]; exact H.out, G.out⟩
      | some p =>
        rw [hf] at c8
        have c8' : w2.cell? ⟨b, 1008, none⟩ = some (.int .i64 (p : Int)) := c8
        have t8 : decide ((p : Int) < 0) = false := decide_eq_false (by omega)
        have H2 : Hid (s.fin = t) := by
          unfold Hid; rw [HF, hf]
          show { t with fault := some p } = t
          rw [← hf]
        clear c8 HF hq hf
        go_wp2_with fail
        go_returns
        exact ⟨rfl, by rw [H2.out]; exact R2.out, G2.out⟩
    | false =>
      by_cases hp3 : p = 3
      · have HF := FP.out hq hp3
        have t3 : ((p : Int) == 3) = true := by rw [beq_iff_eq]; omega
        clear FT FP FM
        have d1 := R2.out.cell (i := 1) (by omega)
        rw [f_part, htp] at d1
        go_wp2_with fail
        go_returns
        exact ⟨rfl, by rw [HF]; exact R2.out, G2.out⟩
      · have HF := Lib.hid (FM.out hq hp3)
        have t3 : ((p : Int) == 3) = false := by rw [beq_eq_false_iff_ne]; omega
        obtain ⟨k0, k1, k2, k3, k4⟩ := FB.out hq hp3
        clear FT FP FM FB
        have d1 := R2.out.cell (i := 1) (by omega)
        have d3 := R2.out.cell (i := 3) (by omega)
        rw [f_part, htp] at d1
        rw [show fieldV t 3 = .int .i64 (t.num 0) from f_num t (q := 0) (by omega)] at d3
        obtain ⟨x0, hx0⟩ : ∃ x0, x0 = t.num 0 := ⟨_, rfl⟩
        obtain ⟨x1, hx1⟩ : ∃ x1, x1 = t.num 1 := ⟨_, rfl⟩
        obtain ⟨x2, hx2⟩ : ∃ x2, x2 = t.num 2 := ⟨_, rfl⟩
        rw [← hx0, ← hx1, ← hx2] at HF
        rw [← hx0] at k0 k3 d3
        rw [← hx1] at k1 k3
        rw [← hx2] at k2 k4
        have HX1 := Lib.hid hx1
        have HX2 := Lib.hid hx2
        clear hx0 hx1 hx2
        go_wp2_with fail
        go_loopw [2] (fun v wr => ∃ i : Nat, v = .int .i64 i ∧ (x0 ≤ i ∧ i ≤ x1 + x2) ∧ Hid ((i - x0) % x2 = 0) ∧ Hid (Rdr wr b { t with marks := uptoM t.marks x0 x2 i }) ∧ Hid (w.grownBy wr (some b))) (fun v _ => x1 + x2 + 1 - (RowKit.intOf v).toNat)
        case atStart => exact ⟨x0, rfl, ⟨Nat.le_refl _, by omega⟩, (by unfold Hid; rw [Nat.sub_self, Nat.zero_mod]), (by unfold Hid; rw [upto_zero]; exact R2.out), G2.out⟩
        case round =>
          obtain ⟨i, rfl, ⟨hi0, hi1⟩, him, hir, hig⟩ := hrel
          have e4 := hir.out.cell (i := 4) (by omega)
          have e5 := hir.out.cell (i := 5) (by omega)
          rw [show fieldV ({ t with marks := uptoM t.marks x0 x2 i } : St) 4 = .int .i64 x1 by rw [HX1.out]; exact f_num _ (q := 1) (by omega)] at e4
          rw [show fieldV ({ t with marks := uptoM t.marks x0 x2 i } : St) 5 = .int .i64 x2 by rw [HX2.out]; exact f_num _ (q := 2) (by omega)] at e5
          by_cases hle : i ≤ x1
          · have g1 : decide ((i : Int) ≤ x1) = true := decide_eq_true (by omega)
            have g1n : decide (i ≤ x1) = true := decide_eq_true hle
            have e7 := hir.out.cell (i := 7 + i) (by omega)
            have f7 := hir.out.frozen (7 + i)
            have hii : (i : Int) < 1001 := by omega
            have H := Lib.hid (hir.out.mark (j := i) (by omega) (uptoM t.marks x0 x2 (i + x2)) (by rw [upto_next k4 hi0 him.out]; exact if_pos rfl) (fun x hx => by rw [upto_next k4 hi0 him.out]; exact if_neg hx))
            have G := Lib.hid (gb_trans hig.out (gb_set wr b (7 + i) (.bool true)))
            have hm2 : Hid ((i + x2 - x0) % x2 = 0) := by
              unfold Hid
              rw [show i + x2 - x0 = (i - x0) + x2 by omega, Nat.add_mod_right]; exact him.out
            generalize fieldV ({ t with marks := uptoM t.marks x0 x2 i } : St) (7 + i) = z7 at e7
            clear hir hig him
            go_wp2_with fail
            go_roundw
            case rel => exact ⟨i + x2, by go_num, ⟨by omega, by omega⟩, hm2.out, H.out, G.out⟩
            case measure => simp [RowKit.intOf]; omega
          · have g1 : decide ((i : Int) ≤ x1) = false := decide_eq_false (by omega)
            have g1n : decide (i ≤ x1) = false := decide_eq_false hle
            have H := Lib.hid hir.out
            rw [upto_end k4 hi0 him.out (by omega) hi1] at H
            have G := Lib.hid hig.out
            clear hir hig him
            go_wp2_with fail
            go_returns
            exact ⟨rfl, by rw [HF.out]; exact H.out, G.out⟩
  · have u1 : decide ((s.part : Int) < 1) = false := decide_eq_false (by omega)
    have u1n : decide (s.part < 1) = false := decide_eq_false (by omega)
    have u2 : decide ((s.part : Int) < 2) = false := decide_eq_false (by omega)
    have u2n : decide (s.part < 2) = false := decide_eq_false (by omega)
    have hh : Rdr w b t := by
      have e : t = s := by
        rw [ht]; unfold St.fill St.fill1; rw [if_neg (by omega), if_neg (by omega)]
      rw [e]; exact h
    have R1 := Lib.hid hh
    have G1 := Lib.hid G0.out
    clear hh ht hs h
    generalize hsp : s.part = p at *
    obtain ⟨isf, hisf⟩ : ∃ isf, isf = isFault p t.num := ⟨_, rfl⟩
    rw [← hisf] at FA FT FP FM FB
    clear hisf hsp hp0
    go_enter Tryd.func21, Tryd.ntmps21
    go_wp2_with fail
    refine (FA.out w R1.out).mono ?_; rintro e w2 ⟨rfl, g2, r2⟩
    have R2 := Lib.hid r2
    have G2 := Lib.hid (gb_trans G1.out g2)
    clear r2 g2 R1 G1 FA
    cases hq : isf with
    | true =>
      have HF := FT.out hq
      clear FT FP FM
      have c8 := R2.out.cell (i := 1008) (by omega)
      have c0 := R2.out.cell (i := 0) (by omega)
      have f8 := R2.out.frozen 1008
      rw [f_fault] at c8
      rw [f_bg] at c0
      cases hf : t.fault with
      | none =>
        rw [hf] at c8
        have c8' : w2.cell? ⟨b, 1008, none⟩ = some (.int .i64 (-1)) := c8
        have H := Lib.hid (R2.out.fault (some t.bg))
        have H2 : Hid (s.fin = { t with fault := some t.bg }) := by unfold Hid; rw [HF, hf]; rfl
        have G := Lib.hid (gb_trans G2.out (gb_set w2 b 1008 (.int .i64 (t.bg : Int))))
        clear c8 HF hq hf R2 G2
        generalize t.bg = bg at *
        go_wp2_with fail
        go_returns
        exact ⟨rfl, by rw [H2.out]; exact H.out, G.out⟩
      | some p =>
        rw [hf] at c8
        have c8' : w2.cell? ⟨b, 1008, none⟩ = some (.int .i64 (p : Int)) := c8
        have t8 : decide ((p : Int) < 0) = false := decide_eq_false (by omega)
        have H2 : Hid (s.fin = t) := by
          unfold Hid; rw [HF, hf]
          show { t with fault := some p } = t
          rw [← hf]
        clear c8 HF hq hf
        go_wp2_with fail
        go_returns
        exact ⟨rfl, by rw [H2.out]; exact R2.out, G2.out⟩
    | false =>
      by_cases hp3 : p = 3
      · have HF := FP.out hq hp3
        have t3 : ((p : Int) == 3) = true := by rw [beq_iff_eq]; omega
        clear FT FP FM
        have d1 := R2.out.cell (i := 1) (by omega)
        rw [f_part, htp] at d1
        go_wp2_with fail
        go_returns
        exact ⟨rfl, by rw [HF]; exact R2.out, G2.out⟩
      · have HF := Lib.hid (FM.out hq hp3)
        have t3 : ((p : Int) == 3) = false := by rw [beq_eq_false_iff_ne]; omega
        obtain ⟨k0, k1, k2, k3, k4⟩ := FB.out hq hp3
        clear FT FP FM FB
        have d1 := R2.out.cell (i := 1) (by omega)
        have d3 := R2.out.cell (i := 3) (by omega)
        rw [f_part, htp] at d1
        rw [show fieldV t 3 = .int .i64 (t.num 0) from f_num t (q := 0) (by omega)] at d3
        obtain ⟨x0, hx0⟩ : ∃ x0, x0 = t.num 0 := ⟨_, rfl⟩
        obtain ⟨x1, hx1⟩ : ∃ x1, x1 = t.num 1 := ⟨_, rfl⟩
        obtain ⟨x2, hx2⟩ : ∃ x2, x2 = t.num 2 := ⟨_, rfl⟩
        rw [← hx0, ← hx1, ← hx2] at HF
        rw [← hx0] at k0 k3 d3
        rw [← hx1] at k1 k3
        rw [← hx2] at k2 k4
        have HX1 := Lib.hid hx1
        have HX2 := Lib.hid hx2
        clear hx0 hx1 hx2
        go_wp2_with fail
        go_loopw [2] (fun v wr => ∃ i : Nat, v = .int .i64 i ∧ (x0 ≤ i ∧ i ≤ x1 + x2) ∧ Hid ((i - x0) % x2 = 0) ∧ Hid (Rdr wr b { t with marks := uptoM t.marks x0 x2 i }) ∧ Hid (w.grownBy wr (some b))) (fun v _ => x1 + x2 + 1 - (RowKit.intOf v).toNat)
        case atStart => exact ⟨x0, rfl, ⟨Nat.le_refl _, by omega⟩, (by unfold Hid; rw [Nat.sub_self, Nat.zero_mod]), (by unfold Hid; rw [upto_zero]; exact R2.out), G2.out⟩
        case round =>
          obtain ⟨i, rfl, ⟨hi0, hi1⟩, him, hir, hig⟩ := hrel
          have e4 := hir.out.cell (i := 4) (by omega)
          have e5 := hir.out.cell (i := 5) (by omega)
          rw [show fieldV ({ t with marks := uptoM t.marks x0 x2 i } : St) 4 = .int .i64 x1 by rw [HX1.out]; exact f_num _ (q := 1) (by omega)] at e4
          rw [show fieldV ({ t with marks := uptoM t.marks x0 x2 i } : St) 5 = .int .i64 x2 by rw [HX2.out]; exact f_num _ (q := 2) (by omega)] at e5
          by_cases hle : i ≤ x1
          · have g1 : decide ((i : Int) ≤ x1) = true := decide_eq_true (by omega)
            have g1n : decide (i ≤ x1) = true := decide_eq_true hle
            have e7 := hir.out.cell (i := 7 + i) (by omega)
            have f7 := hir.out.frozen (7 + i)
            have hii : (i : Int) < 1001 := by omega
            have H := Lib.hid (hir.out.mark (j := i) (by omega) (uptoM t.marks x0 x2 (i + x2)) (by rw [upto_next k4 hi0 him.out]; exact if_pos rfl) (fun x hx => by rw [upto_next k4 hi0 him.out]; exact if_neg hx))
            have G := Lib.hid (gb_trans hig.out (gb_set wr b (7 + i) (.bool true)))
            have hm2 : Hid ((i + x2 - x0) % x2 = 0) := by
              unfold Hid
              rw [show i + x2 - x0 = (i - x0) + x2 by omega, Nat.add_mod_right]; exact him.out
            generalize fieldV ({ t with marks := uptoM t.marks x0 x2 i } : St) (7 + i) = z7 at e7
            clear hir hig him
            go_wp2_with fail
            go_roundw
            case rel => exact ⟨i + x2, by go_num, ⟨by omega, by omega⟩, hm2.out, H.out, G.out⟩
            case measure => simp [RowKit.intOf]; omega
          · have g1 : decide ((i : Int) ≤ x1) = false := decide_eq_false (by omega)
            have g1n : decide (i ≤ x1) = false := decide_eq_false hle
            have H := Lib.hid hir.out
            rw [upto_end k4 hi0 him.out (by omega) hi1] at H
            have G := Lib.hid hig.out
            clear hir hig him
            go_wp2_with fail
            go_returns
            exact ⟨rfl, by rw [HF.out]; exact H.out, G.out⟩
end Go.Proofs.YtdhkinknhjpjmaaDoor
