/-
  book.Usage: where it refuses; at any charges.
-/
import Derived.Test.YtlafjjdponeeeaaDoorChU
namespace Go.Proofs.YtlafjjdponeeeaaDoor
open Go Go.RowKit Go.Lib
set_option linter.unusedVariables false

set_option maxRecDepth 100000 in
theorem usage_early (v : Value) (cs : List Chg) (acct : ByteArray) (now half : Int) (w : World) (hr : ChRow w v cs) (hwf : ∀ c ∈ cs, ChWf c) (hT : U8W w) (hB : bookB cs = false) :
    Calls Tryd.prog 18 #[v, .string acct, .int .i64 now, .int .i64 half] w fun e w' => e = .returned (.tuple #[.int .i64 0, .int .i64 200]) ∧ Below w.heap.size w w' := by
  have HCK := Lib.hid (check_ch v cs w hr hwf hT)
  have hE : chkCh cs = 200 := by unfold chkCh; rw [hB]; rfl
  rw [hE] at HCK
  clear hr hwf hT hE hB
  go_enter Tryd.func18, Tryd.ntmps18
  go_wp2_with fail
  refine HCK.out.mono ?_; rintro e w1 ⟨rfl, b1⟩
  clear HCK
  go_wp2_with fail
  go_ret2
  exact ⟨rfl, b1⟩
set_option maxRecDepth 100000 in
theorem usage_late (v : Value) (cs : List Chg) (acct : ByteArray) (now half : Int) (w : World) (hr : ChRow w v cs) (hwf : ∀ c ∈ cs, ChWf c) (hT : U8W w) (hB : bookB cs = true) (h0 : 0 < cs.length) (hnow : now < lastAx cs) :
    Calls Tryd.prog 18 #[v, .string acct, .int .i64 now, .int .i64 half] w fun e w' => e = .returned (.tuple #[.int .i64 0, .int .i64 2]) ∧ Below w.heap.size w w' := by
  have HCK := Lib.hid (check_ch v cs w hr hwf hT)
  have hE : chkCh cs = 0 := by unfold chkCh; rw [if_pos hB]
  rw [hE] at HCK
  obtain ⟨a, c, rfl, hcl, hcm, hrow⟩ := hr
  obtain ⟨hlen, _⟩ := book_mem hB
  obtain ⟨b, off, rfl, hbw, hc⟩ := hrow h0
  have hla : lastAx cs = (chAt cs (cs.length - 1)).ax := by unfold lastAx prevAx; rw [if_neg (by omega)]
  have c5 := (hc (cs.length - 1) (by omega)).c5
  rw [← hla] at c5
  have t1 : decide ((cs.length : Int) > 0) = true := decide_eq_true (by omega)
  have t1n : decide (0 < cs.length) = true := decide_eq_true h0
  obtain ⟨t, ht⟩ : ∃ t, t = cs.length - 1 := ⟨_, rfl⟩
  have et : (cs.length : Int) - 1 = (t : Int) := by omega
  have tl : (t : Int) < cs.length := by omega
  rw [← ht] at c5
  have t2 : decide (now < lastAx cs) = true := decide_eq_true hnow
  generalize lastAx cs = La at *
  clear hc ht hwf hT hE hB hla hrow hnow
  go_enter Tryd.func18, Tryd.ntmps18
  go_wp2_with fail
  refine HCK.out.mono ?_; rintro e w1 ⟨rfl, b1⟩
  have c5' := cell_next b1 c5
  clear HCK c5
  go_wp2_with fail
  go_ret2
  exact ⟨rfl, b1⟩
set_option maxRecDepth 100000 in
set_option maxHeartbeats 8000000 in
theorem usage_no (v : Value) (cs : List Chg) (acct : ByteArray) (now half : Int) (w : World) (hr : ChRow w v cs) (hwf : ∀ c ∈ cs, ChWf c) (hT : U8W w) (hs : acct.size ≤ 4611686018427387904)
    (hB : bookB cs = true) (hnow : 0 < cs.length → lastAx cs ≤ now) (hno : (0 < cs.length → ¬ halfOk half) ∧ ¬ (0 ≤ now ∧ now ≤ 1099511627776 ∧ halfOk half)) :
    Calls Tryd.prog 18 #[v, .string acct, .int .i64 now, .int .i64 half] w fun e w' => e = .returned (.tuple #[.int .i64 0, .int .i64 2]) ∧ Below w.heap.size w w' := by
  have HCK := Lib.hid (check_ch v cs w hr hwf hT)
  have hE : chkCh cs = 0 := by unfold chkCh; rw [if_pos hB]
  rw [hE] at HCK
  obtain ⟨a, c, rfl, hcl, hcm, hrow⟩ := hr
  obtain ⟨hlen, _⟩ := book_mem hB
  have HROW := Lib.hid hrow
  have HOK : Hid (∀ k, k < cs.length → okCh (chAt cs k) = true) := fun k hk => book_le hB hk
  have HCO : Hid (∀ c ∈ cs, okCh c = true → ∀ w1, Calls Tryd.prog 31 #[chV c] w1 fun e w' => e = .returned (.int .i64 (costN c : Nat)) ∧ Below w1.heap.size w1 w') := fun c hc ho w1 => by
    have := cost_any c w1 (hwf c hc)
    rwa [(ok_cost ho).1] at this
  have HLA : Hid (∀ (_ : 0 < cs.length), lastAx cs = (chAt cs (cs.length - 1)).ax) := fun h0 => by unfold lastAx prevAx; rw [if_neg (by omega)]
  have HNOW := Lib.hid hnow
  have HB1 : Hid (0 < cs.length → ∀ ax more w1, Calls Tryd.prog 35 #[.agg #[.int .i64 0, .int .i64 0], .int .i64 ax, .int .i64 more, .int .i64 half] w1
      fun e w' => e = .returned (.tuple #[.agg #[.int .i64 0, .int .i64 0], .int .i64 2]) ∧ Below w1.heap.size w1 w') := fun h0 ax more w1 => charge_bad 0 0 ax more half w1 (fun h => hno.1 h0 h.2.2.2)
  have HB2 : Hid (∀ w1, Calls Tryd.prog 35 #[.agg #[.int .i64 0, .int .i64 0], .int .i64 now, .int .i64 0, .int .i64 half] w1
      fun e w' => e = .returned (.tuple #[.agg #[.int .i64 0, .int .i64 0], .int .i64 2]) ∧ Below w1.heap.size w1 w') := fun w1 => charge_bad 0 0 now 0 half w1 (fun h => hno.2 ⟨h.1, h.2.1, h.2.2.2⟩)
  clear hrow hwf hT hB hE hnow hno
  go_enter Tryd.func18, Tryd.ntmps18
  go_wp2_with fail
  refine HCK.out.mono ?_; rintro e w1 ⟨rfl, b1⟩
  have B1 := Lib.hid b1
  clear HCK
  go_upto_region 4 with fail
  go_cut [35] (fun bv wx => bv = .bool false ∧ wx = w1)
  case first =>
    by_cases h0 : 0 < cs.length
    · have t1 : decide ((cs.length : Int) > 0) = true := decide_eq_true (by omega)
      have t1n : decide (0 < cs.length) = true := decide_eq_true h0
      obtain ⟨b, off, rfl, hbw, hc⟩ := HROW.out h0
      have c5 := (((hc (cs.length - 1) (by omega)).kept b1)).c5
      rw [← HLA.out h0] at c5
      obtain ⟨t, ht⟩ : ∃ t, t = cs.length - 1 := ⟨_, rfl⟩
      have et : (cs.length : Int) - 1 = (t : Int) := by omega
      have tl : (t : Int) < cs.length := by omega
      rw [← ht] at c5
      have t2 : decide (now < lastAx cs) = false := decide_eq_false (by have := HNOW.out h0; omega)
      generalize lastAx cs = La at *
      clear hc ht b1 HLA HNOW HROW HOK HCO HB1 HB2
      go_wp2_with fail
      go_meet
      case rel => exact ⟨rfl, rfl⟩
    · have t1 : decide ((cs.length : Int) > 0) = false := decide_eq_false (by omega)
      have t1n : decide (0 < cs.length) = false := decide_eq_false h0
      clear b1 HLA HROW HOK HCO HB1 HB2
      go_wp2_with fail
      go_meet
      case rel => exact ⟨rfl, rfl⟩
  case rest =>
    obtain ⟨rfl, rfl⟩ := hcut
    have hU := Lib.hid (Blk.new wc #[.int .i64 0, .int .i64 0] 69)
    have B2 := Lib.hid (below_next ((Below.refl wc.heap.size wc).alloc (Nat.le_refl _) (.cells #[.int .i64 0, .int .i64 0] 69)) B1.out)
    obtain ⟨gU, hgU⟩ : ∃ g, g = wc.heap.size := ⟨_, rfl⟩
    have hgw : w.heap.size ≤ gU := by rw [hgU]; exact b1.size
    rw [← hgU] at hU
    clear b1 B1 HLA
    go_upto_region 7 with fail
    rw [← hgU]
    generalize wc.alloc (.cells #[.int .i64 0, .int .i64 0] 69) = W0 at *
    clear hgU
    go_wp2_with fail
    go_loopw [39] (fun i wr => ∃ (k : Nat), k ≤ cs.length ∧ i = .int .i64 k ∧ Hid (Blk wr gU #[.int .i64 0, .int .i64 0] 69) ∧ Below w.heap.size w wr) (fun i _ => cs.length - (RowKit.intOf i).toNat)
    case atStart => exact ⟨0, Nat.zero_le _, rfl, hU.out, B2.out⟩
    case round =>
      obtain ⟨k, hk, rfl, hUb, hBW⟩ := hrel
      by_cases hlt : k < cs.length
      · have hlt' : decide (k < cs.length) = true := decide_eq_true hlt
        have hlt2 : decide ((k : Int) < cs.length) = true := decide_eq_true (by omega)
        have hkl : (k : Int) < cs.length := by omega
        obtain ⟨b, off, rfl, hbw, hc⟩ := HROW.out (by omega)
        obtain ⟨c0, c1, c2, c3, c4, c5⟩ := (hc k hlt).kept hBW
        have hmem := chAt_mem hlt
        have HCOk := Lib.hid (HCO.out _ hmem (HOK.out k hlt))
        have HBW := Lib.hid hBW
        have HCHk := Lib.hid (fun w1 => HB1.out (by omega) (chAt cs k).ax (costN (chAt cs k) : Nat) w1)
        clear hc hmem hBW HCO HOK HB1 HB2 HNOW
        generalize costN (chAt cs k) = C at *
        generalize chAt cs k = x at *
        obtain ⟨id, ac, wk, sc, how, ax⟩ := x
        dsimp only at *
        have hb := Blk.new wr #[.int .u32 id, .string ac, .int .i64 wk, .int .i64 sc, .int .i64 how, .int .i64 ax] 24
        have HB1 := Lib.hid (HBW.out.alloc HBW.out.size (.cells #[.int .u32 id, .string ac, .int .i64 wk, .int .i64 sc, .int .i64 how, .int .i64 ax] 24))
        have HU1 := Lib.hid (hUb.out.old (.cells #[.int .u32 id, .string ac, .int .i64 wk, .int .i64 sc, .int .i64 how, .int .i64 ax] 24))
        have HBL := Lib.hid hb
        obtain ⟨gc, hgc⟩ : ∃ g, g = wr.heap.size := ⟨_, rfl⟩
        rw [← hgc] at HBL
        have d0 := HBL.out.cell 0
        have d1 := HBL.out.cell 1
        have d2 := HBL.out.cell 2
        have d3 := HBL.out.cell 3
        have d4 := HBL.out.cell 4
        have d5 := HBL.out.cell 5
        have u0 := HU1.out.cell 0
        have u1 := HU1.out.cell 1
        simp only [List.getElem?_toArray, List.getElem?_cons_zero, List.getElem?_cons_succ] at d0 d1 d2 d3 d4 d5 u0 u1
        clear hb HROW
        go_upto_region 10 with fail
        rw [← hgc]
        generalize wr.alloc (.cells #[.int .u32 id, .string ac, .int .i64 wk, .int .i64 sc, .int .i64 how, .int .i64 ax] 24) = W1 at *
        clear hgc c0 c1 c2 c3 c4 c5 hUb HBW
        by_cases qa : ac = acct
        · have q1 : (ac.toList == acct.toList) = true := by rw [str_beq]; exact decide_eq_true qa
          have q2 : (ac.toList != acct.toList) = false := by rw [bne, q1]; rfl
          have HS : Hid (∀ w', Below W1.heap.size W1 w' → w'.cell? ⟨gU, 0, none⟩ = some (.int .i64 0) ∧ w'.cell? ⟨gU, 1, none⟩ = some (.int .i64 0) ∧ w'.cell? ⟨gc, 0, none⟩ = some (.int .u32 id) ∧ w'.cell? ⟨gc, 1, none⟩ = some (.string ac) ∧ w'.cell? ⟨gc, 2, none⟩ = some (.int .i64 wk) ∧ w'.cell? ⟨gc, 3, none⟩ = some (.int .i64 sc) ∧ w'.cell? ⟨gc, 4, none⟩ = some (.int .i64 how) ∧ w'.cell? ⟨gc, 5, none⟩ = some (.int .i64 ax) ∧ Below W1.heap.size W1 w') := by
            have D := Lib.hid (And.intro u0 (And.intro u1 (And.intro d0 (And.intro d1 (And.intro d2 (And.intro d3 (And.intro d4 d5)))))))
            intro w' hb
            obtain ⟨e0, e1, e2, e3, e4, e5, e6, e7⟩ := D.out
            exact ⟨cell_next hb e0, cell_next hb e1, cell_next hb e2, cell_next hb e3, cell_next hb e4, cell_next hb e5, cell_next hb e6, cell_next hb e7, hb⟩
          clear qa
          go_upto_region 11 with fail
          go_cut [14, 15] (fun pv ev wx => ev = .int .i64 2 ∧ ∃ g2, pv = .pointer (some ⟨g2, 0, none⟩) ∧ ∃ wq, wq = wx ∧ Below W1.heap.size W1 wq)
          case first =>
            clear HB1 HU1 HBL B2 hU hcl hlt' hlt2 q1 q2
            have HBd : Below W1.heap.size W1 W1.drew := (Below.refl _ _).drew
            first
              | (go_region_held3 (fun w' => w'.cell? ⟨gU, 0, none⟩ = some (.int .i64 0) ∧ w'.cell? ⟨gU, 1, none⟩ = some (.int .i64 0) ∧ w'.cell? ⟨gc, 0, none⟩ = some (.int .u32 id) ∧ w'.cell? ⟨gc, 1, none⟩ = some (.string ac) ∧ w'.cell? ⟨gc, 2, none⟩ = some (.int .i64 wk) ∧ w'.cell? ⟨gc, 3, none⟩ = some (.int .i64 sc) ∧ w'.cell? ⟨gc, 4, none⟩ = some (.int .i64 how) ∧ w'.cell? ⟨gc, 5, none⟩ = some (.int .i64 ax) ∧ Below W1.heap.size W1 w')
                  (first
                    | exact HS.out _ HBd
                    | (rcases ‹_ ∧ _ ∧ _ ∧ _ ∧ _ ∧ _ ∧ _ ∧ _ ∧ Below _ _ _› with ⟨_, _, _, _, _, _, _, _, s6⟩; exact HS.out _ (s6.alloc s6.size _))
                    | (rcases ‹_ ∧ _ ∧ _ ∧ _ ∧ _ ∧ _ ∧ _ ∧ _ ∧ Below _ _ _› with ⟨_, _, _, _, _, _, _, _, s6⟩; exact HS.out _ (below_next (by assumption) s6))
                    | exact HS.out _ (hB5.alloc hB5.size _)
                    | (rcases ‹_ ∧ _ ∧ _ ∧ _ ∧ _ ∧ _ ∧ _ ∧ _ ∧ Below _ _ _› with ⟨_, _, _, _, _, _, _, _, s6⟩; exact HS.out _ ((s6.setCell (by first | exact Nat.le_refl _ | exact hsz4 | exact s6.size) _).setCell (by first | exact Nat.le_refl _ | exact hsz4 | exact s6.size) _)))
                  (first
                    | (go_at_call 31; ((with_reducible refine (HCOk.out _).mono ?_); rintro e w4 ⟨rfl, b4⟩); have hsz4 := (below_next b4 (‹_ ∧ _ ∧ _ ∧ _ ∧ _ ∧ _ ∧ _ ∧ _ ∧ Below _ _ _›).2.2.2.2.2.2.2.2).size; first
                        | (have hz := Blk.kept (w := (W1.alloc (.cells #[.int .i64 0, .int .i64 0] 69)).drew) (Blk.new W1 #[.int .i64 0, .int .i64 0] 69) b4; have s0 := hz.cell 0; have s1 := hz.cell 1; have s2 := hz.free 0; have s3 := hz.free 1; simp only [List.getElem?_toArray, List.getElem?_cons_zero, List.getElem?_cons_succ] at s0 s1)
                        | (have hz := Blk.kept (w := W1.drew.alloc (.cells #[.int .i64 0, .int .i64 0] 69)) (Blk.new W1.drew #[.int .i64 0, .int .i64 0] 69) b4; have s0 := hz.cell 0; have s1 := hz.cell 1; have s2 := hz.free 0; have s3 := hz.free 1; simp only [List.getElem?_toArray, List.getElem?_cons_zero, List.getElem?_cons_succ] at s0 s1)
                        | skip)
                    | (go_at_call 35; ((with_reducible refine (HCHk.out _).mono ?_); rintro e w5 ⟨rfl, b5⟩); have hB5 := below_next b5 (‹_ ∧ _ ∧ _ ∧ _ ∧ _ ∧ _ ∧ _ ∧ _ ∧ Below _ _ _›).2.2.2.2.2.2.2.2; first
                        | (have hz2 := Blk.kept hz b5; have r0 := hz2.cell 0; have r1 := hz2.cell 1; have r2 := hz2.free 0; have r3 := hz2.free 1; simp only [List.getElem?_toArray, List.getElem?_cons_zero, List.getElem?_cons_succ] at r0 r1)
                        | (have hz2 := Blk.kept (w := w4.alloc (.cells #[.int .i64 0, .int .i64 0] 69)) (Blk.new w4 #[.int .i64 0, .int .i64 0] 69) b5; have r0 := hz2.cell 0; have r1 := hz2.cell 1; have r2 := hz2.free 0; have r3 := hz2.free 1; simp only [List.getElem?_toArray, List.getElem?_cons_zero, List.getElem?_cons_succ] at r0 r1)
                        | skip)))
              | fail "held"
            all_goals
              go_wp2_with fail
              go_meet
              case rel =>
                first
                  | exact ⟨rfl, _, rfl, _, rfl, hB5.alloc hB5.size _⟩
                  | exact ⟨rfl, _, rfl, _, rfl, (hB5.setCell hsz4 _).setCell hsz4 _⟩
                  | exact ⟨rfl, _, rfl, _, rfl, (hB5.setCell (Nat.le_refl _) _).setCell (Nat.le_refl _) _⟩
          case rest =>
            obtain ⟨rfl, g2, rfl, wq, hwq, hBq⟩ := hcut
            subst hwq
            have HB3 := Lib.hid (below_next hBq HB1.out)
            clear HU1 HBL HB1 HS hBq HCOk HCHk d0 d1 d2 d3 d4 d5 u0 u1
            go_wp2_with fail
            go_ret2
            exact ⟨rfl, HB3.out⟩
        · have q1 : (ac.toList == acct.toList) = false := by rw [str_beq]; exact decide_eq_false qa
          have q2 : (ac.toList != acct.toList) = true := by rw [bne, q1]; rfl
          clear qa HCOk HCHk HBL u0 u1 d0 d2 d3 d4 d5
          go_wp2_with fail
          go_roundw
          case rel => exact ⟨k + 1, hlt, by go_num, HU1.out, HB1.out⟩
          case measure => simp [RowKit.intOf]; omega
      · obtain rfl : k = cs.length := by omega
        have hlt' : decide (cs.length < cs.length) = false := decide_eq_false hlt
        have hlt2 : decide ((cs.length : Int) < cs.length) = false := decide_eq_false (by omega)
        have o0 := hUb.out.cell 0
        have o1 := hUb.out.cell 1
        simp only [List.getElem?_toArray, List.getElem?_cons_zero, List.getElem?_cons_succ] at o0 o1
        have HBW := Lib.hid hBW
        clear HB1 HROW HOK HCO
        go_wp2_with fail
        refine (HB2.out _).mono ?_; rintro e w2 ⟨rfl, b2⟩
        have HU2 := hUb.out.kept b2
        have m0 := HU2.cell 0
        have m1 := HU2.cell 1
        have f0 := HU2.free 0
        have f1 := HU2.free 1
        simp only [List.getElem?_toArray, List.getElem?_cons_zero, List.getElem?_cons_succ] at m0 m1
        have HB3 := Lib.hid (((below_next b2 HBW.out).setCell (p := ⟨gU, 0, none⟩) hgw (.int .i64 0)).setCell (p := ⟨gU, 1, none⟩) hgw (.int .i64 0))
        clear HU2 hUb b2 HBW HB2 o0 o1
        go_wp2_with fail
        go_returns
        exact ⟨rfl, HB3.out⟩
/-- book.Usage: at any charges. -/
theorem usage_any (v : Value) (cs : List Chg) (acct : ByteArray) (now half : Int) (w : World) (hr : ChRow w v cs) (hwf : ∀ c ∈ cs, ChWf c) (hT : U8W w) (hs : acct.size ≤ 4611686018427387904) (hI : I64 now ∧ I64 half) :
    Calls Tryd.prog 18 #[v, .string acct, .int .i64 now, .int .i64 half] w fun e w' => e = .returned (.tuple #[.int .i64 (usCh cs acct now half).1, .int .i64 (usCh cs acct now half).2]) ∧ Below w.heap.size w w' := by
  cases hB : bookB cs
  · have e : usCh cs acct now half = (0, 200) := by unfold usCh; rw [hB]; rfl
    rw [e]; exact usage_early v cs acct now half w hr hwf hT hB
  · by_cases hn : lastAx cs ≤ now
    · by_cases hh : halfOk half
      · exact usage_ok v cs acct now half w hr hwf hT hs hI hB hn hh
      · have e : usCh cs acct now half = (0, 2) := by unfold usCh; rw [if_pos hB, if_pos (.inr (.inr (.inr hh)))]
        rw [e]; exact usage_no v cs acct now half w hr hwf hT hs hB (fun _ => hn) ⟨fun _ => hh, fun h => hh h.2.2⟩
    · have e : usCh cs acct now half = (0, 2) := by unfold usCh; rw [if_pos hB, if_pos (.inl (by omega))]
      rw [e]
      by_cases h0 : 0 < cs.length
      · exact usage_late v cs acct now half w hr hwf hT hB h0 (by omega)
      · have hl : lastAx cs = 0 := by unfold lastAx prevAx; rw [if_pos (by omega)]
        exact usage_no v cs acct now half w hr hwf hT hs hB (fun h => absurd h h0) ⟨fun h => absurd h h0, fun h => by omega⟩
end Go.Proofs.YtlafjjdponeeeaaDoor
