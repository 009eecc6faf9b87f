/-
  gangerref06.Parse: at any text.
-/
import Derived.Test.YtdhkinknhjpjmaaDoorIxI
import Derived.OwnWalk
import Derived.Deep.DeepCutAuto
import Derived.Deep.CutBlock
import Derived.Deep.CutRange
namespace Go.Proofs.YtdhkinknhjpjmaaDoor
open Go Go.RowKit Go.Lib
set_option linter.unusedVariables false

theorem Tryd.infoBl : (Tryd.prog.info? 4).map (fun i => (i.zero, i.size, i.bytes)) = some (some (.bool false), 1, 1) := by kernel_rfl
theorem made_marks : (madeCells (Value.bool false).cells (1001 * 1)).toList = markL fun _ => false := by
  apply List.ext_getElem?
  intro i
  unfold madeCells markL
  by_cases h : i < 1001
  · simp [h, Value.cells, Nat.mod_one]
  · rw [List.getElem?_eq_none (by simp; omega), List.getElem?_eq_none (by simp; omega)]
theorem mkr_of {w : World} {base g n : Nat} {m : Nat → Bool} (h : w.ownsRow base 4 1 (.slice (some ⟨g, 0, none⟩) 1001 1001) 1001 (markL m)) : MkR w g m := by
  obtain ⟨_, ⟨e, _⟩ | ⟨g', cap, cur, e, _, hg, h1, h2, h3, h4⟩⟩ := h
  · cases e
  · simp only [Value.slice.injEq, Option.some.injEq, Addr.mk.injEq, and_true, true_and] at e
    obtain ⟨rfl, rfl⟩ := e
    refine ⟨?_⟩
    unfold Blk
    rw [hg]
    have : cur = (markL m).toArray := by
      rw [← h4, List.take_of_length_le (by rw [Array.length_toList, h3]; omega)]
    rw [this]
theorem fault_le {f : Option Nat} {a b c t M : Nat} (hf : ∀ p, f = some p → p ≤ M) (ht : t ≤ M) : ∀ p, faultV f a b c t = some p → p ≤ M := by
  intro p hp
  unfold faultV at hp
  split at hp
  · injection hp with e
    cases f with
    | none => simp at e; omega
    | some q => simp at e; have := hf q rfl; omega
  · exact hf p hp
theorem fv_no {bi : Bool} {f : Option Nat} {t : Nat} (h : false = (bi && f.isNone)) : faultI (if bi = true then some (f.getD t) else f) = faultI f := by
  cases bi <;> cases f <;> first | rfl | cases h
theorem fv_yes {bi : Bool} {f : Option Nat} {t : Nat} (h : true = (bi && f.isNone)) : faultI (if bi = true then some (f.getD t) else f) = (t : Int) := by
  cases bi <;> cases f <;> first | rfl | cases h
theorem numR_lt (r : Bs) : (numR 0 0 r).1 ≤ 9999 := by
  have key : ∀ (r : Bs) (k n : Nat), k ≤ 4 → n < 10 ^ k → (numR k n r).1 < 10000 := by
    intro r
    induction r with
    | nil => intro k n hk hn; exact Nat.lt_of_lt_of_le hn (Nat.pow_le_pow_right (by omega) hk : 10 ^ k ≤ 10 ^ 4)
    | cons c r ih =>
      intro k n hk hn
      unfold numR
      split
      · rename_i h
        have hd := (isDig_iff c).1 h.2.1
        exact ih (k + 1) _ (by omega) (by rw [Nat.pow_succ]; omega)
      · exact Nat.lt_of_lt_of_le hn (Nat.pow_le_pow_right (by omega) hk : 10 ^ k ≤ 10 ^ 4)
  have := key r 0 0 (by omega) (by omega)
  omega
theorem one_le (r : Bs) : match oneV r with | .wrong k => k ≤ r.length | .item a b c k => a ≤ 9999 ∧ b ≤ 9999 ∧ c ≤ 9999 ∧ 0 < k ∧ k ≤ r.length := by
  obtain ⟨_, p1⟩ := numR_len r
  have q1 := numR_lt r
  unfold oneV
  by_cases h0 : (numR 0 0 r).2 = 0
  · rw [if_pos h0]; exact Nat.zero_le _
  rw [if_neg h0]
  unfold oneB
  by_cases h45 : (r.drop (numR 0 0 r).2).head? = some 45
  · rw [if_pos h45]
    have hl := tail_len h45
    rw [List.length_drop] at hl
    obtain ⟨_, p2⟩ := numR_len (r.drop (numR 0 0 r).2).tail
    have q2 := numR_lt (r.drop (numR 0 0 r).2).tail
    by_cases h1 : (numR 0 0 (r.drop (numR 0 0 r).2).tail).2 = 0
    · rw [if_pos h1]; dsimp only; omega
    rw [if_neg h1]
    unfold oneC
    by_cases h58 : ((r.drop (numR 0 0 r).2).tail.drop (numR 0 0 (r.drop (numR 0 0 r).2).tail).2).head? = some 58
    · rw [if_pos h58]
      have hl2 := tail_len h58
      rw [List.length_drop] at hl2
      obtain ⟨_, p3⟩ := numR_len ((r.drop (numR 0 0 r).2).tail.drop (numR 0 0 (r.drop (numR 0 0 r).2).tail).2).tail
      have q3 := numR_lt ((r.drop (numR 0 0 r).2).tail.drop (numR 0 0 (r.drop (numR 0 0 r).2).tail).2).tail
      by_cases h2 : (numR 0 0 ((r.drop (numR 0 0 r).2).tail.drop (numR 0 0 (r.drop (numR 0 0 r).2).tail).2).tail).2 = 0
      · rw [if_pos h2]; dsimp only; omega
      · rw [if_neg h2]; dsimp only; omega
    · rw [if_neg h58]; dsimp only; omega
  · rw [if_neg h45]; dsimp only; omega

set_option maxRecDepth 100000 in
set_option maxHeartbeats 16000000 in
theorem refParse_any (s : ByteArray) (w : World) (hs : s.size ≤ 4000000000) : Calls Tryd.prog 12 #[.string s] w (ParseTo w (parseM s.data.toList)) := by
  obtain ⟨i0, hi, iz0, iz1, iz2⟩ := info_parts Tryd.infoNum
  obtain ⟨i1, hj, hy0, hy1, hy2⟩ := info_parts Tryd.infoBl
  have hlen : s.data.toList.length = s.size := Array.length_toList
  have ONE : Hid (∀ t, t ≤ s.size → ∀ w1, Calls Tryd.prog 23 #[.string s, .int .i64 t] w1 fun e w' => oneE t (oneV (s.data.toList.drop t)) e ∧ Below w1.heap.size w1 w') := fun t ht w1 => one_any s t w1 hs ht
  have NUM := Lib.hid (num_at s hs)
  have ISA := Lib.hid (is_at s hs)
  obtain ⟨l, hl⟩ : ∃ l, l = s.data.toList := ⟨_, rfl⟩
  rw [← hl] at hlen ONE NUM ISA ⊢
  clear hl
  obtain ⟨R, hR⟩ : ∃ R, R = parseM l := ⟨_, rfl⟩
  have HR0 : Hid (refV (l.length + 1) (fun _ => false) none 0 (l.drop 0) = R) := by rw [hR, parse_ref, List.drop_zero]; rfl
  rw [← hR]
  clear hR
  go_enter Tryd.func12, Tryd.ntmps12
  go_wp2_with (refine wpList_make_full _ rfl _ _ 56 rfl (w.heap.size + 1) 4 i1 _ 1 Tryd.underlying56 hj hy0 hy1 .i64 .i64 1001 1001 1001 rfl rfl rfl rfl (by rw [hy2]; decide) (by decide) (by simp) ?_; intro w1 hmk1 hgr1)
  have hrs1 := Blk.grown (Blk.new w #[.slice none 0 0, .int .i64 0] 25) hgr1 (by simp)
  have hsa : (w.alloc (.cells #[.slice none 0 0, .int .i64 0] 25)).heap.size = w.heap.size + 1 := by simp
  rw [made_marks, hsa] at hmk1
  have HMK1 := Lib.hid (mkr_of (n := 0) hmk1)
  have HRS1 := Lib.hid hrs1
  have HB1 : Hid (Below w.heap.size w w1) := (((Below.refl _ w).alloc (Nat.le_refl _) _).grown hgr1 (by simp) (fun j hj => by simp at hj))
  clear hmk1 hgr1 hrs1 hsa
  obtain ⟨g, hg⟩ : ∃ g, g = w.heap.size + 1 := ⟨_, rfl⟩
  rw [← hg] at HMK1 ⊢
  have hgw : w.heap.size < g := by omega
  clear hg
  go_loopw [6, 7] (fun bd at' wr => ∃ (t q : Nat) (m : Nat → Bool) (f : Option Nat), t ≤ s.size ∧ at' = .int .i64 t ∧ bd = .int .i64 (faultI f) ∧ Hid (refV q m f t (l.drop t) = R) ∧ s.size - t < q ∧ Hid (∀ p, f = some p → p ≤ 4000000000) ∧ Hid (MkR wr g m) ∧ Hid (Blk wr w.heap.size #[.slice none 0 0, .int .i64 0] 25) ∧ Below w.heap.size w wr) (fun _ at' _ => s.size + 1 - (RowKit.intOf at').toNat)
  case atStart => exact ⟨0, l.length + 1, fun _ => false, none, Nat.zero_le _, rfl, rfl, HR0.out, by omega, (fun p h => by cases h), HMK1.out, HRS1.out, HB1.out⟩
  case round =>
    obtain ⟨t, q, m, f, hts, rfl, rfl, href, hq, hfb, hmk, hrs, hB⟩ := hrel
    have HB := Lib.hid hB
    have hzw : w.heap.size < wr.heap.size := hrs.out.lt
    have O1 := Lib.hid (ONE.out t hts wr)
    have hol := one_le (l.drop t)
    rw [List.length_drop, hlen] at hol
    clear hB HMK1 HRS1 HB1
    cases q with
    | zero => omega
    | succ q =>
    have HREF := href.out
    rw [refV] at HREF
    cases ho : oneV (l.drop t) with
    | wrong k =>
      rw [ho] at HREF hol O1
      dsimp only at HREF hol
      obtain ⟨T, hT0⟩ : ∃ T, T = t + k := ⟨_, rfl⟩
      have hTT : Hid (R = .txt T) := by rw [hT0]; exact HREF.symm
      have O2 : Hid (Calls Tryd.prog 23 #[.string s, .int .i64 t] wr fun e w' => (∃ x1 x2 x3 x4 : Int, e = .returned (.agg #[.int .i64 x1, .int .i64 x2, .int .i64 x3, .int .i64 x4, .int .i64 (T : Nat)])) ∧ Below wr.heap.size wr w') := by
        rw [hT0]; exact O1.out
      have g0 : decide ((T : Int) ≥ 0) = true := decide_eq_true (by omega)
      clear href HREF hT0 O1
      go_wp2_with fail
      refine O2.out.mono ?_; rintro e w2 ⟨⟨x1, x2, x3, x4, rfl⟩, b2⟩
      have RS2 := Lib.hid (hrs.out.kept b2)
      have B2 := Lib.hid (below_next b2 HB.out)
      have hz2 : w.heap.size < w2.heap.size := RS2.out.lt
      have RS3 := Lib.hid (RS2.out.old (.cells #[.int .i64 x1, .int .i64 x2, .int .i64 x3, .int .i64 x4, .int .i64 (T : Nat)] 58))
      have B3 := Lib.hid (B2.out.alloc (Nat.le_of_lt hz2) (.cells #[.int .i64 x1, .int .i64 x2, .int .i64 x3, .int .i64 x4, .int .i64 (T : Nat)] 58))
      have X3 := Lib.hid (Blk.new w2 #[.int .i64 x1, .int .i64 x2, .int .i64 x3, .int .i64 x4, .int .i64 (T : Nat)] 58)
      clear b2 O2
      go_wp2_with fail
      have x4' := X3.out.cell 4
      simp only [List.getElem?_toArray, List.getElem?_cons_zero, List.getElem?_cons_succ] at x4'
      generalize (w2.alloc (.cells #[.int .i64 x1, .int .i64 x2, .int .i64 x3, .int .i64 x4, .int .i64 (T : Nat)] 58)) = W3 at *
      have r0 := RS3.out.cell 0
      have r1 := RS3.out.cell 1
      have rf0 := RS3.out.free 0
      have rf1 := RS3.out.free 1
      simp only [List.getElem?_toArray, List.getElem?_cons_zero, List.getElem?_cons_succ] at r0 r1
      have hK : Blk ((W3.setCell ⟨w.heap.size, 0, none⟩ (.slice none 0 0)).setCell ⟨w.heap.size, 1, none⟩ (.int .i64 0)) w.heap.size #[.slice none 0 0, .int .i64 0] 25 := (RS3.out.set 0 (.slice none 0 0)).set 1 (.int .i64 0)
      have k0 := hK.cell 0
      have k1 := hK.cell 1
      simp only [List.getElem?_toArray, List.getElem?_cons_zero, List.getElem?_cons_succ] at k0 k1
      have HBE := Lib.hid ((B3.out.setCell (p := ⟨w.heap.size, 0, none⟩) (Nat.le_refl _) (.slice none 0 0)).setCell (p := ⟨w.heap.size, 1, none⟩) (Nat.le_refl _) (.int .i64 0))
      clear hK
      go_region
      go_wp2_with fail
      refine bodyPost_ret (v := .tuple #[.agg #[.slice none 0 0, .int .i64 0], .int .i64 T, .int .i64 60]) (by simp [results, Tryd.results12, go_sem, k0, k1]) rfl ?_
      rw [hTT.out]
      exact ⟨⟨_, rfl, NOwn.none _ _⟩, HBE.out.drew⟩
    | item a b c k =>
      rw [ho] at HREF hol O1
      dsimp only at HREF hol
      obtain ⟨h9a, h9b, h9c, hk0, hkl⟩ := hol
      obtain ⟨E, hE⟩ : ∃ E, E = t + k := ⟨_, rfl⟩
      have hEs : E ≤ s.size := by omega
      have htE : t < E := by omega
      have hdk : (l.drop t).drop k = l.drop E := by rw [List.drop_drop, hE]
      have O2 : Hid (Calls Tryd.prog 23 #[.string s, .int .i64 t] wr fun e w' => e = .returned (.agg #[.int .i64 (a : Nat), .int .i64 (b : Nat), .int .i64 (c : Nat), .int .i64 (E : Nat), .int .i64 (-1)]) ∧ Below wr.heap.size wr w') := by
        rw [hE]; exact O1.out
      rw [hdk, ← hE] at HREF
      obtain ⟨mm, hmm⟩ : ∃ mm, mm = marksV m a b c := ⟨_, rfl⟩
      obtain ⟨fv, hfv⟩ : ∃ fv, fv = faultV f a b c t := ⟨_, rfl⟩
      have HFB := Lib.hid (fault_le (a := a) (b := b) (c := c) (t := t) hfb.out (by omega))
      rw [← hfv] at HFB
      rw [← hmm, ← hfv] at HREF
      have HH := Lib.hid HREF
      have MK : Hid (∀ w1, MkR w1 g m → Calls Tryd.prog 24 #[.slice (some ⟨g, 0, none⟩) 1001 1001, .int .i64 a, .int .i64 b, .int .i64 c] w1 fun e w' => e = .returned (.bool (!badItem a b c)) ∧ w1.grownBy w' (some g) ∧ MkR w' g mm) := fun w1 h => by
        rw [hmm]; exact mark_any g a b c m w1 ⟨h9a, h9b, h9c⟩ h
      have HFV : Hid (fv = if badItem a b c = true then some (f.getD t) else f) := hfv
      clear href HREF O1 hmm hfv hE hdk ho
      generalize hbi : badItem a b c = bi at *
      clear hbi
      go_wp2_with fail
      refine O2.out.mono ?_; rintro e w2 ⟨rfl, b2⟩
      have RS2 := Lib.hid (hrs.out.kept b2)
      have MK2 := Lib.hid (hmk.out.kept b2)
      have B2 := Lib.hid (below_next b2 HB.out)
      have hz2 : w.heap.size < w2.heap.size := RS2.out.lt
      have hg2 : g < w2.heap.size := MK2.out.blk.lt
      clear b2 O2 hrs hmk HB
      have RS3 := Lib.hid (RS2.out.old (.cells #[.int .i64 (a : Nat), .int .i64 (b : Nat), .int .i64 (c : Nat), .int .i64 (E : Nat), .int .i64 (-1)] 58))
      have B3 := Lib.hid (B2.out.alloc (Nat.le_of_lt hz2) (.cells #[.int .i64 (a : Nat), .int .i64 (b : Nat), .int .i64 (c : Nat), .int .i64 (E : Nat), .int .i64 (-1)] 58))
      have MK3 : Hid (MkR (w2.alloc (.cells #[.int .i64 (a : Nat), .int .i64 (b : Nat), .int .i64 (c : Nat), .int .i64 (E : Nat), .int .i64 (-1)] 58)) g m) := ⟨MK2.out.blk.old _⟩
      have X3 := Lib.hid (Blk.new w2 #[.int .i64 (a : Nat), .int .i64 (b : Nat), .int .i64 (c : Nat), .int .i64 (E : Nat), .int .i64 (-1)] 58)
      have hz3 : w.heap.size ≤ (w2.alloc (.cells #[.int .i64 (a : Nat), .int .i64 (b : Nat), .int .i64 (c : Nat), .int .i64 (E : Nat), .int .i64 (-1)] 58)).heap.size := by simp; omega
      clear RS2 B2 MK2
      go_wp2_with fail
      refine (MK.out _ MK3.out).mono ?_; rintro e w4 ⟨rfl, g4, m4⟩
      have HMK := Lib.hid m4
      have HRS := Lib.hid (Blk.grown RS3.out g4 (by intro e; injection e with e; omega))
      have HBL := Lib.hid (below_gb B3.out g4 (by omega) hz3)
      have X4 := Lib.hid (Blk.grown X3.out g4 (by intro e; injection e with e; omega))
      clear g4 m4 MK MK3 RS3 B3 X3 hz3
      have x3 := X4.out.cell 3
      simp only [List.getElem?_toArray, List.getElem?_cons_zero, List.getElem?_cons_succ] at x3
      go_upto_region 8 with fail
      go_cut [39] from 17 to 48 (fun v wx => ∃ bb : Bool, v = .bool bb ∧ Hid (bb = (bi && f.isNone)) ∧ Hid (w4 = wx))
      case first =>
        clear HH HFB HMK HRS HBL ONE NUM ISA HR0 X4 x3
        cases f with
        | none => cases bi <;> (go_wp2_with fail; go_meet; exact ⟨_, rfl, rfl, rfl⟩)
        | some P =>
          have g5 : decide ((P : Int) < 0) = false := decide_eq_false (by omega)
          rw [show faultI (some P) = (P : Int) from rfl]
          cases bi <;> (go_wp2_with fail; go_meet; exact ⟨_, rfl, rfl, rfl⟩)
      case rest =>
        obtain ⟨bb, rfl, HBB, hw⟩ := hcut
        obtain rfl := hw.out
        clear hw
        go_upto_if 39 with fail
        go_cut [6] from 17 to 48 (fun v wx => v = .int .i64 (faultI fv) ∧ Hid (w4 = wx))
        case first =>
          clear HH HFB HMK HRS HBL ONE NUM ISA HR0 X4 x3
          cases bb
          · have hE : Hid (faultI f = faultI fv) := by unfold Hid; rw [HFV.out, fv_no HBB.out]
            clear HBB HFV
            go_wp2_with fail
            go_meet
            exact ⟨by rw [hE.out], rfl⟩
          · have hE : Hid ((t : Int) = faultI fv) := by unfold Hid; rw [HFV.out, fv_yes HBB.out]
            clear HBB HFV
            go_wp2_with fail
            go_meet
            exact ⟨by rw [hE.out], rfl⟩
        case rest =>
          obtain ⟨rfl, hw⟩ := hcut
          obtain rfl := hw.out
          clear hw HFV HBB
          have HRUN := HH.out
          clear HH
          by_cases h44 : (l.drop E).head? = some 44
          · rw [if_pos h44] at HRUN
            have I44 := Lib.hid (ISA.out E hEs 44 44 rfl true (decide_eq_true h44))
            have hl1 := tail_len h44
            rw [List.length_drop, hlen] at hl1
            have ht1 : (l.drop E).tail = l.drop (E + 1) := by rw [List.tail_drop]
            rw [ht1] at HRUN
            have HRN := Lib.hid HRUN
            have hE1 : E + 1 ≤ s.size := by omega
            clear HRUN h44 ht1 hl1
            go_wp2_with fail
            refine (I44.out _).mono ?_; rintro e w9 ⟨rfl, hw⟩; replace hw := hw.symm; subst hw
            go_wp2_with fail
            go_roundw
            case rel => exact ⟨E + 1, q, mm, fv, hE1, by go_num, rfl, HRN.out, by omega, HFB.out, HMK.out, HRS.out, HBL.out⟩
            case measure => simp [RowKit.intOf]; omega
          · rw [if_neg h44] at HRUN
            have I44 := Lib.hid (ISA.out E hEs 44 44 rfl false (decide_eq_false h44))
            unfold tailV at HRUN
            clear h44
            go_wp2_with fail
            refine (I44.out _).mono ?_; rintro e w9 ⟨rfl, hw⟩; replace hw := hw.symm; subst hw
            clear I44
            by_cases h37 : (l.drop E).head? = some 37
            · rw [if_pos h37] at HRUN
              have I37 := Lib.hid (ISA.out E hEs 37 37 rfl true (decide_eq_true h37))
              have hl1 := tail_len h37
              rw [List.length_drop, hlen] at hl1
              have ht1 : (l.drop E).tail = l.drop (E + 1) := by rw [List.tail_drop]
              rw [ht1] at HRUN
              unfold mostV at HRUN
              obtain ⟨m2, m3⟩ := numR_len (l.drop (E + 1))
              rw [List.length_drop, hlen] at m3
              have hnl := numR_lt (l.drop (E + 1))
              cases hn2 : numR 0 0 (l.drop (E + 1)) with
              | mk n k2 =>
              rw [hn2] at HRUN m2 m3 hnl
              dsimp only at HRUN m2 m3 hnl
              obtain ⟨E2, hE2⟩ : ∃ E2, E2 = E + 1 + k2 := ⟨_, rfl⟩
              have hE2s : E2 ≤ s.size := by omega
              have e1 : ((E + 1 : Nat) : Int) = (E : Int) + 1 := by omega
              have N2 := Lib.hid (NUM.out (E + 1) (by omega) n k2 E2 hn2 hE2)
              rw [e1] at N2
              have hE2d : (l.drop (E + 1)).drop k2 = l.drop E2 := by rw [List.drop_drop, hE2]
              rw [← hE2] at HRUN
              have HMOST := Lib.hid HRUN.symm
              clear HRUN h37 ht1 hl1 e1
              by_cases hk2 : k2 = 0
              · have q1 : ((E2 : Int) == (E : Int) + 1) = true := by rw [beq_iff_eq]; omega
                have hT : Hid (R = .txt (E + 1)) := by unfold Hid; rw [HMOST.out, if_pos hk2]
                have eE : ((E + 1 : Nat) : Int) = (E : Int) + 1 := by omega
                have HT := Lib.hid hT.out
                clear HMOST hk2 hE2 hE2d hn2 hT
                have r0 := HRS.out.cell 0
                have r1 := HRS.out.cell 1
                have rf0 := HRS.out.free 0
                have rf1 := HRS.out.free 1
                simp only [List.getElem?_toArray, List.getElem?_cons_zero, List.getElem?_cons_succ] at r0 r1
                have hK : Blk ((w4.setCell ⟨w.heap.size, 0, none⟩ (.slice none 0 0)).setCell ⟨w.heap.size, 1, none⟩ (.int .i64 0)) w.heap.size #[.slice none 0 0, .int .i64 0] 25 := (HRS.out.set 0 (.slice none 0 0)).set 1 (.int .i64 0)
                have k0 := hK.cell 0
                have k1 := hK.cell 1
                simp only [List.getElem?_toArray, List.getElem?_cons_zero, List.getElem?_cons_succ] at k0 k1
                have HBE := Lib.hid ((HBL.out.setCell (p := ⟨w.heap.size, 0, none⟩) (Nat.le_refl _) (.slice none 0 0)).setCell (p := ⟨w.heap.size, 1, none⟩) (Nat.le_refl _) (.int .i64 0))
                clear hK
                go_wp2_with fail
                refine (I37.out _).mono ?_; rintro e w9 ⟨rfl, hw⟩; replace hw := hw.symm; subst hw
                go_wp2_with fail
                refine (N2.out _).mono ?_; rintro e w9 ⟨rfl, hw⟩; replace hw := hw.symm; subst hw
                go_wp2_with fail
                refine bodyPost_ret (v := .tuple #[.agg #[.slice none 0 0, .int .i64 0], .int .i64 ((E : Int) + 1), .int .i64 60]) (by simp [results, Tryd.results12, go_sem, k0, k1]) rfl ?_
                rw [HT.out, ← eE]
                exact ⟨⟨_, rfl, NOwn.none _ _⟩, HBE.out⟩
              · have q1 : ((E2 : Int) == (E : Int) + 1) = false := by rw [beq_eq_false_iff_ne]; omega
                clear hE2
                by_cases hn0 : n = 0
                · have z0 : ((n : Int) == 0) = true := by rw [beq_iff_eq]; omega
                  cases fv with
                  | none =>
                    have HFIN : Hid (R = if l.drop E2 ≠ [] then .txt E2 else doneV mm (some E) n) := by
                      unfold Hid; rw [HMOST.out, if_neg hk2, hE2d]
                      have hbm : badMost n = true := by unfold badMost; rw [decide_eq_true_eq]; omega
                      rw [hbm]
                      simp
                    clear HMOST hk2 hE2d hn2
                    go_wp2_with fail
                    refine (I37.out _).mono ?_; rintro e w9 ⟨rfl, hw⟩; replace hw := hw.symm; subst hw
                    go_wp2_with fail
                    refine (N2.out _).mono ?_; rintro e w9 ⟨rfl, hw⟩; replace hw := hw.symm; subst hw
                    by_cases hlt : E2 < s.size
                    · have g1 : decide ((E2 : Int) < s.size) = true := decide_eq_true (by omega)
                      have g1n : decide (E2 < s.size) = true := decide_eq_true hlt
                      have hT : Hid (R = .txt E2) := by
                        unfold Hid; rw [HFIN.out, if_pos (by intro e; have := congrArg List.length e; rw [List.length_drop, hlen] at this; simp at this; omega)]
                      clear HFIN hlt
                      have r0 := HRS.out.cell 0
                      have r1 := HRS.out.cell 1
                      have rf0 := HRS.out.free 0
                      have rf1 := HRS.out.free 1
                      simp only [List.getElem?_toArray, List.getElem?_cons_zero, List.getElem?_cons_succ] at r0 r1
                      have hK : Blk ((w4.setCell ⟨w.heap.size, 0, none⟩ (.slice none 0 0)).setCell ⟨w.heap.size, 1, none⟩ (.int .i64 0)) w.heap.size #[.slice none 0 0, .int .i64 0] 25 := (HRS.out.set 0 (.slice none 0 0)).set 1 (.int .i64 0)
                      have k0 := hK.cell 0
                      have k1 := hK.cell 1
                      simp only [List.getElem?_toArray, List.getElem?_cons_zero, List.getElem?_cons_succ] at k0 k1
                      have HBE := Lib.hid ((HBL.out.setCell (p := ⟨w.heap.size, 0, none⟩) (Nat.le_refl _) (.slice none 0 0)).setCell (p := ⟨w.heap.size, 1, none⟩) (Nat.le_refl _) (.int .i64 0))
                      clear hK
                      go_wp2_with fail
                      refine bodyPost_ret (v := .tuple #[.agg #[.slice none 0 0, .int .i64 0], .int .i64 E2, .int .i64 60]) (by simp [results, Tryd.results12, go_sem, k0, k1]) rfl ?_
                      rw [hT.out]
                      exact ⟨⟨_, rfl, NOwn.none _ _⟩, HBE.out⟩
                    · have g1 : decide ((E2 : Int) < s.size) = false := decide_eq_false (by omega)
                      have g1n : decide (E2 < s.size) = false := decide_eq_false hlt
                      have hT : Hid (R = doneV mm (some E) n) := by
                        unfold Hid; rw [HFIN.out, if_neg (by rw [List.drop_of_length_le (by omega)]; simp)]
                      clear HFIN hlt
                      have hT2 : Hid (R = .arg E) := hT.out
                      have g2 : decide ((E : Int) ≥ 0) = true := decide_eq_true (by omega)
                      clear hT
                      have r0 := HRS.out.cell 0
                      have r1 := HRS.out.cell 1
                      have rf0 := HRS.out.free 0
                      have rf1 := HRS.out.free 1
                      simp only [List.getElem?_toArray, List.getElem?_cons_zero, List.getElem?_cons_succ] at r0 r1
                      have hK : Blk ((w4.setCell ⟨w.heap.size, 0, none⟩ (.slice none 0 0)).setCell ⟨w.heap.size, 1, none⟩ (.int .i64 0)) w.heap.size #[.slice none 0 0, .int .i64 0] 25 := (HRS.out.set 0 (.slice none 0 0)).set 1 (.int .i64 0)
                      have k0 := hK.cell 0
                      have k1 := hK.cell 1
                      simp only [List.getElem?_toArray, List.getElem?_cons_zero, List.getElem?_cons_succ] at k0 k1
                      have HBE := Lib.hid ((HBL.out.setCell (p := ⟨w.heap.size, 0, none⟩) (Nat.le_refl _) (.slice none 0 0)).setCell (p := ⟨w.heap.size, 1, none⟩) (Nat.le_refl _) (.int .i64 0))
                      clear hK
                      go_wp2_with fail
                      refine bodyPost_ret (v := .tuple #[.agg #[.slice none 0 0, .int .i64 0], .int .i64 E, .int .i64 2]) (by simp [results, Tryd.results12, go_sem, k0, k1]) rfl ?_
                      rw [hT2.out]
                      exact ⟨⟨_, rfl, NOwn.none _ _⟩, HBE.out⟩
                  | some P =>
                    have g5 : decide ((P : Int) < 0) = false := decide_eq_false (by omega)
                    rw [show faultI (some P) = (P : Int) from rfl]
                    have HFIN : Hid (R = if l.drop E2 ≠ [] then .txt E2 else doneV mm (some P) n) := by
                      unfold Hid; rw [HMOST.out, if_neg hk2, hE2d]
                      have hbm : badMost n = true := by unfold badMost; rw [decide_eq_true_eq]; omega
                      rw [hbm]
                      simp
                    clear HMOST hk2 hE2d hn2
                    go_wp2_with fail
                    refine (I37.out _).mono ?_; rintro e w9 ⟨rfl, hw⟩; replace hw := hw.symm; subst hw
                    go_wp2_with fail
                    refine (N2.out _).mono ?_; rintro e w9 ⟨rfl, hw⟩; replace hw := hw.symm; subst hw
                    by_cases hlt : E2 < s.size
                    · have g1 : decide ((E2 : Int) < s.size) = true := decide_eq_true (by omega)
                      have g1n : decide (E2 < s.size) = true := decide_eq_true hlt
                      have hT : Hid (R = .txt E2) := by
                        unfold Hid; rw [HFIN.out, if_pos (by intro e; have := congrArg List.length e; rw [List.length_drop, hlen] at this; simp at this; omega)]
                      clear HFIN hlt
                      have r0 := HRS.out.cell 0
                      have r1 := HRS.out.cell 1
                      have rf0 := HRS.out.free 0
                      have rf1 := HRS.out.free 1
                      simp only [List.getElem?_toArray, List.getElem?_cons_zero, List.getElem?_cons_succ] at r0 r1
                      have hK : Blk ((w4.setCell ⟨w.heap.size, 0, none⟩ (.slice none 0 0)).setCell ⟨w.heap.size, 1, none⟩ (.int .i64 0)) w.heap.size #[.slice none 0 0, .int .i64 0] 25 := (HRS.out.set 0 (.slice none 0 0)).set 1 (.int .i64 0)
                      have k0 := hK.cell 0
                      have k1 := hK.cell 1
                      simp only [List.getElem?_toArray, List.getElem?_cons_zero, List.getElem?_cons_succ] at k0 k1
                      have HBE := Lib.hid ((HBL.out.setCell (p := ⟨w.heap.size, 0, none⟩) (Nat.le_refl _) (.slice none 0 0)).setCell (p := ⟨w.heap.size, 1, none⟩) (Nat.le_refl _) (.int .i64 0))
                      clear hK
                      go_wp2_with fail
                      refine bodyPost_ret (v := .tuple #[.agg #[.slice none 0 0, .int .i64 0], .int .i64 E2, .int .i64 60]) (by simp [results, Tryd.results12, go_sem, k0, k1]) rfl ?_
                      rw [hT.out]
                      exact ⟨⟨_, rfl, NOwn.none _ _⟩, HBE.out⟩
                    · have g1 : decide ((E2 : Int) < s.size) = false := decide_eq_false (by omega)
                      have g1n : decide (E2 < s.size) = false := decide_eq_false hlt
                      have hT : Hid (R = doneV mm (some P) n) := by
                        unfold Hid; rw [HFIN.out, if_neg (by rw [List.drop_of_length_le (by omega)]; simp)]
                      clear HFIN hlt
                      have hT2 : Hid (R = .arg P) := hT.out
                      have g2 : decide ((P : Int) ≥ 0) = true := decide_eq_true (by omega)
                      clear hT
                      have r0 := HRS.out.cell 0
                      have r1 := HRS.out.cell 1
                      have rf0 := HRS.out.free 0
                      have rf1 := HRS.out.free 1
                      simp only [List.getElem?_toArray, List.getElem?_cons_zero, List.getElem?_cons_succ] at r0 r1
                      have hK : Blk ((w4.setCell ⟨w.heap.size, 0, none⟩ (.slice none 0 0)).setCell ⟨w.heap.size, 1, none⟩ (.int .i64 0)) w.heap.size #[.slice none 0 0, .int .i64 0] 25 := (HRS.out.set 0 (.slice none 0 0)).set 1 (.int .i64 0)
                      have k0 := hK.cell 0
                      have k1 := hK.cell 1
                      simp only [List.getElem?_toArray, List.getElem?_cons_zero, List.getElem?_cons_succ] at k0 k1
                      have HBE := Lib.hid ((HBL.out.setCell (p := ⟨w.heap.size, 0, none⟩) (Nat.le_refl _) (.slice none 0 0)).setCell (p := ⟨w.heap.size, 1, none⟩) (Nat.le_refl _) (.int .i64 0))
                      clear hK
                      go_wp2_with fail
                      refine bodyPost_ret (v := .tuple #[.agg #[.slice none 0 0, .int .i64 0], .int .i64 P, .int .i64 2]) (by simp [results, Tryd.results12, go_sem, k0, k1]) rfl ?_
                      rw [hT2.out]
                      exact ⟨⟨_, rfl, NOwn.none _ _⟩, HBE.out⟩
                · have z0 : ((n : Int) == 0) = false := by rw [beq_eq_false_iff_ne]; omega
                  by_cases hn1 : 1000 < n
                  · have z1 : decide ((n : Int) > 1000) = true := decide_eq_true (by omega)
                    have z1n : decide (1000 < n) = true := decide_eq_true hn1
                    cases fv with
                    | none =>
                      have HFIN : Hid (R = if l.drop E2 ≠ [] then .txt E2 else doneV mm (some E) n) := by
                        unfold Hid; rw [HMOST.out, if_neg hk2, hE2d]
                        have hbm : badMost n = true := by unfold badMost; rw [decide_eq_true_eq]; omega
                        rw [hbm]
                        simp
                      clear HMOST hk2 hE2d hn2
                      go_wp2_with fail
                      refine (I37.out _).mono ?_; rintro e w9 ⟨rfl, hw⟩; replace hw := hw.symm; subst hw
                      go_wp2_with fail
                      refine (N2.out _).mono ?_; rintro e w9 ⟨rfl, hw⟩; replace hw := hw.symm; subst hw
                      by_cases hlt : E2 < s.size
                      · have g1 : decide ((E2 : Int) < s.size) = true := decide_eq_true (by omega)
                        have g1n : decide (E2 < s.size) = true := decide_eq_true hlt
                        have hT : Hid (R = .txt E2) := by
                          unfold Hid; rw [HFIN.out, if_pos (by intro e; have := congrArg List.length e; rw [List.length_drop, hlen] at this; simp at this; omega)]
                        clear HFIN hlt
                        have r0 := HRS.out.cell 0
                        have r1 := HRS.out.cell 1
                        have rf0 := HRS.out.free 0
                        have rf1 := HRS.out.free 1
                        simp only [List.getElem?_toArray, List.getElem?_cons_zero, List.getElem?_cons_succ] at r0 r1
                        have hK : Blk ((w4.setCell ⟨w.heap.size, 0, none⟩ (.slice none 0 0)).setCell ⟨w.heap.size, 1, none⟩ (.int .i64 0)) w.heap.size #[.slice none 0 0, .int .i64 0] 25 := (HRS.out.set 0 (.slice none 0 0)).set 1 (.int .i64 0)
                        have k0 := hK.cell 0
                        have k1 := hK.cell 1
                        simp only [List.getElem?_toArray, List.getElem?_cons_zero, List.getElem?_cons_succ] at k0 k1
                        have HBE := Lib.hid ((HBL.out.setCell (p := ⟨w.heap.size, 0, none⟩) (Nat.le_refl _) (.slice none 0 0)).setCell (p := ⟨w.heap.size, 1, none⟩) (Nat.le_refl _) (.int .i64 0))
                        clear hK
                        go_wp2_with fail
                        refine bodyPost_ret (v := .tuple #[.agg #[.slice none 0 0, .int .i64 0], .int .i64 E2, .int .i64 60]) (by simp [results, Tryd.results12, go_sem, k0, k1]) rfl ?_
                        rw [hT.out]
                        exact ⟨⟨_, rfl, NOwn.none _ _⟩, HBE.out⟩
                      · have g1 : decide ((E2 : Int) < s.size) = false := decide_eq_false (by omega)
                        have g1n : decide (E2 < s.size) = false := decide_eq_false hlt
                        have hT : Hid (R = doneV mm (some E) n) := by
                          unfold Hid; rw [HFIN.out, if_neg (by rw [List.drop_of_length_le (by omega)]; simp)]
                        clear HFIN hlt
                        have hT2 : Hid (R = .arg E) := hT.out
                        have g2 : decide ((E : Int) ≥ 0) = true := decide_eq_true (by omega)
                        clear hT
                        have r0 := HRS.out.cell 0
                        have r1 := HRS.out.cell 1
                        have rf0 := HRS.out.free 0
                        have rf1 := HRS.out.free 1
                        simp only [List.getElem?_toArray, List.getElem?_cons_zero, List.getElem?_cons_succ] at r0 r1
                        have hK : Blk ((w4.setCell ⟨w.heap.size, 0, none⟩ (.slice none 0 0)).setCell ⟨w.heap.size, 1, none⟩ (.int .i64 0)) w.heap.size #[.slice none 0 0, .int .i64 0] 25 := (HRS.out.set 0 (.slice none 0 0)).set 1 (.int .i64 0)
                        have k0 := hK.cell 0
                        have k1 := hK.cell 1
                        simp only [List.getElem?_toArray, List.getElem?_cons_zero, List.getElem?_cons_succ] at k0 k1
                        have HBE := Lib.hid ((HBL.out.setCell (p := ⟨w.heap.size, 0, none⟩) (Nat.le_refl _) (.slice none 0 0)).setCell (p := ⟨w.heap.size, 1, none⟩) (Nat.le_refl _) (.int .i64 0))
                        clear hK
                        go_wp2_with fail
                        refine bodyPost_ret (v := .tuple #[.agg #[.slice none 0 0, .int .i64 0], .int .i64 E, .int .i64 2]) (by simp [results, Tryd.results12, go_sem, k0, k1]) rfl ?_
                        rw [hT2.out]
                        exact ⟨⟨_, rfl, NOwn.none _ _⟩, HBE.out⟩
                    | some P =>
                      have g5 : decide ((P : Int) < 0) = false := decide_eq_false (by omega)
                      rw [show faultI (some P) = (P : Int) from rfl]
                      have HFIN : Hid (R = if l.drop E2 ≠ [] then .txt E2 else doneV mm (some P) n) := by
                        unfold Hid; rw [HMOST.out, if_neg hk2, hE2d]
                        have hbm : badMost n = true := by unfold badMost; rw [decide_eq_true_eq]; omega
                        rw [hbm]
                        simp
                      clear HMOST hk2 hE2d hn2
                      go_wp2_with fail
                      refine (I37.out _).mono ?_; rintro e w9 ⟨rfl, hw⟩; replace hw := hw.symm; subst hw
                      go_wp2_with fail
                      refine (N2.out _).mono ?_; rintro e w9 ⟨rfl, hw⟩; replace hw := hw.symm; subst hw
                      by_cases hlt : E2 < s.size
                      · have g1 : decide ((E2 : Int) < s.size) = true := decide_eq_true (by omega)
                        have g1n : decide (E2 < s.size) = true := decide_eq_true hlt
                        have hT : Hid (R = .txt E2) := by
                          unfold Hid; rw [HFIN.out, if_pos (by intro e; have := congrArg List.length e; rw [List.length_drop, hlen] at this; simp at this; omega)]
                        clear HFIN hlt
                        have r0 := HRS.out.cell 0
                        have r1 := HRS.out.cell 1
                        have rf0 := HRS.out.free 0
                        have rf1 := HRS.out.free 1
                        simp only [List.getElem?_toArray, List.getElem?_cons_zero, List.getElem?_cons_succ] at r0 r1
                        have hK : Blk ((w4.setCell ⟨w.heap.size, 0, none⟩ (.slice none 0 0)).setCell ⟨w.heap.size, 1, none⟩ (.int .i64 0)) w.heap.size #[.slice none 0 0, .int .i64 0] 25 := (HRS.out.set 0 (.slice none 0 0)).set 1 (.int .i64 0)
                        have k0 := hK.cell 0
                        have k1 := hK.cell 1
                        simp only [List.getElem?_toArray, List.getElem?_cons_zero, List.getElem?_cons_succ] at k0 k1
                        have HBE := Lib.hid ((HBL.out.setCell (p := ⟨w.heap.size, 0, none⟩) (Nat.le_refl _) (.slice none 0 0)).setCell (p := ⟨w.heap.size, 1, none⟩) (Nat.le_refl _) (.int .i64 0))
                        clear hK
                        go_wp2_with fail
                        refine bodyPost_ret (v := .tuple #[.agg #[.slice none 0 0, .int .i64 0], .int .i64 E2, .int .i64 60]) (by simp [results, Tryd.results12, go_sem, k0, k1]) rfl ?_
                        rw [hT.out]
                        exact ⟨⟨_, rfl, NOwn.none _ _⟩, HBE.out⟩
                      · have g1 : decide ((E2 : Int) < s.size) = false := decide_eq_false (by omega)
                        have g1n : decide (E2 < s.size) = false := decide_eq_false hlt
                        have hT : Hid (R = doneV mm (some P) n) := by
                          unfold Hid; rw [HFIN.out, if_neg (by rw [List.drop_of_length_le (by omega)]; simp)]
                        clear HFIN hlt
                        have hT2 : Hid (R = .arg P) := hT.out
                        have g2 : decide ((P : Int) ≥ 0) = true := decide_eq_true (by omega)
                        clear hT
                        have r0 := HRS.out.cell 0
                        have r1 := HRS.out.cell 1
                        have rf0 := HRS.out.free 0
                        have rf1 := HRS.out.free 1
                        simp only [List.getElem?_toArray, List.getElem?_cons_zero, List.getElem?_cons_succ] at r0 r1
                        have hK : Blk ((w4.setCell ⟨w.heap.size, 0, none⟩ (.slice none 0 0)).setCell ⟨w.heap.size, 1, none⟩ (.int .i64 0)) w.heap.size #[.slice none 0 0, .int .i64 0] 25 := (HRS.out.set 0 (.slice none 0 0)).set 1 (.int .i64 0)
                        have k0 := hK.cell 0
                        have k1 := hK.cell 1
                        simp only [List.getElem?_toArray, List.getElem?_cons_zero, List.getElem?_cons_succ] at k0 k1
                        have HBE := Lib.hid ((HBL.out.setCell (p := ⟨w.heap.size, 0, none⟩) (Nat.le_refl _) (.slice none 0 0)).setCell (p := ⟨w.heap.size, 1, none⟩) (Nat.le_refl _) (.int .i64 0))
                        clear hK
                        go_wp2_with fail
                        refine bodyPost_ret (v := .tuple #[.agg #[.slice none 0 0, .int .i64 0], .int .i64 P, .int .i64 2]) (by simp [results, Tryd.results12, go_sem, k0, k1]) rfl ?_
                        rw [hT2.out]
                        exact ⟨⟨_, rfl, NOwn.none _ _⟩, HBE.out⟩
                  · have z1 : decide ((n : Int) > 1000) = false := decide_eq_false (by omega)
                    have z1n : decide (1000 < n) = false := decide_eq_false hn1
                    have HFIN : Hid (R = if l.drop E2 ≠ [] then .txt E2 else doneV mm fv n) := by
                      unfold Hid; rw [HMOST.out, if_neg hk2, hE2d]
                      have hbm : badMost n = false := by unfold badMost; rw [decide_eq_false_iff_not]; omega
                      rw [hbm]
                      simp
                    clear HMOST hk2 hE2d hn2
                    go_wp2_with fail
                    refine (I37.out _).mono ?_; rintro e w9 ⟨rfl, hw⟩; replace hw := hw.symm; subst hw
                    go_wp2_with fail
                    refine (N2.out _).mono ?_; rintro e w9 ⟨rfl, hw⟩; replace hw := hw.symm; subst hw
                    by_cases hlt : E2 < s.size
                    · have g1 : decide ((E2 : Int) < s.size) = true := decide_eq_true (by omega)
                      have g1n : decide (E2 < s.size) = true := decide_eq_true hlt
                      have hT : Hid (R = .txt E2) := by
                        unfold Hid; rw [HFIN.out, if_pos (by intro e; have := congrArg List.length e; rw [List.length_drop, hlen] at this; simp at this; omega)]
                      clear HFIN hlt
                      have r0 := HRS.out.cell 0
                      have r1 := HRS.out.cell 1
                      have rf0 := HRS.out.free 0
                      have rf1 := HRS.out.free 1
                      simp only [List.getElem?_toArray, List.getElem?_cons_zero, List.getElem?_cons_succ] at r0 r1
                      have hK : Blk ((w4.setCell ⟨w.heap.size, 0, none⟩ (.slice none 0 0)).setCell ⟨w.heap.size, 1, none⟩ (.int .i64 0)) w.heap.size #[.slice none 0 0, .int .i64 0] 25 := (HRS.out.set 0 (.slice none 0 0)).set 1 (.int .i64 0)
                      have k0 := hK.cell 0
                      have k1 := hK.cell 1
                      simp only [List.getElem?_toArray, List.getElem?_cons_zero, List.getElem?_cons_succ] at k0 k1
                      have HBE := Lib.hid ((HBL.out.setCell (p := ⟨w.heap.size, 0, none⟩) (Nat.le_refl _) (.slice none 0 0)).setCell (p := ⟨w.heap.size, 1, none⟩) (Nat.le_refl _) (.int .i64 0))
                      clear hK
                      go_wp2_with fail
                      refine bodyPost_ret (v := .tuple #[.agg #[.slice none 0 0, .int .i64 0], .int .i64 E2, .int .i64 60]) (by simp [results, Tryd.results12, go_sem, k0, k1]) rfl ?_
                      rw [hT.out]
                      exact ⟨⟨_, rfl, NOwn.none _ _⟩, HBE.out⟩
                    · have g1 : decide ((E2 : Int) < s.size) = false := decide_eq_false (by omega)
                      have g1n : decide (E2 < s.size) = false := decide_eq_false hlt
                      have hT : Hid (R = doneV mm (fv) n) := by
                        unfold Hid; rw [HFIN.out, if_neg (by rw [List.drop_of_length_le (by omega)]; simp)]
                      clear HFIN hlt
                      cases fv with
                      | none =>
                        have hT2 : Hid (R = .ok mm n) := hT.out
                        clear hT
                        have hzx : w.heap.size < w4.heap.size := HRS.out.lt
                        have hgx : g < w4.heap.size := HMK.out.blk.lt
                        have ha0 : Hid (Blk (w4.alloc (.cells #[.slice none 0 0, .int .i64 (n : Nat)] 25)) w4.heap.size #[.slice none 0 0, .int .i64 (n : Nat)] 25) := Blk.new _ _ _
                        have hr0 := Lib.hid (HRS.out.old (.cells #[.slice none 0 0, .int .i64 (n : Nat)] 25))
                        have hm0 : Hid (MkR (w4.alloc (.cells #[.slice none 0 0, .int .i64 (n : Nat)] 25)) g mm) := ⟨HMK.out.blk.old _⟩
                        have hb0 := Lib.hid (HBL.out.alloc (Nat.le_of_lt hzx) (.cells #[.slice none 0 0, .int .i64 (n : Nat)] 25))
                        obtain ⟨B, hBB⟩ : ∃ B, B = w4.heap.size := ⟨_, rfl⟩
                        rw [← hBB] at hzx hgx ha0
                        go_wp2_with fail
                        rw [← hBB]
                        generalize (w4.alloc (.cells #[.slice none 0 0, .int .i64 (n : Nat)] 25)) = W9 at *
                        clear hBB HRS HBL HMK
                        go_loopw [15] (fun i wr => ∃ (j : Nat) (v : Value), j ≤ 1001 ∧ i = .int .i64 j ∧ Hid (wr.ownsRow (B + 1) 3 1 v (listT mm j).length (numsL (ofN (listT mm j)))) ∧ Hid (Blk wr B #[v, .int .i64 (n : Nat)] 25) ∧ Hid (Blk wr w.heap.size #[.slice none 0 0, .int .i64 0] 25) ∧ Hid (MkR wr g mm) ∧ Below w.heap.size w wr) (fun i _ => 1001 - (RowKit.intOf i).toNat)
                        case atStart => exact ⟨0, .slice none 0 0, by omega, rfl, World.ownsRow_nil _ _ _ _, ha0.out, hr0.out, hm0.out, hb0.out⟩
                        case round =>
                          obtain ⟨j, v, hj, rfl, hown, ha, hr, hmk, hB⟩ := hrel
                          have HB := Lib.hid hB
                          obtain ⟨va, vc, rfl⟩ := own_slice hown.out
                          have hsz : B < wr.heap.size := ha.out.lt
                          have hzw : w.heap.size ≤ wr.heap.size := hB.size
                          clear hB ha0 hr0 hm0 hb0
                          by_cases hlt : j < 1001
                          · have g3 : decide ((j : Int) ≤ 1000) = true := decide_eq_true (by omega)
                            have g3n : decide (j ≤ 1000) = true := decide_eq_true (by omega)
                            have hlti : (j : Int) < 1001 := by omega
                            have hmc := hmk.out.cell (i := j) (by omega)
                            have hls := listT_succ mm j
                            have hll := listT_len mm j
                            have a0 := ha.out.cell 0
                            have af := ha.out.free 0
                            simp only [List.getElem?_toArray, List.getElem?_cons_zero] at a0
                            cases hq : mm j
                            · rw [hq] at hmc
                              rw [hq, if_neg (by simp)] at hls
                              have HO : Hid (wr.ownsRow (B + 1) 3 1 (.slice va (listT mm j).length vc) (listT mm (j + 1)).length (numsL (ofN (listT mm (j + 1))))) := by rw [hls]; exact hown.out
                              clear hown hls
                              generalize (listT mm j).length = N at *
                              go_wp2_with fail
                              go_roundw
                              case rel => exact ⟨j + 1, _, hlt, by go_num, HO.out, ha.out, hr.out, hmk.out, HB.out⟩
                              case measure => simp [RowKit.intOf]; omega
                            · rw [hq] at hmc
                              rw [hq, if_pos rfl] at hls
                              have HO := Lib.hid hown.out
                              have HS : Hid (∀ (v' : Value) (w' : World), w'.ownsRow (B + 1) 3 1 v' ((listT mm j).length + 1) (numsL (ofN (listT mm j)) ++ [.int .i64 j]) → w'.ownsRow (B + 1) 3 1 v' (listT mm (j + 1)).length (numsL (ofN (listT mm (j + 1))))) := fun v' w' h => by
                                rw [hls]
                                unfold ofN
                                rw [List.map_append, numsL_app, List.length_append]
                                exact h
                              have HVB := Lib.hid (fun q hq => HO.out.lt q hq)
                              have HN1 : Hid (some B ≠ (Value.slice va (listT mm j).length vc).ownBlock) := fun e => by have := (HVB.out _ e.symm).1; omega
                              have HN0 : Hid (some w.heap.size ≠ (Value.slice va (listT mm j).length vc).ownBlock) := fun e => by have := (HVB.out _ e.symm).1; omega
                              have HNg : Hid (some g ≠ (Value.slice va (listT mm j).length vc).ownBlock) := fun e => by have := (HVB.out _ e.symm).1; omega
                              clear hown hls
                              generalize (listT mm j).length = N at *
                              generalize numsL (ofN (listT mm j)) = fx at *
                              go_wp2_with (at_builtin; refine wpList_append_own_at _ rfl _ _ 23 rfl (B + 1) 3 i0 _ 1 8 Tryd.underlying23 hi iz0 iz1 iz2 rfl (by decide) (.slice va N vc) N _ rfl (World.ownsRow.alloc HO.out _) ⟨wr.heap.size, 0, none⟩ 1 1 [.int .i64 j] rfl rfl (news_alloc _ [.int .i64 j] _) (by simp [Value.oneCell']) (by unfold maxLen; omega) (by omega) (by simp; omega) ?_; intro v4 w5 hown4 hgrow4 _ hat4; obtain ⟨a4, c4, rfl⟩ := own_slice hown4; have ha5 := Blk.grown (ha.out.old (.cells #[.int .i64 j] 3)) hgrow4 HN1.out; have a5 := ha5.cell 0; have f5 := ha5.free 0; simp only [List.getElem?_toArray, List.getElem?_cons_zero] at a5)
                              have hr5 := Blk.grown (hr.out.old (.cells #[.int .i64 j] 3)) hgrow4 HN0.out
                              have hm5 := Blk.grown (hmk.out.blk.old (.cells #[.int .i64 j] 3)) hgrow4 HNg.out
                              have HB5 : Hid (Below w.heap.size w w5) := (HB.out.alloc hzw _).grown hgrow4 (by simp; omega) (fun q hq => by have := (HVB.out q hq).1; omega)
                              have ha6 := Lib.hid (ha5.set 0 (.slice a4 (N + 1) c4))
                              have hr6 := Lib.hid (hr5.other (a := ⟨B, 0, none⟩) (by show w.heap.size ≠ B; omega) (.slice a4 (N + 1) c4))
                              have hm6 : Hid (MkR (w5.setCell ⟨B, 0, none⟩ (.slice a4 (N + 1) c4)) g mm) := ⟨hm5.other (a := ⟨B, 0, none⟩) (by show g ≠ B; omega) _⟩
                              have HB6 := Lib.hid (HB5.out.setCell (p := ⟨B, 0, none⟩) (by show w.heap.size ≤ B; omega) (.slice a4 (N + 1) c4))
                              have HO6 := Lib.hid (HS.out (.slice a4 (N + 1) c4) _ (own_set hown4 (b := B) (o := 0) (by omega) (.slice a4 (N + 1) c4)))
                              clear ha5 hr5 a5 f5 hm5
                              go_roundw
                              case rel => exact ⟨j + 1, .slice a4 (N + 1) c4, hlt, by go_num, HO6.out, ha6.out, hr6.out, hm6.out, HB6.out⟩
                              case measure => simp [RowKit.intOf]; omega
                          · obtain rfl : j = 1001 := by omega
                            have g3 : decide (((1001 : Nat) : Int) ≤ 1000) = false := by decide
                            have HE : Hid (listF mm = listT mm 1001) := rfl
                            have a0 := ha.out.cell 0
                            have a1 := ha.out.cell 1
                            have r0 := hr.out.cell 0
                            have r1 := hr.out.cell 1
                            have rf0 := hr.out.free 0
                            have rf1 := hr.out.free 1
                            simp at a0 a1 r0 r1
                            have HOS := Lib.hid (own_set (own_set hown.out (b := w.heap.size) (o := 0) (by omega) (.slice va (listT mm 1001).length vc)) (b := w.heap.size) (o := 1) (by omega) (.int .i64 (n : Nat)))
                            clear hown
                            obtain ⟨N, hN⟩ : ∃ N, N = (listT mm 1001).length := ⟨_, rfl⟩
                            have HNN := Lib.hid hN
                            rw [← hN] at a0 HOS
                            clear hN
                            have hK : Blk ((wr.setCell ⟨w.heap.size, 0, none⟩ (.slice va N vc)).setCell ⟨w.heap.size, 1, none⟩ (.int .i64 (n : Nat))) w.heap.size #[.slice va N vc, .int .i64 (n : Nat)] 25 := (hr.out.set 0 (.slice va N vc)).set 1 (.int .i64 (n : Nat))
                            have k0 := hK.cell 0
                            have k1 := hK.cell 1
                            simp only [List.getElem?_toArray, List.getElem?_cons_zero, List.getElem?_cons_succ] at k0 k1
                            have HBE := Lib.hid ((HB.out.setCell (p := ⟨w.heap.size, 0, none⟩) (Nat.le_refl _) (.slice va N vc)).setCell (p := ⟨w.heap.size, 1, none⟩) (Nat.le_refl _) (.int .i64 (n : Nat)))
                            have hT1 : listO R = listF mm := by rw [hT2.out]; rfl
                            have hT3 : mostO R = n := by rw [hT2.out]; rfl
                            have hT4 : posO R = 0 := by rw [hT2.out]; rfl
                            have hT5 : errO R = 0 := by rw [hT2.out]; rfl
                            have HOE : Hid (NOwn ((wr.setCell ⟨w.heap.size, 0, none⟩ (.slice va N vc)).setCell ⟨w.heap.size, 1, none⟩ (.int .i64 (n : Nat))) w.heap.size (.slice va N vc) (ofN (listO R))) := by
                              unfold NOwn Hid
                              rw [hT1, ofN_len, HE.out, ← HNN.out]
                              exact World.ownsRow.mono HOS.out (by omega)
                            clear HOS hT1 hK
                            go_wp2_with fail
                            refine bodyPost_ret (v := .tuple #[.agg #[.slice va N vc, .int .i64 (n : Nat)], .int .i64 0, .int .i64 0]) (by simp [results, Tryd.results12, go_sem, k0, k1]) rfl ?_
                            refine ⟨⟨_, ?_, HOE.out⟩, HBE.out⟩
                            rw [hT3, hT4, hT5]; rfl
                      | some P =>
                        rw [show faultI (some P) = (P : Int) from rfl]
                        have hT2 : Hid (R = .arg P) := hT.out
                        have g2 : decide ((P : Int) ≥ 0) = true := decide_eq_true (by omega)
                        clear hT
                        have r0 := HRS.out.cell 0
                        have r1 := HRS.out.cell 1
                        have rf0 := HRS.out.free 0
                        have rf1 := HRS.out.free 1
                        simp only [List.getElem?_toArray, List.getElem?_cons_zero, List.getElem?_cons_succ] at r0 r1
                        have hK : Blk ((w4.setCell ⟨w.heap.size, 0, none⟩ (.slice none 0 0)).setCell ⟨w.heap.size, 1, none⟩ (.int .i64 0)) w.heap.size #[.slice none 0 0, .int .i64 0] 25 := (HRS.out.set 0 (.slice none 0 0)).set 1 (.int .i64 0)
                        have k0 := hK.cell 0
                        have k1 := hK.cell 1
                        simp only [List.getElem?_toArray, List.getElem?_cons_zero, List.getElem?_cons_succ] at k0 k1
                        have HBE := Lib.hid ((HBL.out.setCell (p := ⟨w.heap.size, 0, none⟩) (Nat.le_refl _) (.slice none 0 0)).setCell (p := ⟨w.heap.size, 1, none⟩) (Nat.le_refl _) (.int .i64 0))
                        clear hK
                        go_wp2_with fail
                        refine bodyPost_ret (v := .tuple #[.agg #[.slice none 0 0, .int .i64 0], .int .i64 P, .int .i64 2]) (by simp [results, Tryd.results12, go_sem, k0, k1]) rfl ?_
                        rw [hT2.out]
                        exact ⟨⟨_, rfl, NOwn.none _ _⟩, HBE.out⟩
            · rw [if_neg h37] at HRUN
              have I37 := Lib.hid (ISA.out E hEs 37 37 rfl false (decide_eq_false h37))
              have HFIN : Hid (R = if l.drop E ≠ [] then .txt E else doneV mm fv 0) := HRUN.symm
              clear HRUN h37
              go_wp2_with fail
              refine (I37.out _).mono ?_; rintro e w9 ⟨rfl, hw⟩; replace hw := hw.symm; subst hw
              by_cases hlt : E < s.size
              · have g1 : decide ((E : Int) < s.size) = true := decide_eq_true (by omega)
                have g1n : decide (E < s.size) = true := decide_eq_true hlt
                have hT : Hid (R = .txt E) := by
                  unfold Hid; rw [HFIN.out, if_pos (by intro e; have := congrArg List.length e; rw [List.length_drop, hlen] at this; simp at this; omega)]
                clear HFIN hlt
                have r0 := HRS.out.cell 0
                have r1 := HRS.out.cell 1
                have rf0 := HRS.out.free 0
                have rf1 := HRS.out.free 1
                simp only [List.getElem?_toArray, List.getElem?_cons_zero, List.getElem?_cons_succ] at r0 r1
                have hK : Blk ((w4.setCell ⟨w.heap.size, 0, none⟩ (.slice none 0 0)).setCell ⟨w.heap.size, 1, none⟩ (.int .i64 0)) w.heap.size #[.slice none 0 0, .int .i64 0] 25 := (HRS.out.set 0 (.slice none 0 0)).set 1 (.int .i64 0)
                have k0 := hK.cell 0
                have k1 := hK.cell 1
                simp only [List.getElem?_toArray, List.getElem?_cons_zero, List.getElem?_cons_succ] at k0 k1
                have HBE := Lib.hid ((HBL.out.setCell (p := ⟨w.heap.size, 0, none⟩) (Nat.le_refl _) (.slice none 0 0)).setCell (p := ⟨w.heap.size, 1, none⟩) (Nat.le_refl _) (.int .i64 0))
                clear hK
                go_wp2_with fail
                refine bodyPost_ret (v := .tuple #[.agg #[.slice none 0 0, .int .i64 0], .int .i64 E, .int .i64 60]) (by simp [results, Tryd.results12, go_sem, k0, k1]) rfl ?_
                rw [hT.out]
                exact ⟨⟨_, rfl, NOwn.none _ _⟩, HBE.out⟩
              · have g1 : decide ((E : Int) < s.size) = false := decide_eq_false (by omega)
                have g1n : decide (E < s.size) = false := decide_eq_false hlt
                have hT : Hid (R = doneV mm (fv) 0) := by
                  unfold Hid; rw [HFIN.out, if_neg (by rw [List.drop_of_length_le (by omega)]; simp)]
                clear HFIN hlt
                cases fv with
                | none =>
                  have hT2 : Hid (R = .ok mm 0) := hT.out
                  clear hT
                  have hzx : w.heap.size < w4.heap.size := HRS.out.lt
                  have hgx : g < w4.heap.size := HMK.out.blk.lt
                  have ha0 : Hid (Blk (w4.alloc (.cells #[.slice none 0 0, .int .i64 0] 25)) w4.heap.size #[.slice none 0 0, .int .i64 0] 25) := Blk.new _ _ _
                  have hr0 := Lib.hid (HRS.out.old (.cells #[.slice none 0 0, .int .i64 0] 25))
                  have hm0 : Hid (MkR (w4.alloc (.cells #[.slice none 0 0, .int .i64 0] 25)) g mm) := ⟨HMK.out.blk.old _⟩
                  have hb0 := Lib.hid (HBL.out.alloc (Nat.le_of_lt hzx) (.cells #[.slice none 0 0, .int .i64 0] 25))
                  obtain ⟨B, hBB⟩ : ∃ B, B = w4.heap.size := ⟨_, rfl⟩
                  rw [← hBB] at hzx hgx ha0
                  go_wp2_with fail
                  rw [← hBB]
                  generalize (w4.alloc (.cells #[.slice none 0 0, .int .i64 0] 25)) = W9 at *
                  clear hBB HRS HBL HMK
                  go_loopw [15] (fun i wr => ∃ (j : Nat) (v : Value), j ≤ 1001 ∧ i = .int .i64 j ∧ Hid (wr.ownsRow (B + 1) 3 1 v (listT mm j).length (numsL (ofN (listT mm j)))) ∧ Hid (Blk wr B #[v, .int .i64 0] 25) ∧ Hid (Blk wr w.heap.size #[.slice none 0 0, .int .i64 0] 25) ∧ Hid (MkR wr g mm) ∧ Below w.heap.size w wr) (fun i _ => 1001 - (RowKit.intOf i).toNat)
                  case atStart => exact ⟨0, .slice none 0 0, by omega, rfl, World.ownsRow_nil _ _ _ _, ha0.out, hr0.out, hm0.out, hb0.out⟩
                  case round =>
                    obtain ⟨j, v, hj, rfl, hown, ha, hr, hmk, hB⟩ := hrel
                    have HB := Lib.hid hB
                    obtain ⟨va, vc, rfl⟩ := own_slice hown.out
                    have hsz : B < wr.heap.size := ha.out.lt
                    have hzw : w.heap.size ≤ wr.heap.size := hB.size
                    clear hB ha0 hr0 hm0 hb0
                    by_cases hlt : j < 1001
                    · have g3 : decide ((j : Int) ≤ 1000) = true := decide_eq_true (by omega)
                      have g3n : decide (j ≤ 1000) = true := decide_eq_true (by omega)
                      have hlti : (j : Int) < 1001 := by omega
                      have hmc := hmk.out.cell (i := j) (by omega)
                      have hls := listT_succ mm j
                      have hll := listT_len mm j
                      have a0 := ha.out.cell 0
                      have af := ha.out.free 0
                      simp only [List.getElem?_toArray, List.getElem?_cons_zero] at a0
                      cases hq : mm j
                      · rw [hq] at hmc
                        rw [hq, if_neg (by simp)] at hls
                        have HO : Hid (wr.ownsRow (B + 1) 3 1 (.slice va (listT mm j).length vc) (listT mm (j + 1)).length (numsL (ofN (listT mm (j + 1))))) := by rw [hls]; exact hown.out
                        clear hown hls
                        generalize (listT mm j).length = N at *
                        go_wp2_with fail
                        go_roundw
                        case rel => exact ⟨j + 1, _, hlt, by go_num, HO.out, ha.out, hr.out, hmk.out, HB.out⟩
                        case measure => simp [RowKit.intOf]; omega
                      · rw [hq] at hmc
                        rw [hq, if_pos rfl] at hls
                        have HO := Lib.hid hown.out
                        have HS : Hid (∀ (v' : Value) (w' : World), w'.ownsRow (B + 1) 3 1 v' ((listT mm j).length + 1) (numsL (ofN (listT mm j)) ++ [.int .i64 j]) → w'.ownsRow (B + 1) 3 1 v' (listT mm (j + 1)).length (numsL (ofN (listT mm (j + 1))))) := fun v' w' h => by
                          rw [hls]
                          unfold ofN
                          rw [List.map_append, numsL_app, List.length_append]
                          exact h
                        have HVB := Lib.hid (fun q hq => HO.out.lt q hq)
                        have HN1 : Hid (some B ≠ (Value.slice va (listT mm j).length vc).ownBlock) := fun e => by have := (HVB.out _ e.symm).1; omega
                        have HN0 : Hid (some w.heap.size ≠ (Value.slice va (listT mm j).length vc).ownBlock) := fun e => by have := (HVB.out _ e.symm).1; omega
                        have HNg : Hid (some g ≠ (Value.slice va (listT mm j).length vc).ownBlock) := fun e => by have := (HVB.out _ e.symm).1; omega
                        clear hown hls
                        generalize (listT mm j).length = N at *
                        generalize numsL (ofN (listT mm j)) = fx at *
                        go_wp2_with (at_builtin; refine wpList_append_own_at _ rfl _ _ 23 rfl (B + 1) 3 i0 _ 1 8 Tryd.underlying23 hi iz0 iz1 iz2 rfl (by decide) (.slice va N vc) N _ rfl (World.ownsRow.alloc HO.out _) ⟨wr.heap.size, 0, none⟩ 1 1 [.int .i64 j] rfl rfl (news_alloc _ [.int .i64 j] _) (by simp [Value.oneCell']) (by unfold maxLen; omega) (by omega) (by simp; omega) ?_; intro v4 w5 hown4 hgrow4 _ hat4; obtain ⟨a4, c4, rfl⟩ := own_slice hown4; have ha5 := Blk.grown (ha.out.old (.cells #[.int .i64 j] 3)) hgrow4 HN1.out; have a5 := ha5.cell 0; have f5 := ha5.free 0; simp only [List.getElem?_toArray, List.getElem?_cons_zero] at a5)
                        have hr5 := Blk.grown (hr.out.old (.cells #[.int .i64 j] 3)) hgrow4 HN0.out
                        have hm5 := Blk.grown (hmk.out.blk.old (.cells #[.int .i64 j] 3)) hgrow4 HNg.out
                        have HB5 : Hid (Below w.heap.size w w5) := (HB.out.alloc hzw _).grown hgrow4 (by simp; omega) (fun q hq => by have := (HVB.out q hq).1; omega)
                        have ha6 := Lib.hid (ha5.set 0 (.slice a4 (N + 1) c4))
                        have hr6 := Lib.hid (hr5.other (a := ⟨B, 0, none⟩) (by show w.heap.size ≠ B; omega) (.slice a4 (N + 1) c4))
                        have hm6 : Hid (MkR (w5.setCell ⟨B, 0, none⟩ (.slice a4 (N + 1) c4)) g mm) := ⟨hm5.other (a := ⟨B, 0, none⟩) (by show g ≠ B; omega) _⟩
                        have HB6 := Lib.hid (HB5.out.setCell (p := ⟨B, 0, none⟩) (by show w.heap.size ≤ B; omega) (.slice a4 (N + 1) c4))
                        have HO6 := Lib.hid (HS.out (.slice a4 (N + 1) c4) _ (own_set hown4 (b := B) (o := 0) (by omega) (.slice a4 (N + 1) c4)))
                        clear ha5 hr5 a5 f5 hm5
                        go_roundw
                        case rel => exact ⟨j + 1, .slice a4 (N + 1) c4, hlt, by go_num, HO6.out, ha6.out, hr6.out, hm6.out, HB6.out⟩
                        case measure => simp [RowKit.intOf]; omega
                    · obtain rfl : j = 1001 := by omega
                      have g3 : decide (((1001 : Nat) : Int) ≤ 1000) = false := by decide
                      have HE : Hid (listF mm = listT mm 1001) := rfl
                      have a0 := ha.out.cell 0
                      have a1 := ha.out.cell 1
                      have r0 := hr.out.cell 0
                      have r1 := hr.out.cell 1
                      have rf0 := hr.out.free 0
                      have rf1 := hr.out.free 1
                      simp at a0 a1 r0 r1
                      have HOS := Lib.hid (own_set (own_set hown.out (b := w.heap.size) (o := 0) (by omega) (.slice va (listT mm 1001).length vc)) (b := w.heap.size) (o := 1) (by omega) (.int .i64 0))
                      clear hown
                      obtain ⟨N, hN⟩ : ∃ N, N = (listT mm 1001).length := ⟨_, rfl⟩
                      have HNN := Lib.hid hN
                      rw [← hN] at a0 HOS
                      clear hN
                      have hK : Blk ((wr.setCell ⟨w.heap.size, 0, none⟩ (.slice va N vc)).setCell ⟨w.heap.size, 1, none⟩ (.int .i64 0)) w.heap.size #[.slice va N vc, .int .i64 0] 25 := (hr.out.set 0 (.slice va N vc)).set 1 (.int .i64 0)
                      have k0 := hK.cell 0
                      have k1 := hK.cell 1
                      simp only [List.getElem?_toArray, List.getElem?_cons_zero, List.getElem?_cons_succ] at k0 k1
                      have HBE := Lib.hid ((HB.out.setCell (p := ⟨w.heap.size, 0, none⟩) (Nat.le_refl _) (.slice va N vc)).setCell (p := ⟨w.heap.size, 1, none⟩) (Nat.le_refl _) (.int .i64 0))
                      have hT1 : listO R = listF mm := by rw [hT2.out]; rfl
                      have hT3 : mostO R = 0 := by rw [hT2.out]; rfl
                      have hT4 : posO R = 0 := by rw [hT2.out]; rfl
                      have hT5 : errO R = 0 := by rw [hT2.out]; rfl
                      have HOE : Hid (NOwn ((wr.setCell ⟨w.heap.size, 0, none⟩ (.slice va N vc)).setCell ⟨w.heap.size, 1, none⟩ (.int .i64 0)) w.heap.size (.slice va N vc) (ofN (listO R))) := by
                        unfold NOwn Hid
                        rw [hT1, ofN_len, HE.out, ← HNN.out]
                        exact World.ownsRow.mono HOS.out (by omega)
                      clear HOS hT1 hK
                      go_wp2_with fail
                      refine bodyPost_ret (v := .tuple #[.agg #[.slice va N vc, .int .i64 0], .int .i64 0, .int .i64 0]) (by simp [results, Tryd.results12, go_sem, k0, k1]) rfl ?_
                      refine ⟨⟨_, ?_, HOE.out⟩, HBE.out⟩
                      rw [hT3, hT4, hT5]; rfl
                | some P =>
                  rw [show faultI (some P) = (P : Int) from rfl]
                  have hT2 : Hid (R = .arg P) := hT.out
                  have g2 : decide ((P : Int) ≥ 0) = true := decide_eq_true (by omega)
                  clear hT
                  have r0 := HRS.out.cell 0
                  have r1 := HRS.out.cell 1
                  have rf0 := HRS.out.free 0
                  have rf1 := HRS.out.free 1
                  simp only [List.getElem?_toArray, List.getElem?_cons_zero, List.getElem?_cons_succ] at r0 r1
                  have hK : Blk ((w4.setCell ⟨w.heap.size, 0, none⟩ (.slice none 0 0)).setCell ⟨w.heap.size, 1, none⟩ (.int .i64 0)) w.heap.size #[.slice none 0 0, .int .i64 0] 25 := (HRS.out.set 0 (.slice none 0 0)).set 1 (.int .i64 0)
                  have k0 := hK.cell 0
                  have k1 := hK.cell 1
                  simp only [List.getElem?_toArray, List.getElem?_cons_zero, List.getElem?_cons_succ] at k0 k1
                  have HBE := Lib.hid ((HBL.out.setCell (p := ⟨w.heap.size, 0, none⟩) (Nat.le_refl _) (.slice none 0 0)).setCell (p := ⟨w.heap.size, 1, none⟩) (Nat.le_refl _) (.int .i64 0))
                  clear hK
                  go_wp2_with fail
                  refine bodyPost_ret (v := .tuple #[.agg #[.slice none 0 0, .int .i64 0], .int .i64 P, .int .i64 2]) (by simp [results, Tryd.results12, go_sem, k0, k1]) rfl ?_
                  rw [hT2.out]
                  exact ⟨⟨_, rfl, NOwn.none _ _⟩, HBE.out⟩
end Go.Proofs.YtdhkinknhjpjmaaDoor
