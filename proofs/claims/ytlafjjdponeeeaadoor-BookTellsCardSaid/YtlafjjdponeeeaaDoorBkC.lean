/-
  book.Line: at any charge.
-/
import Derived.Test.YtlafjjdponeeeaaDoorBkB
import Derived.Deep.RegionHeld3
import Derived.Deep.RegionLaw
namespace Go.Proofs.YtlafjjdponeeeaaDoor
open Go Go.RowKit Go.Lib
set_option linter.unusedVariables false

def lineR (c : Chg) : ByteArray × Int := if okCh c = true then (⟨(lineT c).toArray⟩, 0) else (⟨#[]⟩, 200)
def howS (h : Int) : ByteArray := ⟨(howT h).toArray⟩
theorem join_five (a b c d e : Bs) : Lib.join [a, b, c, d, e] [32] = a ++ 32 :: (b ++ 32 :: (c ++ 32 :: (d ++ 32 :: e))) := by
  simp [Lib.join, List.intercalate, List.intersperse]
theorem count_width (s : ByteArray) : ∀ (f pos : Nat), s.size ≤ pos + f → s.size ≤ pos + 4 * runeCountFrom s f pos
  | 0, pos, h => by unfold runeCountFrom; omega
  | f + 1, pos, h => by
    unfold runeCountFrom
    by_cases hp : pos < s.size
    · rw [if_pos hp]
      have hw := width_pos s pos
      have h4 := (dn_cont (n := s.size - pos) (b0 := byN s pos) (b1 := byN s (pos + 1)) (b2 := byN s (pos + 2)) (b3 := byN s (pos + 3))).2.2.2
      rw [← rune_at] at h4
      have := count_width s f (pos + (Utf8.decode s pos).2) (by omega)
      omega
    · omega
theorem name_len {s : ByteArray} (h : nameB s = true) : s.size ≤ 128 := by
  unfold nameB at h
  simp only [Bool.and_eq_true, decide_eq_true_eq] at h
  have := count_width s s.size 0 (by omega)
  have h2 : runeCountFrom s s.size 0 = runeCount s := rfl
  omega
theorem howT_len (h : Int) : (howT h).length ≤ 9 := by
  unfold howT
  repeat' split
  all_goals decide
theorem digS_data (n : Nat) : (digS n).data.toList = Lib.decDigits n := by unfold digS; simp
theorem hows_0 (W : World) : (Instr.index 52 (.agg howVs) (.int .i64 0)).run Tryd.prog W = .ok (.string (howS 0)) W := by kernel_rfl
theorem hows_5 (W : World) : (Instr.index 52 (.agg howVs) (.int .i64 5)).run Tryd.prog W = .ok (.string (howS 5)) W := by kernel_rfl
theorem hows_6 (W : World) : (Instr.index 52 (.agg howVs) (.int .i64 6)).run Tryd.prog W = .ok (.string (howS 6)) W := by kernel_rfl
theorem hows_7 (W : World) : (Instr.index 52 (.agg howVs) (.int .i64 7)).run Tryd.prog W = .ok (.string (howS 7)) W := by kernel_rfl
theorem hows_8 (W : World) : (Instr.index 52 (.agg howVs) (.int .i64 8)).run Tryd.prog W = .ok (.string (howS 8)) W := by kernel_rfl
theorem hows_idx (how : Int) (h : how = 0 ∨ (5 ≤ how ∧ how ≤ 8)) (W : World) : (Instr.index 52 (.agg howVs) (.int .i64 how)).run Tryd.prog W = .ok (.string (howS how)) W := by
  have : how = 0 ∨ how = 5 ∨ how = 6 ∨ how = 7 ∨ how = 8 := by omega
  rcases this with rfl | rfl | rfl | rfl | rfl
  · exact hows_0 W
  · exact hows_5 W
  · exact hows_6 W
  · exact hows_7 W
  · exact hows_8 W
set_option maxRecDepth 100000 in
set_option maxHeartbeats 8000000 in
theorem lineBk_any (c : Chg) (w : World) (hw : ChWf c) (hE : EnvB w) :
    Calls Tryd.prog 9 #[chV c] w fun e w' => e = .returned (.tuple #[.string (lineR c).1, .int .i64 (lineR c).2]) ∧ Below w.heap.size w w' := by
  have HV : Hid (∀ w', Below w.heap.size w w' → Calls Tryd.prog 19 #[chV c] w' fun e w'' => e = .returned (.bool (okCh c)) ∧ Below w'.heap.size w' w'') := fun w' hb => isValid_any c w' hw (hE.u8.next hb)
  have hr0 : Hid (okCh c = false → lineR c = (⟨#[]⟩, 200)) := fun h => by unfold lineR; rw [h]; rfl
  have hr1 : Hid (okCh c = true → lineR c = (⟨(lineT c).toArray⟩, 0)) := fun h => by unfold lineR; rw [h]; rfl
  have hP : Hid (okCh c = true → c.id ≠ 0 ∧ (1 ≤ c.wk ∧ c.wk ≤ 1024) ∧ (0 ≤ c.sc ∧ c.sc ≤ 1073741824) ∧ (0 ≤ c.ax ∧ c.ax ≤ 1099511627776) ∧ (c.how = 0 ∨ (5 ≤ c.how ∧ c.how ≤ 8)) ∧ nameB c.acct = true) := ok_parts
  have hC := Lib.hid (Blk.new w (chCs c) 24)
  have B0 := Lib.hid ((Below.refl w.heap.size w).alloc (Nat.le_refl _) (.cells (chCs c) 24))
  have HE := Lib.hid hE
  have id0 := hw.id0
  have id1 := hw.id1
  obtain ⟨R1, R2, hR⟩ : ∃ a b, lineR c = (a, b) := ⟨_, _, rfl⟩
  rw [hR] at hr0 hr1 ⊢
  dsimp only
  obtain ⟨gC, hgC⟩ : ∃ g, g = w.heap.size := ⟨_, rfl⟩
  rw [← hgC] at hC
  have hgw : w.heap.size ≤ gC := by omega
  have HV0 := Lib.hid (HV.out _ B0.out)
  obtain ⟨id, acct, wk, sc, how, ax⟩ := c
  dsimp only at *
  clear hE hw HV hR
  go_enter Tryd.func9, Tryd.ntmps9
  go_upto_region 1 with fail
  rw [← hgC]
  generalize w.alloc (.cells #[.int .u32 id, .string acct, .int .i64 wk, .int .i64 sc, .int .i64 how, .int .i64 ax] 24) = W0 at *
  clear hgC
  obtain ⟨c0, c1, c2, c3, c4, c5⟩ := ch0 (c := ⟨id, acct, wk, sc, how, ax⟩) hC.out
  dsimp only at c0 c1 c2 c3 c4 c5
  go_wp2_with fail
  refine HV0.out.mono ?_; rintro e w1 ⟨rfl, b1⟩
  have hC1 := Lib.hid (hC.out.kept b1)
  have B1 := Lib.hid (below_next b1 B0.out)
  clear c0 c1 c2 c3 c4 c5 b1 hC B0 HV0
  generalize hok : okCh ⟨id, acct, wk, sc, how, ax⟩ = ok at *
  cases ok
  · have hr := Lib.hid (hr0.out rfl)
    clear hr0 hr1 hok hP hC1 id0 id1
    go_wp2_with fail
    go_ret2
    obtain ⟨rfl, rfl⟩ := Prod.mk.inj hr.out
    exact ⟨rfl, B1.out⟩
  · obtain ⟨rfl, rfl⟩ := Prod.mk.inj (hr1.out rfl)
    obtain ⟨p1, ⟨p2, p3⟩, ⟨p4, p5⟩, ⟨p6, p7⟩, p8, p9⟩ := hP.out rfl
    obtain ⟨nid, rfl⟩ := Int.eq_ofNat_of_zero_le id0
    obtain ⟨nwk, rfl⟩ := Int.eq_ofNat_of_zero_le (show 0 ≤ wk by omega)
    obtain ⟨nsc, rfl⟩ := Int.eq_ofNat_of_zero_le p4
    obtain ⟨nax, rfl⟩ := Int.eq_ofNat_of_zero_le p6
    have hnl := name_len p9
    have HID : Hid (∀ w', Below w.heap.size w w' → Calls Tryd.prog 20 #[.int .u64 nid, .int .i64 10] w' fun e w'' => e = .returned (.string (digS nid)) ∧ Below w'.heap.size w' w'') := fun w' hb => fmtU_any nid w' (by omega) (HE.out.tab.next hb)
    have HWK : Hid (∀ w', Below w.heap.size w w' → Calls Tryd.prog 21 #[.int .i64 nwk] w' fun e w'' => e = .returned (.string (digS nwk)) ∧ Below w'.heap.size w' w'') := fun w' hb => itoa_tab nwk w' (by omega) (HE.out.tab.next hb)
    have HSC : Hid (∀ w', Below w.heap.size w w' → Calls Tryd.prog 21 #[.int .i64 nsc] w' fun e w'' => e = .returned (.string (digS nsc)) ∧ Below w'.heap.size w' w'') := fun w' hb => itoa_tab nsc w' (by omega) (HE.out.tab.next hb)
    have HAX : Hid (∀ w', Below w.heap.size w w' → Calls Tryd.prog 21 #[.int .i64 nax] w' fun e w'' => e = .returned (.string (digS nax)) ∧ Below w'.heap.size w' w'') := fun w' hb => itoa_tab nax w' (by omega) (HE.out.tab.next hb)
    clear hr0 hr1 hok hP HE
    obtain ⟨c0, c1, c2, c3, c4, c5⟩ := ch0 (c := ⟨nid, acct, nwk, nsc, how, nax⟩) hC1.out
    dsimp only at c0 c1 c2 c3 c4 c5
    have hid64 : (nid : Int) ≤ 18446744073709551615 := by omega
    have s1 : (digS nid).size ≤ 19 := digS_size (by omega)
    have s2 : (digS nwk).size ≤ 19 := digS_size (by omega)
    have s3 : (digS nsc).size ≤ 19 := digS_size (by omega)
    have s4 : (digS nax).size ≤ 19 := digS_size (by omega)
    have HID1 := Lib.hid (HID.out _ B1.out)
    clear HID
    go_wp2_with fail
    refine HID1.out.mono ?_; rintro e w2 ⟨rfl, b2⟩
    have hC2 := Lib.hid (hC1.out.kept b2)
    have B2 := Lib.hid (below_next b2 B1.out)
    clear c0 c1 c2 c3 c4 c5 b2 hC1 B1 HID1
    obtain ⟨c0, c1, c2, c3, c4, c5⟩ := ch0 (c := ⟨nid, acct, nwk, nsc, how, nax⟩) hC2.out
    dsimp only at c0 c1 c2 c3 c4 c5
    go_upto_region 4 with fail
    go_cut [5] (fun v wx => v = .string (digS nwk ++ ⟨#[120]⟩ ++ digS nsc) ∧ ∃ wq, wq = wx ∧ Below w2.heap.size w2 wq)
    case first =>
      have HS : Hid (∀ w', Below w2.heap.size w2 w' → w'.cell? ⟨gC, 2, none⟩ = some (.int .i64 (nwk : Nat)) ∧ w'.cell? ⟨gC, 3, none⟩ = some (.int .i64 (nsc : Nat)) ∧ Below w2.heap.size w2 w') := fun w' hb => ⟨cell_next hb c2, cell_next hb c3, hb⟩
      have HW2 : Hid (∀ w', Below w2.heap.size w2 w' → Below w.heap.size w w') := fun w' hb => below_next hb B2.out
      have hBd : Below w2.heap.size w2 w2.drew := (Below.refl _ _).drew
      have q1 : ¬ (9223372036854775807 < (digS nwk).size + 1) := by omega
      have q2 : ¬ (9223372036854775807 < (digS nwk).size + 1 + (digS nsc).size) := by omega
      clear hC2 HAX p8 p9 hgw c0 c1 c4 c5
      go_region_held3 (fun w' => w'.cell? ⟨gC, 2, none⟩ = some (.int .i64 (nwk : Nat)) ∧ w'.cell? ⟨gC, 3, none⟩ = some (.int .i64 (nsc : Nat)) ∧ Below w2.heap.size w2 w')
        (first
          | exact HS.out _ hBd
          | (rcases ‹_ ∧ _ ∧ Below w2.heap.size _ _› with ⟨_, _, s6⟩; exact HS.out _ (below_next (by assumption) s6)))
        (first
          | (go_at_call 21; ((with_reducible refine (HWK.out _ (HW2.out _ (‹_ ∧ _ ∧ Below w2.heap.size _ _›).2.2)).mono ?_); rintro e w3 ⟨rfl, b3⟩))
          | (go_at_call 21; ((with_reducible refine (HSC.out _ (HW2.out _ (‹_ ∧ _ ∧ Below w2.heap.size _ _›).2.2)).mono ?_); rintro e w3 ⟨rfl, b3⟩)))
      all_goals
        have e9 := (‹_ ∧ _ ∧ Below w2.heap.size _ _›).2.2
        go_wp2_with fail
        go_meet
        case rel => exact ⟨rfl, _, rfl, e9⟩
    case rest =>
      obtain ⟨rfl, wq, hwq, bq⟩ := hcut
      subst hwq
      have hC3 := Lib.hid (hC2.out.kept bq)
      have B3 := Lib.hid (below_next bq B2.out)
      clear c0 c1 c2 c3 c4 c5 bq hC2 B2 HWK HSC
      obtain ⟨c0, c1, c2, c3, c4, c5⟩ := ch0 (c := ⟨nid, acct, nwk, nsc, how, nax⟩) hC3.out
      dsimp only at c0 c1 c2 c3 c4 c5
      obtain ⟨txt, htxt⟩ : ∃ t, t = digS nwk ++ ⟨#[120]⟩ ++ digS nsc := ⟨_, rfl⟩
      rw [← htxt]
      have hidx : ∀ W : World, (Instr.index 52 (.agg howVs) (.int .i64 how)).run Tryd.prog W = .ok (.string (howS how)) W := hows_idx how p8
      have HJ : Hid (∀ (W : World) (b : Nat), W.cell? ⟨b, 0, none⟩ = some (.string (digS nid)) → W.cell? ⟨b, 1, none⟩ = some (.string acct) → W.cell? ⟨b, 2, none⟩ = some (.string txt) → W.cell? ⟨b, 3, none⟩ = some (.string (howS how)) → W.cell? ⟨b, 4, none⟩ = some (.string (digS nax)) → b < W.heap.size →
          Calls Tryd.prog 22 #[.slice (some ⟨b, 0, none⟩) 5 5, .string ⟨#[32]⟩] W fun e w' => e = .returned (.string ⟨(lineT ⟨nid, acct, nwk, nsc, how, nax⟩).toArray⟩) ∧ Below W.heap.size W w') := fun W b h0 h1 h2 h3 h4 hb => by
        have hl := Tryd.strings_Join b 0 5 [digS nid, acct, txt, howS how, digS nax] ⟨#[32]⟩ W (fun j x hj => by
          have hjl : j < 5 := by
            by_cases q : j < 5
            · exact q
            · rw [List.getElem?_eq_none (by simpa using (by omega : 5 ≤ j))] at hj; cases hj
          have : j = 0 ∨ j = 1 ∨ j = 2 ∨ j = 3 ∨ j = 4 := by omega
          rcases this with rfl | rfl | rfl | rfl | rfl <;> (simp at hj; subst hj; rw [Nat.zero_add]; assumption)) hb (by simp) (by simp) (by
            rw [List.map_cons, List.map_cons, List.map_cons, List.map_cons, List.map_cons, List.map_nil]
            show (Lib.join _ [32]).length ≤ _
            rw [join_five]
            have := howT_len how
            have ht : txt.data.toList.length ≤ 50 := by
              rw [sl_size, htxt]
              simp only [ByteArray.size_append]
              show (digS nwk).size + 1 + (digS nsc).size ≤ 50
              omega
            have h5 : (howS how).data.toList = howT how := by unfold howS; simp
            simp only [List.length_append, List.length_cons, sl_size, h5] at ht ⊢
            omega)
        refine hl.mono ?_
        rintro e w' ⟨rfl, hB⟩
        refine ⟨?_, hB⟩
        congr 3
        rw [List.map_cons, List.map_cons, List.map_cons, List.map_cons, List.map_cons, List.map_nil]
        show (Lib.join _ [32]).toArray = _
        rw [join_five, digS_data, digS_data, htxt]
        unfold lineT howS
        simp [digS_data]
      clear htxt
      have HS : Hid (∀ w', Below wq.heap.size wq w' → w'.cell? ⟨gC, 1, none⟩ = some (.string acct) ∧ w'.cell? ⟨gC, 4, none⟩ = some (.int .i64 how) ∧ w'.cell? ⟨gC, 5, none⟩ = some (.int .i64 (nax : Nat)) ∧ Below wq.heap.size wq w') := fun w' hb => ⟨cell_next hb c1, cell_next hb c4, cell_next hb c5, hb⟩
      have HW2 : Hid (∀ w', Below wq.heap.size wq w' → Below w.heap.size w w') := fun w' hb => below_next hb B3.out
      have hBd : Below wq.heap.size wq wq.drew := (Below.refl _ _).drew
      clear hC3 p8 hgw c0 c2 c3
      generalize howS how = hs at *
      go_upto_region 5 with fail
      go_region_held3 (fun w' => w'.cell? ⟨gC, 1, none⟩ = some (.string acct) ∧ w'.cell? ⟨gC, 4, none⟩ = some (.int .i64 how) ∧ w'.cell? ⟨gC, 5, none⟩ = some (.int .i64 (nax : Nat)) ∧ Below wq.heap.size wq w')
        (first
          | exact HS.out _ hBd
          | (rcases ‹_ ∧ _ ∧ _ ∧ Below wq.heap.size _ _› with ⟨_, _, _, s6⟩; exact HS.out _ (below_next (by assumption) s6))
          | (rcases ‹_ ∧ _ ∧ _ ∧ Below wq.heap.size _ _› with ⟨_, _, _, s6⟩; exact HS.out _ (s6.alloc s6.size _))
          | assumption)
        (first
          | (go_at_call 23; ((with_reducible refine (hows_any _).mono ?_); rintro e w3 ⟨rfl, b3⟩))
          | (go_at_call 21; ((with_reducible refine (HAX.out _ (HW2.out _ (‹_ ∧ _ ∧ _ ∧ Below wq.heap.size _ _›).2.2.2)).mono ?_); rintro e w4 ⟨rfl, b4⟩))
          | (go_at_call 22; ((refine (HJ.out _ _ (by simp) (by simp) (by simp) (by simp) (by simp) (by simp)).mono ?_); rintro e w5 ⟨rfl, b5⟩)))
      all_goals
        have e9 := (‹_ ∧ _ ∧ _ ∧ Below wq.heap.size _ w5›).2.2.2
        have HB := Lib.hid (HW2.out _ e9)
        clear e9
        go_wp2_with fail
        go_returns
        exact ⟨rfl, HB.out⟩
end Go.Proofs.YtlafjjdponeeeaaDoor
