/-
  Matrix.Unify, walked.
-/
import Derived.Test.YtfobapnncjjeiaaGaVX
import Derived.Test.YtfobapnncjjeiaaGaK
namespace Go.Proofs.Ytfobapnncjjeiaa
open Go Go.RowKit Go.Lib
set_option linter.unusedVariables false

theorem URun.le {l0 l : List Ce} {k d : Nat} (h : URun l0 k l d) : d ≤ k ∧ k ≤ l0.length := by
  induction h with
  | zero => exact ⟨Nat.le_refl _, Nat.zero_le _⟩
  | succ k l l' d e hk h hs ih =>
    have : e ≤ 1 := by rcases hs with ⟨rfl, _⟩ | ⟨rfl, _⟩ <;> omega
    exact ⟨by omega, hk⟩
def UnifyPost (m n a : Nat) (own : Nat → Prop) (l : List Ce) (w : World) (e : Ending) (w' : World) : Prop :=
  ∃ l' d, e = .returned (.int .i64 (d : Nat)) ∧ URun l l.length l' d ∧ GM w' m own n (unifyA l' a) (closeG l') ∧ Chg own w w'
set_option maxRecDepth 100000 in
set_option maxHeartbeats 8000000 in
theorem unify_any (m n a : Nat) (own : Nat → Prop) (l : List Ce) (w : World) (h : GM w m own n a l) :
    Calls Try.prog 28 #[.pointer (some ⟨m, 0, none⟩)] w (UnifyPost m n a own l w) := by
  have HOK := Lib.hid h.ok
  have hlen := h.ok.len
  have ha16 := h.a16
  have CL := Lib.hid (cells_any m n a own l w h.gn)
  have HG := Lib.hid h.gn
  clear h
  go_enter Try.func28, Try.ntmps28
  go_wp2_with fail
  refine CL.out.mono ?_; rintro e w1 ⟨⟨vS, rfl, hS⟩, b1⟩
  have HB1 := Lib.hid b1
  have HSB : Hid (∀ g, vS.ownBlock = some g → w.heap.size ≤ g ∧ g < w1.heap.size) := fun g hg => ⟨by
    obtain ⟨_, ⟨h1, _⟩ | ⟨g', cap, cur, h1, h2, _⟩⟩ := hS
    · rw [h1] at hg; cases hg
    · rw [h1] at hg
      have : g' = g := by simpa [Value.ownBlock] using hg
      omega, (hS.lt g hg).2⟩
  obtain ⟨os, hos⟩ : ∃ os : Nat → Prop, os = fun k => own k ∧ vS.ownBlock ≠ some k := ⟨_, rfl⟩
  have HOS : Hid (∀ k, os k → own k) := fun k hk => by rw [hos] at hk; exact hk.1
  have HVS : Hid (∀ k, vS.ownBlock = some k → ¬ os k) := fun k hk h => by rw [hos] at h; exact h.2 hk
  have HG1 : Hid (GN w1 m os n a l) := by
    obtain ⟨v, W, q1, q2⟩ := HG.out
    have q := q1.kept b1
    refine ⟨v, W, ⟨q.gb, q.row, ?_, fun k hk => ?_, fun g hg => ?_⟩, q2⟩
    · rw [hos]; exact ⟨q1.bown, fun e => by have := (HSB.out m e).1; have := q1.gb.lt; omega⟩
    · rw [hos]; exact ⟨q1.new k (Nat.le_trans b1.size hk), fun e => by have := (HSB.out k e).2; omega⟩
    · rw [hos]; exact ⟨⟨(q1.ob g hg).1, fun e => by have := (HSB.out g e).1; have := (q1.row.lt g hg).2; omega⟩, (q1.ob g hg).2⟩
  have hS0 : COwn w1 0 vS l := by
    obtain ⟨h1, ⟨h2, h3⟩ | ⟨g', cap, cur, h2, h3, h4⟩⟩ := hS
    · exact ⟨h1, .inl ⟨h2, h3⟩⟩
    · exact ⟨h1, .inr ⟨g', cap, cur, h2, Nat.zero_le _, h4⟩⟩
  have HS0 := Lib.hid hS0
  obtain ⟨va, vc, rfl⟩ := own_slice hS
  obtain ⟨LL, hLL⟩ : ∃ n, n = l.length := ⟨_, rfl⟩
  have HLL := Lib.hid hLL
  rw [← hLL] at HS0 HVS hlen ⊢
  clear hS hS0 b1 hos hLL CL HSB
  go_wp2_with fail
  go_loopw [12, 3] (fun iv mv wr => ∃ (k d : Nat) (l' : List Ce), k ≤ LL ∧ d ≤ k ∧ iv = .int .i64 k ∧ mv = .int .i64 d ∧ Hid (URun l k l' d) ∧ Hid (GN wr m os n a l') ∧ Hid (COwn wr 0 (.slice va LL vc) l) ∧ Hid (Chg own w wr)) (fun iv _ _ => LL - (RowKit.intOf iv).toNat)
  case atStart => exact ⟨0, 0, l, Nat.zero_le _, Nat.le_refl _, rfl, rfl, .zero, HG1.out, HS0.out, Chg.of_below HB1.out⟩
  case round =>
    obtain ⟨k, d, l', hk, hdk, rfl, rfl, HU, HGr, HSr, HC⟩ := hrel
    by_cases hlt : k < LL
    · have hd : decide (k < LL) = true := decide_eq_true hlt
      have hkl : k < l.length := by rw [← HLL.out]; exact hlt
      have hki : (k : Int) < (LL : Int) := by omega
      have hcr := crow_of_own HSr.out
      cases va with
      | none => have := CRow.nil hcr; rw [this] at hkl; simp at hkl
      | some AD =>
      obtain ⟨bb, off, rfl⟩ := CRow.addr hcr (by omega)
      obtain ⟨x0, x1, x2, x3⟩ := hcr.cells hkl (Below.refl _ _)
      have hce := HOK.out.ce l[k] (List.getElem_mem hkl)
      have hinv := HU.out.inv HOK.out
      have hmem := hinv.rest k hkl (Nat.le_refl _)
      have HSTEP : Hid (∀ l'' e, UStep l' l[k] l'' e → URun l (k + 1) l'' (d + e)) := fun l'' e hs => .succ k l' l'' d e hkl HU.out hs
      obtain ⟨c, hc⟩ : ∃ c, c = l[k] := ⟨_, rfl⟩
      rw [← hc] at x0 x1 x2 x3 hce hmem HSTEP
      obtain ⟨id, r, s, o⟩ := c
      dsimp only at x0 x1 x2 x3
      have hr16 : r < 16 := hce.row
      have HCE := Lib.hid hce
      have HMEM := Lib.hid hmem
      have HOK' := Lib.hid hinv.ok
      obtain ⟨gc, hgc⟩ : ∃ g, g = wr.heap.size := ⟨_, rfl⟩
      obtain ⟨Xc, hXc⟩ : ∃ x, x = wr.alloc (.cells #[.int .u32 (id : Nat), .int .i64 (r : Nat), .int .i64 (s : Nat), .int .i64 (o : Nat)] 48) := ⟨_, rfl⟩
      have hbc : Below wr.heap.size wr Xc := by rw [hXc]; exact (Below.refl _ _).alloc (Nat.le_refl _) _
      have HCB : Hid (Blk Xc gc #[.int .u32 (id : Nat), .int .i64 (r : Nat), .int .i64 (s : Nat), .int .i64 (o : Nat)] 48) := by unfold Hid; rw [hXc, hgc]; exact Blk.new wr _ _
      obtain ⟨oc, hoc⟩ : ∃ oc : Nat → Prop, oc = fun k => os k ∧ k ≠ gc := ⟨_, rfl⟩
      have HOC : Hid (∀ k, oc k → os k) := fun k hk => by rw [hoc] at hk; exact hk.1
      have HNC : Hid (¬ oc gc) := by unfold Hid; rw [hoc]; exact fun h => h.2 rfl
      have HGc : Hid (GN Xc m oc n a l') := by unfold Hid; rw [hXc, hoc, hgc]; exact HGr.out.boxed _
      have HRc : Hid (COwn Xc 0 (.slice (some ⟨bb, off, none⟩) LL vc) l) := own_older HSr.out hbc
      have HCc : Hid (Chg own w Xc) := HC.out.trans (Chg.of_below hbc)
      clear hcr hce hmem hinv hc hbc hoc HGr HSr HC hkl HU
      go_upto_region 7 with fail
      rw [← hgc, ← hXc]
      clear hgc hXc x0 x1 x2 x3
      have b1 := HCB.out.cell 1
      simp at b1
      go_wp2_with fail
      clear hki hd b1
      go_loopw [18, 3] (fun rv mv wr => ∃ q : Nat, q ≤ r ∧ rv = .int .i64 q ∧ mv = .int .i64 d ∧ Hid (∀ q', q' < q → ¬ FreeG l' q' s o) ∧ Hid (Below Xc.heap.size Xc wr)) (fun rv _ _ => r - (RowKit.intOf rv).toNat)
      case atStart => exact ⟨0, Nat.zero_le _, rfl, rfl, fun q' h => absurd h (Nat.not_lt_zero _), Below.refl _ _⟩
      case round =>
        obtain ⟨q, hq, rfl, rfl, HN, HB⟩ := hrel
        by_cases hqr : q < r
        · have d1 : decide ((q : Int) < (r : Int)) = true := decide_eq_true (by omega)
          have d1' : decide (q < r) = true := decide_eq_true hqr
          have hqi : (q : Int) < 16 := by omega
          have HCw := Lib.hid (HCB.out.kept HB.out)
          have HGw := Lib.hid (HGc.out.kept HB.out)
          have HRw := Lib.hid (own_older HRc.out HB.out)
          have HChw := Lib.hid (HCc.out.trans (Chg.of_below HB.out))
          have FR : Hid (∀ w', Below wr.heap.size wr w' → Calls Try.prog 36 #[.pointer (some ⟨m, 3 + q * 16, none⟩), .agg #[.int .i64 (s : Nat), .int .i64 (o : Nat)]] w' fun e w'' => ∃ f : Bool, e = .returned (.bool f) ∧ (f = true ↔ FreeG l' q s o) ∧ Below w'.heap.size w' w'') := fun w' hb =>
            rowFree_any m n a q s o oc l' w' (HGw.out.kept hb) (by omega) HCE.out.ord HCE.out.al HCE.out.en
          have b0 := HCw.out.cell 0
          have b1 := HCw.out.cell 1
          have b2 := HCw.out.cell 2
          have b3 := HCw.out.cell 3
          simp at b0 b1 b2 b3
          go_upto_region 10 with fail
          go_cut [28] (fun fv wx => ∃ f : Bool, fv = .bool f ∧ Hid (f = true ↔ FreeG l' q s o) ∧ Hid (Below wr.heap.size wr wx))
          case first =>
            go_region_held3 (fun w' => w'.cell? ⟨gc, 2, none⟩ = some (.int .i64 (s : Nat)) ∧ w'.cell? ⟨gc, 3, none⟩ = some (.int .i64 (o : Nat)) ∧ Below wr.heap.size wr w')
              (first
                | exact ⟨b2, b3, (Below.refl _ _).drew⟩
                | (rcases ‹_ ∧ _ ∧ Below _ _ _› with ⟨g0, g1, g2⟩; exact ⟨cell_next (by assumption) g0, cell_next (by assumption) g1, below_next (by assumption) g2⟩))
              (first
                | (go_at_call 36; ((with_reducible refine (FR.out _ (‹_ ∧ _ ∧ Below wr.heap.size wr _›).2.2).mono ?_); rintro e w5 ⟨ff, rfl, hff, b5⟩)))
            all_goals (go_wp2_with fail)
            all_goals go_meet
            all_goals (exact ⟨ff, rfl, hff, (‹_ ∧ _ ∧ Below wr.heap.size wr _›).2.2⟩)
          case rest =>
            obtain ⟨f, rfl, hff, HBf⟩ := hcut
            obtain ⟨w4, hw4⟩ : ∃ x, x = wc := ⟨_, rfl⟩
            subst hw4
            clear FR b0 b1 b2 b3
            cases f with
            | true =>
              have HFR := Lib.hid (hff.out.1 rfl)
              have HC4 := Lib.hid (HCw.out.kept HBf.out)
              have HG4 := Lib.hid (HGw.out.kept HBf.out)
              have HR4 := Lib.hid (own_older HRw.out HBf.out)
              have HCh4 := Lib.hid (HChw.out.trans (Chg.of_below HBf.out))
              obtain ⟨b0, b1, b2, b3, _, _, _, _⟩ := c4_of HC4.out
              have FD := Lib.hid (gfind_any m n a id oc l' w4 HG4.out)
              clear hff HCw HGw HRw HChw HBf HB HGc HRc HCc HCB
              go_wp2_with fail
              refine FD.out.mono ?_; rintro e w5 ⟨⟨rr, rfl, hf⟩, b5⟩
              clear FD b0 b1 b2 b3
              obtain ⟨kk, rfl⟩ : ∃ kk, rr = some kk := by
                rcases hf with ⟨_, h⟩ | ⟨kk, _, h, _⟩
                · exact absurd rfl (h _ HMEM.out)
                · exact ⟨kk, h⟩
              rw [show optF (some kk) = (kk : Int) from rfl]
              obtain ⟨⟨hkk, hke⟩, hce2, hfe, hide, hoke⟩ := ustep_facts HOK'.out HMEM.out hqr HFR.out hf
              have HUS : Hid (UStep l' (id, r, s, o) (insG (l'.eraseIdx kk) (id, q, s, o)) 1) := .inr ⟨rfl, q, kk, hqr, HFR.out, HN.out, hf, rfl⟩
              have HC5 := Lib.hid (HC4.out.kept b5)
              have HR5 := Lib.hid (own_older HR4.out b5)
              have HCh5 := Lib.hid (HCh4.out.trans (Chg.of_below b5))
              have DR := Lib.hid (gdrop_any m n a kk oc l' w5 (HG4.out.kept b5) hkk)
              have HX : Hid (CeOk n (id, q, s, o) ∧ FreeG (l'.eraseIdx kk) q s o ∧ ∀ d ∈ l'.eraseIdx kk, d.1 ≠ id) := ⟨hce2, hfe, hide⟩
              clear hf hkk hke hce2 hfe hide hoke b5 HC4 HG4 HR4 HCh4
              go_wp2_with fail
              refine DR.out.mono ?_; rintro e w6 ⟨rfl, hg6, hc6⟩
              have HC6 := Lib.hid (HC5.out.chgC hc6 HNC.out)
              have HR6 := Lib.hid (own_chg HR5.out hc6 (fun g hg h => HVS.out g hg (HOC.out g h)))
              have HCh6 := Lib.hid (HCh5.out.trans (hc6.weak fun g h => HOS.out g (HOC.out g h)))
              have AD := Lib.hid (gadd_any m n a oc (l'.eraseIdx kk) (id, q, s, o) w6 hg6 HX.out.1 HX.out.2.1 HX.out.2.2)
              unfold ceA at AD
              dsimp only at AD
              obtain ⟨b0, b1, b2, b3, _, _, _, _⟩ := c4_of HC6.out
              clear hg6 hc6 DR HC5 HR5 HCh5
              go_wp2_with fail
              refine AD.out.mono ?_; rintro e w7 ⟨rfl, hg7, hc7⟩
              have HG7 : Hid (GN w7 m os n a (insG (l'.eraseIdx kk) (id, q, s, o))) := hg7.wider HOC.out
              have HR7 := Lib.hid (own_chg HR6.out hc7 (fun g hg h => HVS.out g hg (HOC.out g h)))
              have HCh7 := Lib.hid (HCh6.out.trans (hc7.weak fun g h => HOS.out g (HOC.out g h)))
              have HU7 := Lib.hid (HSTEP.out _ _ HUS.out)
              have hdi : d + 1 ≤ 20000 := by omega
              clear hg7 hc7 AD b0 b1 b2 b3 HC6 HR6 HCh6 HX HUS HN HFR HSTEP
              go_wp2_with fail
              go_roundw
              case rel => exact ⟨k + 1, d + 1, _, hlt, by omega, by go_num, by go_num, HU7, HG7, HR7, HCh7⟩
              case measure => simp [RowKit.intOf]; omega
            | false =>
              have HNY : Hid (∀ q', q' < q + 1 → ¬ FreeG l' q' s o) := fun q' h => by
                rcases Nat.lt_or_ge q' q with h1 | h1
                · exact HN.out q' h1
                · obtain rfl : q' = q := by omega
                  exact fun hf => by have := hff.out.2 hf; cases this
              have HB2 : Hid (Below Xc.heap.size Xc w4) := below_next HBf.out HB.out
              clear hff HCw HGw HRw HChw HBf HB
              go_wp2_with fail
              go_roundw
              case rel => exact ⟨q + 1, hqr, by go_num, rfl, HNY, HB2⟩
              case measure => simp [RowKit.intOf]; omega
        · have d1 : decide ((q : Int) < (r : Int)) = false := decide_eq_false (by omega)
          have d1' : decide (q < r) = false := decide_eq_false hqr
          have HUS : Hid (UStep l' (id, r, s, o) l' 0) := .inl ⟨rfl, rfl, fun q' h => HN.out q' (by have : q' < r := h; omega)⟩
          have HU7 := Lib.hid (HSTEP.out _ _ HUS.out)
          have HG7 : Hid (GN wr m os n a l') := (HGc.out.kept HB.out).wider HOC.out
          have HR7 := Lib.hid (own_older HRc.out HB.out)
          have HCh7 := Lib.hid (HCc.out.trans (Chg.of_below HB.out))
          clear HN HB HGc HRc HCc HCB HSTEP HUS
          go_wp2_with fail
          go_roundw
          case rel => exact ⟨k + 1, d, _, hlt, by omega, by go_num, rfl, HU7, HG7, HR7, HCh7⟩
          case measure => simp [RowKit.intOf]; omega
    · have hd : decide (k < LL) = false := decide_eq_false hlt
      have hkl : k = l.length := by have := HLL.out; omega
      have HUE : Hid (URun l l.length l' d) := by have := HU.out; rw [hkl] at this; exact this
      have CU := Lib.hid (closeUp_any m n a os l' wr HGr.out (by omega))
      clear HU HGr HSr HS0 hkl
      go_wp2_with fail
      refine CU.out.mono ?_; rintro e w9 ⟨rfl, hg9, hc9⟩
      have HG9 : Hid (GM w9 m own n (unifyA l' a) (closeG l')) := hg9.wider HOS.out
      have HC9 := Lib.hid (HC.out.trans (hc9.weak HOS.out))
      clear hg9 hc9 CU
      go_wp2_with fail
      go_ret
      exact ⟨l', d, rfl, HUE.out, HG9.out, HC9.out⟩
end Go.Proofs.Ytfobapnncjjeiaa
