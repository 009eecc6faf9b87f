/-
  SpoolPlays: whatever is called, the spool and gangerref18's answer alike: so the law returns true for every input.
-/
import Derived.Test.YtifcmapicpnkgaaSpoolN
import Derived.Test.YtifcmapicpnkgaaSpoolU
import Derived.Test.YtifcmapicpnkgaaSpoolAct
import Derived.Test.YtifcmapicpnkgaaRows
import Derived.Test.YtifcmapicpnkgaaArgs2
namespace Go.Proofs.Ytifcmapicpnkgaa.spoolPlays
open Go.ChangeShapes Go.WideShapes Go.ChangeAt Go.RowKit
set_option linter.unusedVariables false

theorem own : ownKnob Try.prog.godebug = none := by kernel_rfl

open Go.Lib
set_option maxRecDepth 100000 in
theorem long_yes (room : Int) (A : Option Addr) (n c : Nat) (w : World) (HLo : Calls Try.prog 8 #[.slice A n c] w fun e w' => e = .returned (.bool true) ∧ w' = w) :
    Calls Try.prog 3 #[.int .i64 room, .slice A n c] w fun e w' => e = .returned (.bool true) ∧ Below w.heap.size w w' := by
  have H := Lib.hid HLo
  clear HLo
  go_enter Try.func3, Try.ntmps3
  go_wp2_with fail
  refine H.out.mono ?_; rintro e w ⟨rfl, rfl⟩
  go_wp2_with fail
  refine (known18_any _).mono ?_; rintro e w2 ⟨rfl, b2⟩
  go_wp2_with fail
  go_returns
  exact ⟨rfl, b2⟩
set_option maxRecDepth 100000 in
theorem bad (room : Int) (A : Option Addr) (n c : Nat) (w : World) (HLo : Calls Try.prog 8 #[.slice A n c] w fun e w' => e = .returned (.bool false) ∧ w' = w) (h : room < 1 ∨ 1048576 < room) :
    Calls Try.prog 3 #[.int .i64 room, .slice A n c] w fun e w' => e = .returned (.bool true) ∧ Below w.heap.size w w' := by
  have H := Lib.hid HLo
  have N1 := Lib.hid (new_bad room w h)
  have N2 := Lib.hid (refNew_bad room w h)
  clear HLo h
  go_enter Try.func3, Try.ntmps3
  go_wp2_with fail
  refine H.out.mono ?_; rintro e w ⟨rfl, rfl⟩
  go_wp2_with fail
  refine N1.out.mono ?_; rintro e w ⟨rfl, rfl⟩
  go_wp2_with fail
  refine N2.out.mono ?_; rintro e w ⟨rfl, rfl⟩
  go_wp2_with fail
  refine (known18_any _).mono ?_; rintro e w2 ⟨rfl, b2⟩
  go_wp2_with fail
  go_returns
  exact ⟨rfl, b2⟩
/-- The two spools, each at its state, apart. -/
structure Pr (w0 : World) (sb mb : Nat) (N M : Nat → Prop) (s t : St) (w : World) : Prop where
  sp : Sp w w0.heap.size N sb s
  rf : Rf w w0.heap.size M mb t
  apart : ∀ b, N b → ¬ M b
  below : Below w0.heap.size w0 w
section
variable {w0 w w' : World} {sb mb : Nat} {N M : Nat → Prop} {s t s' t' : St}
theorem Pr.mlt (h : Pr w0 sb mb N M s t w) : ∀ b, M b → w0.heap.size ≤ b ∧ b < w.heap.size := h.rf.2.1
theorem Pr.nlt (h : Pr w0 sb mb N M s t w) : ∀ b, N b → w0.heap.size ≤ b ∧ b < w.heap.size := h.sp.2.1
theorem Pr.toS (h : Pr w0 sb mb N M s t w) (k : SpTo w w0.heap.size N sb s' w') : ∃ N', Pr w0 sb mb N' M s' t w' ∧ Fr N w w' ∧ ∀ b, b < w.heap.size → ¬ N b → ¬ N' b := by
  obtain ⟨N', h1, h2, h3⟩ := k
  exact ⟨N', ⟨h2, h.rf.fr h3 fun b hm hn => h.apart b hn hm, fun b hn hm => h.apart b ((h1 b (h.mlt b hm).2).1 hn) hm, h.below.trans (h.sp.below h3)⟩, h3, fun b hb hn hn' => hn ((h1 b hb).1 hn')⟩
theorem Pr.toM (h : Pr w0 sb mb N M s t w) (k : RfTo w w0.heap.size M mb t' w') : ∃ M', Pr w0 sb mb N M' s t' w' ∧ Fr M w w' ∧ ∀ b, b < w.heap.size → ¬ M b → ¬ M' b := by
  obtain ⟨M', h1, h2, h3⟩ := k
  have hb : Below w0.heap.size w w' := h3.below (by have := h.mlt mb h.rf.2.2.1; omega) fun b hb => (h.mlt b hb).1
  exact ⟨M', ⟨h.sp.fr h3 fun b hn hm => h.apart b hn hm, h2, fun b hn hm => h.apart b hn ((h1 b (h.nlt b hn).2).1 hm), h.below.trans hb⟩, h3, fun b hb hn hn' => hn ((h1 b hb).1 hn')⟩
theorem Pr.fr {K : Nat → Prop} (h : Pr w0 sb mb N M s t w) (f : Fr K w w') (hk : ∀ b, K b → b < w.heap.size → ¬ N b ∧ ¬ M b ∧ w0.heap.size ≤ b) : Pr w0 sb mb N M s t w' :=
  ⟨h.sp.fr f fun b hn hk' => (hk b hk' (h.nlt b hn).2).1 hn, h.rf.fr f fun b hm hk' => (hk b hk' (h.mlt b hm).2).2.1 hm, h.apart,
    ⟨f.os.trans h.below.os, f.tape.trans h.below.tape, f.output.trans h.below.output, Nat.le_trans h.below.size f.size, fun b hb => (f.block b (Nat.lt_of_lt_of_le hb h.below.size) fun hk' => by have := (hk b hk' (Nat.lt_of_lt_of_le hb h.below.size)).2.2; omega).trans (h.below.block b hb)⟩⟩
theorem Pr.kept (h : Pr w0 sb mb N M s t w) (f : Below w.heap.size w w') : Pr w0 sb mb N M s t w' :=
  h.fr (K := fun _ => False) (fr_of_below f fun b h1 h2 => by omega) fun _ h => h.elim
theorem Pr.drewN (h : Pr w0 sb mb N M s t w) (n : Nat) : Pr w0 sb mb N M s t (w.drewN n) :=
  h.fr (K := fun _ => False) ((Fr.refl _ w).drewN n) fun _ h => h.elim
theorem Pr.firm (h : Pr w0 sb mb N M s t w) : ∃ A n c sv, RB w mb (.slice A n c) sv t.room t.left t.off ∧ n = t.sure := by
  obtain ⟨_, _, _, fv, sv, fs, ss, h4, h5, _, _, h7⟩ := h.rf
  obtain ⟨A, c, rfl, _⟩ := rd_form h5
  exact ⟨A, _, c, sv, h4, h7.symm⟩
end
section
variable {w : World} {base mb : Nat} {M K : Nat → Prop} {s s' : St}
theorem refAdd_at {bv : Value} {ys : List UInt8} {n : Int} (hr : addS s ys = (s', n)) (h : Rf w base M mb s) (hS : Rd w K bv (bts ys)) (hK : ∀ b, K b → ¬ M b) (hy : ys.length ≤ 1048576) :
    Calls Try.prog 14 #[.pointer (some ⟨mb, 0, none⟩), bv] w fun e w' => e = .returned (.int .i64 n) ∧ RfTo w base M mb s' w' := by
  have := refAdd_any h hS hK hy; rw [hr] at this; exact this
theorem refSync_at {n : Int} (hr : syncS s = (s', n)) (h : Rf w base M mb s) :
    Calls Try.prog 18 #[.pointer (some ⟨mb, 0, none⟩)] w fun e w' => e = .returned (.int .i64 n) ∧ RfTo w base M mb s' w' := by
  have := refSync_any h; rw [hr] at this; exact this
theorem refCut_at {k n : Int} (hr : cutS s k = (s', n)) (h : Rf w base M mb s) :
    Calls Try.prog 20 #[.pointer (some ⟨mb, 0, none⟩), .int .i64 k] w fun e w' => e = .returned (.int .i64 n) ∧ RfTo w base M mb s' w' := by
  have := refCut_any k h; rw [hr] at this; exact this
end
def Both (w0 : World) (sb mb : Nat) (s : St) (w : World) : Prop := ∃ N M, Pr w0 sb mb N M s s w
theorem Both.below {w0 w : World} {sb mb : Nat} {s : St} (h : Both w0 sb mb s w) : Below w0.heap.size w0 w := by obtain ⟨_, _, h⟩ := h; exact h.below
def Lp (w : World) (l : List ActV) (sb mb : Nat) (i : Value) (wr : World) : Prop :=
  ∃ (k : Nat) (s : St), k ≤ l.length ∧ k ≤ 100 ∧ i = .int .i64 k ∧ Both w sb mb s wr
set_option maxRecDepth 100000 in
set_option maxHeartbeats 1000000 in
theorem short (room : Int) (vl : Value) (l : List ActV) (w : World) (hl : RowOf w 3 (ActIs w) vl l) (hlo : longB l = false) (hr1 : 1 ≤ room) (hr2 : room ≤ 1048576) :
    Calls Try.prog 3 #[.int .i64 room, vl] w fun e w' => e = .returned (.bool true) ∧ Below w.heap.size w w' := by
  have hl0 := hl
  obtain ⟨A, c, rfl, hc1, hc2, _⟩ := hl
  have HL := Lib.hid hl0
  have HLo : Hid (Calls Try.prog 8 #[.slice A l.length c] w fun e w' => e = .returned (.bool false) ∧ w' = w) := by have := long_any hl0 (Below.refl _ _); rw [hlo] at this; exact this
  have HB3 : Hid (∀ k (h : k < l.length), k < 200 → (l[k]).b.length ≤ 300) := by
    intro k h hk
    unfold longB at hlo
    rw [List.any_eq_false] at hlo
    have := hlo (l[k]) (by rw [List.mem_take_iff_getElem]; exact ⟨k, by omega, rfl⟩)
    simpa using this
  clear hl0 hlo
  unfold maxLen at hc2
  have HN := Lib.hid (new_any room w w.heap.size hr1 hr2 (Nat.le_refl _))
  have HM : Hid (∀ w1, w.heap.size ≤ w1.heap.size → Calls Try.prog 11 #[.int .i64 room] w1 fun e w' => e = .returned (.tuple #[.pointer (some ⟨w1.heap.size, 0, none⟩), .int .i64 0]) ∧
      Rf w' w.heap.size (fun b => b = w1.heap.size) w1.heap.size ⟨room, [], 0, -1, false⟩ ∧ Below w1.heap.size w1 w' ∧ w'.heap.size = w1.heap.size + 1) := fun w1 h => refNew_any room w1 w.heap.size hr1 hr2 h
  clear hr1 hr2
  go_enter Try.func3, Try.ntmps3
  go_wp2_with fail
  refine HLo.out.mono ?_; rintro e w ⟨rfl, rfl⟩
  go_wp2_with fail
  refine HN.out.mono ?_; rintro e w1 ⟨rfl, hs1, hb1, hz1⟩
  have S1 := Lib.hid hs1
  have B1 := Lib.hid hb1
  have Z1 := Lib.hid hz1
  clear hs1 hb1 hz1
  go_wp2_with fail
  refine (HM.out w1 B1.out.size).mono ?_; rintro e w2 ⟨rfl, hm2, hb2, hz2⟩
  have BO : Hid (Both w w.heap.size w1.heap.size ⟨room, [], 0, -1, false⟩ w2) :=
    ⟨_, _, S1.out.kept hb2, hm2, fun b h1 h2 => by have := Z1.out; omega, B1.out.trans (hb2.mono B1.out.size)⟩
  clear hm2 hb2 hz2
  generalize w1.heap.size = mb at *
  clear HN HM S1 B1 Z1 HLo
  go_wp2_with fail
  go_loopw [9] (Lp w l w.heap.size mb) (fun i _ => 100 - (intOf i).toNat)
  case atStart => exact ⟨0, _, Nat.zero_le _, Nat.zero_le _, rfl, BO.out⟩
  case round =>
    obtain ⟨k, s, hk1, hk2, rfl, hbo⟩ := hrel
    have HBO := Lib.hid hbo
    have hB := (Both.below hbo)
    clear hbo
    by_cases hlt : k < l.length ∧ k < 100
    · obtain ⟨hlt1, hlt2⟩ := hlt
      have t1 : decide (k < l.length) = true := decide_eq_true hlt1
      have t1' : (k : Int) < l.length := by omega
      have t2 : decide ((k : Int) < 100) = true := decide_eq_true (by omega)
      obtain ⟨b, off_, u, rfl, c0, c1, c2, hR, hn, hkd, hbW⟩ := acts_at HL.out hB hlt1
      have hy3 : (l[k]).b.length ≤ 300 := HB3.out k hlt1 (by omega)
      generalize l[k] = y at *
      have HR := Lib.hid hR
      have HY := Lib.hid hy3
      obtain ⟨Ay, cy, rfl, hy⟩ := rd_len hR
      unfold maxLen at hy
      clear hR hy3
      obtain ⟨N, M, hP⟩ := HBO.out
      go_upto_block 2 with fail
      obtain ⟨w10, hw10⟩ : ∃ w10, w10 = wr.alloc (.cells #[.int .i64 y.kind, .slice Ay y.b.length cy, .int .i64 y.n] 34) := ⟨_, rfl⟩
      rw [← hw10]
      have hb10 : Below wr.heap.size wr w10 := by rw [hw10]; exact (Below.refl _ _).alloc (Nat.le_refl _) _
      have X10 : Blk w10 wr.heap.size #[.int .i64 y.kind, .slice Ay y.b.length cy, .int .i64 y.n] 34 := by rw [hw10]; exact Blk.new _ _ _
      have P10 := Lib.hid (hP.kept hb10)
      have R10 := Lib.hid (HR.out.kept hb10)
      have XX := Lib.hid X10
      have NX : Hid (¬ N wr.heap.size ∧ ¬ M wr.heap.size) := ⟨fun h => by have := (hP.nlt _ h).2; omega, fun h => by have := (hP.mlt _ h).2; omega⟩
      have KW : Hid (∀ b, b < w.heap.size → ¬ N b ∧ ¬ M b) := fun b hb => ⟨fun h => by have := (hP.nlt _ h).1; omega, fun h => by have := (hP.mlt _ h).1; omega⟩
      have NB : Hid (∀ b, N b ∨ M b → b < w10.heap.size) := fun b hb => by rcases hb with h | h; exact (P10.out.nlt b h).2; exact (P10.out.mlt b h).2
      generalize wr.heap.size = xb at *
      clear c0 c1 c2 hw10 hb10 X10 hP
      obtain ⟨kd, yb, yn⟩ := y
      dsimp only at *
      go_cut [11, 12] (fun p q wx => ∃ (r : Int) (s' : St) (wq : World), p = .int .i64 r ∧ q = .int .i64 r ∧ wq = wx ∧ Both w w.heap.size mb s' wq)
      case first =>
        have x0 := XX.out.cell 0
        have x1 := XX.out.cell 1
        have x2 := XX.out.cell 2
        simp at x0 x1 x2
        by_cases h012 : kd = 0 ∨ kd = 1 ∨ kd = 2
        · rcases h012 with rfl | rfl | rfl
          all_goals
            go_wp2_with fail
            refine (byLent_any (by exact R10.out) (by have := HY.out; omega)).mono ?_; rintro e w11 ⟨vo, rfl, hlo, hgo, hb11⟩
            have P11 := Lib.hid (P10.out.kept hb11)
            have L11 := Lib.hid hlo
            have GO : Hid (∀ g, vo.ownBlock = some g → w10.heap.size ≤ g) := hgo
            have R11 := Lib.hid (R10.out.kept hb11)
            have X11 := Lib.hid (XX.out.kept hb11)
            obtain ⟨go, cap, cur, rfl, hlo2⟩ := hlo
            have hgo2 : w10.heap.size ≤ go := GO.out go rfl
            have hNgo : Hid (¬ N go ∧ ¬ M go) := ⟨fun h => by have := NB.out go (.inl h); omega, fun h => by have := NB.out go (.inr h); omega⟩
            have hwgo : w.heap.size ≤ go := by have := P10.out.below.size; omega
            have HWG := Lib.hid hwgo
            obtain ⟨s', r, hst⟩ : ∃ s' r, addS s yb = (s', r) := ⟨_, _, rfl⟩
            have ST := Lib.hid hst
            clear hlo2 hgo hb11 x0 x1 x2 hgo2 hwgo hst
            go_wp2_with fail
            refine (add_at ST.out P11.out.sp (L11.out.rd (K := fun b => b = go) (fun g hg => by have : go = g := (by simpa [Value.ownBlock] using hg); exact this.symm)) (fun b hb hn => hNgo.out.1 (hb ▸ hn))).mono ?_; rintro e w12 ⟨rfl, h12⟩
            obtain ⟨N2, hP12, hF12, hO12⟩ := P11.out.toS h12
            have P12 := Lib.hid hP12
            have L12 := Lib.hid (L11.out.fr hF12 fun g hg => by have : go = g := (by simpa [Value.ownBlock] using hg); subst this; exact hNgo.out.1)
            have R12 := Lib.hid (R11.out.fr hF12 fun b hb _ => (KW.out b hb).1)
            have X12 := Lib.hid (X11.out.fr hF12 NX.out.1)
            have NG2 : Hid (¬ N2 go) := by
              obtain ⟨_, _, _, e1, e2, _⟩ := L11.out
              obtain rfl : go = _ := by injection e1 with e1 _ _; injection e1 with e1; injection e1
              exact hO12 _ e2.lt hNgo.out.1
            have y1 := X12.out.cell 1
            simp at y1
            clear h12 hP12 hF12 hO12
            go_wp2_with fail
            refine (refAdd_at ST.out P12.out.rf (by exact R12.out) (fun b hb => (KW.out b hb).2) (by have := HY.out; omega)).mono ?_; rintro e w13 ⟨rfl, h13⟩
            obtain ⟨M2, hP13, hF13, hO13⟩ := P12.out.toM h13
            have P13 := Lib.hid hP13
            have L13 := Lib.hid (L12.out.fr hF13 fun g hg => by have : go = g := (by simpa [Value.ownBlock] using hg); subst this; exact hNgo.out.2)
            have R13 := Lib.hid (R12.out.fr hF13 fun b hb _ => (KW.out b hb).2)
            have X13 := Lib.hid (X12.out.fr hF13 NX.out.2)
            have NG3 : Hid (¬ M2 go) := by
              obtain ⟨_, _, _, e1, e2, _⟩ := L12.out
              obtain rfl : go = _ := by injection e1 with e1 _ _; injection e1 with e1; injection e1
              exact hO13 _ e2.lt hNgo.out.2
            have z1 := X13.out.cell 1
            simp at z1
            clear h13 hP13 hF13 hO13 y1
            go_wp2_with fail
            refine (byWhole_any L13.out (by exact R13.out) (by have := HY.out; omega)).mono ?_; rintro e w13 ⟨rfl, rfl⟩
            have SPo : Hid (Calls Try.prog 16 #[.slice (some ⟨go, 0, none⟩) yb.length cap] w13 fun e w' => e = .returned (.tuple #[]) ∧ Fr (fun b => b = go) w13 w') := by
              obtain ⟨g', cap', cur', e1, e2, e3, e4, e5, e6⟩ := L13.out
              injection e1 with e1 _ e7
              injection e1 with e1
              injection e1 with e1
              subst e1 e7
              refine bySpoil_rd w13 go cap yb cur' e2 ?_ (by have := HY.out; omega)
              have : (cur'.toList.take (yb.length + 2)).take yb.length = bts yb := by rw [e6, bts_app, List.take_append_of_le_length (by simp), List.take_of_length_le (by simp)]
              rw [List.take_take, Nat.min_eq_left (by omega)] at this
              exact this
            go_wp2_with fail
            refine SPo.out.mono ?_; rintro e w14 ⟨rfl, hF14⟩
            have P14 := Lib.hid (P13.out.fr hF14 fun b hb _ => by subst hb; exact ⟨NG2.out, NG3.out, HWG.out⟩)
            clear hF14 z1
            go_wp2_with fail
            go_meet
            exact ⟨r, s', _, rfl, rfl, rfl, _, _, P14.out⟩
        · by_cases h3 : kd = 3
          · subst h3
            clear h012
            obtain ⟨s', r, hst⟩ : ∃ s' r, syncS s = (s', r) := ⟨_, _, rfl⟩
            have ST := Lib.hid hst
            clear hst
            go_wp2_with fail
            refine (sync_at ST.out P10.out.sp).mono ?_; rintro e w12 ⟨rfl, h12⟩
            obtain ⟨N2, hP12, _, _⟩ := P10.out.toS h12
            have P12 := Lib.hid hP12
            clear h12 hP12
            go_wp2_with fail
            refine (refSync_at ST.out P12.out.rf).mono ?_; rintro e w13 ⟨rfl, h13⟩
            obtain ⟨M2, hP13, _, _⟩ := P12.out.toM h13
            have P13 := Lib.hid hP13
            clear h13 hP13
            go_wp2_with fail
            go_meet
            exact ⟨r, s', _, rfl, rfl, rfl, _, _, P13.out⟩
          · by_cases h4 : kd = 4
            · subst h4
              clear h012 h3
              obtain ⟨s', r, hst⟩ : ∃ s' r, cutS s yn = (s', r) := ⟨_, _, rfl⟩
              have ST := Lib.hid hst
              clear hst
              go_wp2_with fail
              refine (cut_at ST.out P10.out.sp).mono ?_; rintro e w12 ⟨rfl, h12⟩
              obtain ⟨N2, hP12, hF12, _⟩ := P10.out.toS h12
              have P12 := Lib.hid hP12
              have y2 := cell_fr x2 hF12 NX.out.1
              clear h12 hP12 hF12 x0 x1 x2
              go_wp2_with fail
              refine (refCut_at ST.out P12.out.rf).mono ?_; rintro e w13 ⟨rfl, h13⟩
              obtain ⟨M2, hP13, _, _⟩ := P12.out.toM h13
              have P13 := Lib.hid hP13
              clear h13 hP13
              go_wp2_with fail
              go_meet
              exact ⟨r, s', _, rfl, rfl, rfl, _, _, P13.out⟩
            · by_cases h5 : kd = 5
              · subst h5
                clear h012 h3 h4
                go_wp2_with fail
                refine (off_any yn hn.2 P10.out.sp).mono ?_; rintro e w12 ⟨rfl, h12⟩
                obtain ⟨N2, hP12, hF12, _⟩ := P10.out.toS h12
                have P12 := Lib.hid hP12
                have y2 := cell_fr x2 hF12 NX.out.1
                clear h12 hP12 hF12 x0 x1 x2
                go_wp2_with fail
                refine (refOff_any yn hn.2 P12.out.rf).mono ?_; rintro e w13 ⟨rfl, h13⟩
                obtain ⟨M2, hP13, _, _⟩ := P12.out.toM h13
                have P13 := Lib.hid hP13
                clear h13 hP13
                go_wp2_with fail
                go_meet
                exact ⟨0, _, _, rfl, rfl, rfl, _, _, P13.out⟩
              · have q0 : (kd == 0) = false := by simp; omega
                have q1 : (kd == 1) = false := by simp; omega
                have q2 : (kd == 2) = false := by simp; omega
                have q3 : (kd == 3) = false := by simp; omega
                have q4 : (kd == 4) = false := by simp; omega
                have q5 : (kd == 5) = false := by simp; omega
                clear h012 h3 h4 h5
                go_wp2_with fail
                refine (crash_any yn P10.out.sp).mono ?_; rintro e w12 ⟨rfl, h12⟩
                obtain ⟨N2, hP12, hF12, _⟩ := P10.out.toS h12
                have P12 := Lib.hid hP12
                have y2 := cell_fr x2 hF12 NX.out.1
                clear h12 hP12 hF12 x0 x1 x2
                go_wp2_with fail
                refine (refCrash_any yn P12.out.rf).mono ?_; rintro e w13 ⟨rfl, h13⟩
                obtain ⟨M2, hP13, _, _⟩ := P12.out.toM h13
                have P13 := Lib.hid hP13
                clear h13 hP13
                go_wp2_with fail
                go_meet
                exact ⟨0, _, _, rfl, rfl, rfl, _, _, P13.out⟩
      case rest =>
        obtain ⟨r, s', wx, rfl, rfl, hwx, N1, M1, hP1⟩ := hcut
        subst hwx
        have P1 := Lib.hid hP1
        have tr : (r != r) = false := by simp
        clear hP1 XX R10 P10 NX KW NB
        cases ho : s'.off with
        | true =>
          have HOf := Lib.hid ho
          obtain ⟨A1, n1, cc1, sv1, hrb, hn1⟩ := P1.out.firm
          obtain ⟨m0, m1, m2, m3, m4, _⟩ := RB.cells hrb
          rw [ho] at m4
          have SM : Hid (∀ q, Calls Try.prog 27 #[.slice none 0 0, .slice none 0 0] (wx.drewN q) fun e w' => e = .returned (.bool true) ∧ w' = wx.drewN q) := fun q => by
            have := bySame_any (rdNil (wx.drewN q) (fun _ => True)) (rdNil (wx.drewN q) (fun _ => True)); exact this
          have LN : Hid (∀ q, Calls Try.prog 28 #[.pointer (some ⟨w.heap.size, 0, none⟩)] (wx.drewN q) fun e w' => e = .returned (.int .i64 0) ∧ w' = wx.drewN q) := fun q => len_at (by rw [HOf.out]; rfl) (P1.out.drewN q).sp
          have SU : Hid (∀ q, Calls Try.prog 29 #[.pointer (some ⟨w.heap.size, 0, none⟩)] (wx.drewN q) fun e w' => e = .returned (.int .i64 0) ∧ w' = wx.drewN q) := fun q => sure_at (by rw [HOf.out]; rfl) (P1.out.drewN q).sp
          have ON : Hid (∀ q, Calls Try.prog 30 #[.pointer (some ⟨w.heap.size, 0, none⟩)] (wx.drewN q) fun e w' => e = .returned (.bool false) ∧ w' = wx.drewN q) := fun q => on_at (by rw [HOf.out]; rfl) (P1.out.drewN q).sp
          clear hrb hn1 m1 m2 m3 ho
          go_wp2_with fail
          refine (refAll_dim P1.out.rf HOf.out).mono ?_; rintro e wx ⟨rfl, rfl⟩
          go_wp2_with fail
          refine (bytes_dim P1.out.sp HOf.out).mono ?_; rintro e wx ⟨rfl, rfl⟩
          go_wp2_with fail
          go_quiet (first
            | (go_at_call 27; exact Calls.quiet_of_same (SM.out _))
            | (go_at_call 28; exact Calls.quiet_of_same (LN.out _))
            | (go_at_call 29; exact Calls.quiet_of_same (SU.out _))
            | (go_at_call 30; exact Calls.quiet_of_same (ON.out _)))
          go_wp2_with fail
          refine (bySpoil_zero _ _ _).mono ?_; rintro e w4 ⟨rfl, hw4⟩
          have P4 : Hid (Both w w.heap.size mb s' w4) := by rw [hw4]; exact ⟨_, _, P1.out.drewN _⟩
          clear hw4
          go_wp2_with fail
          go_roundw
          case rel => exact ⟨k + 1, s', hlt1, hlt2, by go_num, P4.out⟩
          case measure => simp [intOf]; omega
        | false =>
          have HOf := Lib.hid ho
          clear ho
          go_wp2_with fail
          refine (refAll_any P1.out.rf HOf.out).mono ?_; rintro e w2 ⟨v2, rfl, ho2, hb2⟩
          have P2 := Lib.hid (P1.out.kept hb2)
          have O2 := Lib.hid ho2
          obtain ⟨A2, d2, rfl, _⟩ := owned_form ho2
          clear ho2 hb2
          go_wp2_with fail
          refine (bytes_any P2.out.sp HOf.out).mono ?_; rintro e w3 ⟨g, hg, rfl, hblk, hb3⟩
          have P3 := Lib.hid (P2.out.kept hb3)
          have O3 : Hid (Rd w3 (fun _ => True) (.slice A2 s'.xs.length d2) (bts s'.xs)) := (Rd.of_owns (by rw [bts_len]; exact O2.out) fun _ _ => trivial).kept hb3
          have G3 := Lib.hid hblk
          have LX : Hid (s'.xs.length ≤ 1048576) := by have h := P3.out.sp.1; have h1 := h.2.1; have h2 := h.2.2.1; unfold Hid; omega
          have NG : Hid (¬ N1 g ∧ ¬ M1 g ∧ w.heap.size ≤ g) := ⟨fun h => by have := (P2.out.nlt g h).2; omega, fun h => by have := (P2.out.mlt g h).2; omega, by have := P2.out.below.size; omega⟩
          obtain ⟨A1, n1, cc1, sv1, hrb, hn1⟩ := P3.out.firm
          obtain ⟨m0, m1, m2, m3, m4, _⟩ := RB.cells hrb
          rw [HOf.out] at m4
          have HN1 := Lib.hid hn1
          have SM : Hid (∀ q, Calls Try.prog 27 #[.slice (some ⟨g, 0, none⟩) s'.xs.length s'.xs.length, .slice A2 s'.xs.length d2] (w3.drewN q) fun e w' => e = .returned (.bool true) ∧ w' = w3.drewN q) := fun q => by
            have := bySame_any (bytes_rd (xs := s'.xs) (show Blk (w3.drewN q) g _ _ from G3.out) (by have := LX.out; unfold maxLen; omega)) (O3.out.fr ((Fr.refl (fun _ => False) w3).drewN q) fun _ _ _ h => h)
            rw [beq_self_eq_true] at this; exact this
          have LN : Hid (∀ q, Calls Try.prog 28 #[.pointer (some ⟨w.heap.size, 0, none⟩)] (w3.drewN q) fun e w' => e = .returned (.int .i64 s'.xs.length) ∧ w' = w3.drewN q) := fun q => len_at (by rw [HOf.out]; rfl) (P3.out.drewN q).sp
          have SU : Hid (∀ q, Calls Try.prog 29 #[.pointer (some ⟨w.heap.size, 0, none⟩)] (w3.drewN q) fun e w' => e = .returned (.int .i64 n1) ∧ w' = w3.drewN q) := fun q => sure_at (by rw [HOf.out, HN1.out]; rfl) (P3.out.drewN q).sp
          have ON : Hid (∀ q, Calls Try.prog 30 #[.pointer (some ⟨w.heap.size, 0, none⟩)] (w3.drewN q) fun e w' => e = .returned (.bool true) ∧ w' = w3.drewN q) := fun q => on_at (by rw [HOf.out]; rfl) (P3.out.drewN q).sp
          have SY : Hid (∀ q, Calls Try.prog 16 #[.slice (some ⟨g, 0, none⟩) s'.xs.length s'.xs.length] (w3.drewN q) fun e w' => e = .returned (.tuple #[]) ∧ Fr (fun b => b = g) (w3.drewN q) w') := fun q => spoil_bytes (w3.drewN q) g s'.xs G3.out (LX.out)
          have tl : ((s'.xs.length : Int) != (s'.xs.length : Int)) = false := by simp
          have tn : ((n1 : Int) != (n1 : Int)) = false := by simp
          clear hrb hn1 m1 m2 m3 hblk hb3 hg
          generalize s'.xs.length = lx at *
          go_wp2_with fail
          go_quiet (first
            | (go_at_call 27; exact Calls.quiet_of_same (SM.out _))
            | (go_at_call 28; exact Calls.quiet_of_same (LN.out _))
            | (go_at_call 29; exact Calls.quiet_of_same (SU.out _))
            | (go_at_call 30; exact Calls.quiet_of_same (ON.out _)))
          go_wp2_with fail
          refine (SY.out _).mono ?_; rintro e w4 ⟨rfl, hF4⟩
          have P4 : Hid (Both w w.heap.size mb s' w4) := ⟨_, _, (P3.out.drewN _).fr hF4 fun b hb _ => by subst hb; exact NG.out⟩
          clear hF4
          go_wp2_with fail
          go_roundw
          case rel => exact ⟨k + 1, s', hlt1, hlt2, by go_num, P4.out⟩
          case measure => simp [intOf]; omega
    · have hexit : k < l.length → ¬ k < 100 := fun h1 h2 => hlt ⟨h1, h2⟩
      by_cases h1 : k < l.length
      all_goals
        first
          | (have h2 : ¬ k < 100 := hexit h1
             have t1 : decide (k < l.length) = true := decide_eq_true h1
             have t1' : (k : Int) < l.length := by omega
             have t2 : decide ((k : Int) < 100) = false := decide_eq_false (by omega))
          | (have t1 : decide (k < l.length) = false := decide_eq_false h1)
        clear hexit hlt
        go_wp2_with fail
        refine (known18_any _).mono ?_; rintro e w4 ⟨rfl, bk⟩
        go_wp2_with fail
        go_returns
        exact ⟨rfl, hB.trans (bk.mono hB.size)⟩
theorem walk (room : Int) (vl : Value) (l : List ActV) (w : World) (w0 : (Lit.int .i64 room).wf = true) (hl : RowOf w 3 (ActIs w) vl l) :
    Calls Try.prog 3 #[.int .i64 room, vl] w fun e w' => e = .returned (.bool true) ∧ Below w.heap.size w w' := by
  cases h : longB l with
  | true =>
    have hl0 := hl
    obtain ⟨A, c, rfl, _⟩ := hl
    refine long_yes room A _ c w ?_
    have := long_any hl0 (Below.refl _ _); rw [h] at this; exact this
  | false =>
    by_cases hr : room < 1 ∨ 1048576 < room
    · have hl0 := hl
      obtain ⟨A, c, rfl, _⟩ := hl
      refine bad room A _ c w ?_ hr
      have := long_any hl0 (Below.refl _ _); rw [h] at this; exact this
    · exact short room vl l w hl h (by omega) (by omega)


set_option maxRecDepth 100000 in
theorem lifted (os : Os) (started : os.Started) (H : Type) (enc : TypeId × Value → H) :
    ReturnsInHanded {} Try.checked os 3 .any (Rows.spoolPlaysSpec.pre6 enc Try.prog Try.f3 Rows.spoolPlaysRow.domain false) (Rows.spoolPlaysSpec.post enc Try.prog Try.f3 false true false false) := by
  refine returnsInHanded_of_change (C := Try.checked) own started (by kernel_rfl) Try.func3
    (ChangeSpec.witness6 (enc := enc) (C := Try.checked) false ⟨#[], #[.int .i64 0, .slice none 0 0], []⟩ 8 (by kernel_rfl) (by kernel_rfl) (by kernel_rfl) (by kernel_rfl)) ?_
  intro W base args ds gs before hval0 hW _ _
  have hval : ∀ (j : Nat) t v, Try.f3.params[j]? = some t → args[j]? = some v → Value.okWide Try.prog W .any base t v := hval0
  have hW' := hW
  obtain ⟨p, q, hA0, hV, rfl, hfz, hnd⟩ := hW
  have hA : DataW.TrodAll enc Try.prog W 0 (fun _ => true) true Try.f3.params.toList args.toList ds p := hA0
  rw [Try.params3] at hA hval
  obtain ⟨v0, vs0, d0, ds0, p0, q0, hargs, rfl, rfl, h0, r0⟩ := trodAll_cons hA
  obtain ⟨v1, vs1, d1, ds1, p1, q1, rfl, rfl, rfl, h1, r1⟩ := trodAll_cons r0
  obtain ⟨rfl, rfl, rfl⟩ := trodAll_nil r1
  obtain rfl : args = #[v0, v1] := by cases args; simp_all
  obtain ⟨room, rfl, rfl, rfl, w0⟩ := open_int Try.underlying3 (hval 0 3 v0 rfl rfl) h0
  obtain ⟨l, w1⟩ := open_reader (reader_slice (size := 3) Try.underlying22 (by kernel_rfl) (by decide) reader_act) h1 (okWide_slice Try.underlying22 (hval 1 22 v1 rfl rfl))
  clear hA0 hval0
  refine (walk room v1 l W w0 w1).mono fun e W' ⟨he, hb⟩ => ?_
  subst he
  exact ⟨_, rfl, law_post (by kernel_rfl) (by kernel_rfl) rfl Try.underlying4 rfl hW' rfl hb⟩

theorem over : Rows.spoolPlaysRow.holds Try.pinned (OpenSpec.ofChange Rows.spoolPlaysSpec) :=
  OpenClaim.holds_of_wide 3 Try.f3 rfl rfl rfl rfl rfl rfl rfl ⟨rfl, rfl, rfl, rfl, rfl⟩ rfl rfl rfl rfl rfl (by kernel_rfl) Try.func3 (by kernel_rfl)
    (of_decide_eq_true (by kernel_rfl)) (by unfold Func.isWrapper; first | (rw [if_pos (by decide +kernel)]; kernel_rfl) | (rw [if_neg (by decide +kernel)]; exact ⟨rfl, rfl⟩))
    (fun os started H enc _ => lifted os started H enc)

theorem proved : Rows.SpoolPlaysSaid :=
  over
#print axioms proved
end Go.Proofs.Ytifcmapicpnkgaa.spoolPlays
