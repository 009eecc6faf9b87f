/-
  gangerlaw19's pair: a tape and the document's, each on its spool; opened, reopen.
  gangerlaw19: opened; begins.
  Layer 19: what TapeSafe's law keeps, plainly and in the memory.
-/
import Derived.Test.YtgohnidndjbjiaaTapeG
import Derived.Test.YtgohnidndjbjiaaOpen
import Derived.StillTailTactics
import Derived.Maps.AppendAt
namespace Go.Proofs.Ytgohnidndjbjiaa
set_option linter.unusedVariables false

section
open Go Go.RowKit Go.Lib
/-- Both open: the tape at t, the document's at u. -/
structure PO (w0 : World) (pb sb tb mb rb : Nat) (N M : Nat → Prop) (t u : TS) (w : World) : Prop where
  blk : Blk w pb #[.pointer (some ⟨sb, 0, none⟩), .pointer (some ⟨tb, 0, none⟩), .pointer (some ⟨mb, 0, none⟩), .pointer (some ⟨rb, 0, none⟩)] 35
  tk : Tk w w0.heap.size N sb tb t
  rk : Rk w w0.heap.size M mb rb u
  apart : ∀ b, N b → ¬ M b
  pn : ¬ N pb
  pm : ¬ M pb
  le : w0.heap.size ≤ pb
  below : Below w0.heap.size w0 w
/-- The spools alone. -/
structure PC (w0 : World) (pb sb mb : Nat) (tv mv : Value) (N M : Nat → Prop) (s r : St) (w : World) : Prop where
  blk : Blk w pb #[.pointer (some ⟨sb, 0, none⟩), tv, .pointer (some ⟨mb, 0, none⟩), mv] 35
  sp : Sp w w0.heap.size N sb s
  rf : Rf w w0.heap.size M mb r
  apart : ∀ b, N b → ¬ M b
  pn : ¬ N pb
  pm : ¬ M pb
  le : w0.heap.size ≤ pb
  below : Below w0.heap.size w0 w
section
variable {w0 w w' : World} {pb sb tb mb rb : Nat} {tv mv : Value} {N M K : Nat → Prop} {t u t' u' : TS} {s r s' r' : St}
theorem below_fr {base : Nat} (h : Below base w0 w) (hb : base = w0.heap.size) (f : Fr K w w') (hk : ∀ b, K b → base ≤ b) : Below w0.heap.size w0 w' := by
  subst hb
  exact h.trans (f.below h.size hk)
theorem PO.toT (h : PO w0 pb sb tb mb rb N M t u w) (k : TkTo w w0.heap.size N sb tb t' w') : ∃ N', PO w0 pb sb tb mb rb N' M t' u w' ∧ Fr N w w' ∧ ∀ b, b < w.heap.size → ¬ N b → ¬ N' b := by
  obtain ⟨N', e1, e2, e3⟩ := k
  exact ⟨N', ⟨h.blk.fr e3 h.pn, e2, h.rk.fr e3 fun b hm hn => h.apart b hn hm, fun b hn hm => h.apart b ((e1 b (h.rk.lt b hm).2).1 hn) hm, fun hn => h.pn ((e1 pb h.blk.lt).1 hn), h.pm, h.le, below_fr h.below rfl e3 fun b hb => (h.tk.lt b hb).1⟩, e3, fun b hb hn hn' => hn ((e1 b hb).1 hn')⟩
theorem PO.toR (h : PO w0 pb sb tb mb rb N M t u w) (k : RkTo w w0.heap.size M mb rb u' w') : ∃ M', PO w0 pb sb tb mb rb N M' t u' w' ∧ Fr M w w' ∧ ∀ b, b < w.heap.size → ¬ M b → ¬ M' b := by
  obtain ⟨M', e1, e2, e3⟩ := k
  exact ⟨M', ⟨h.blk.fr e3 h.pm, h.tk.fr e3 fun b hn hm => h.apart b hn hm, e2, fun b hn hm => h.apart b hn ((e1 b (h.tk.lt b hn).2).1 hm), h.pn, fun hm => h.pm ((e1 pb h.blk.lt).1 hm), h.le, below_fr h.below rfl e3 fun b hb => (h.rk.lt b hb).1⟩, e3, fun b hb hn hn' => hn ((e1 b hb).1 hn')⟩
theorem PO.fr (h : PO w0 pb sb tb mb rb N M t u w) (f : Fr K w w') (hk : ∀ b, K b → b < w.heap.size → ¬ N b ∧ ¬ M b ∧ b ≠ pb ∧ w0.heap.size ≤ b) : PO w0 pb sb tb mb rb N M t u w' := by
  have hK : ∀ b, b < w.heap.size → K b → ¬ N b ∧ ¬ M b ∧ b ≠ pb ∧ w0.heap.size ≤ b := fun b h1 h2 => hk b h2 h1
  refine ⟨h.blk.fr f fun hp => (hK pb h.blk.lt hp).2.2.1 rfl, h.tk.fr f fun b hn hp => (hK b (h.tk.lt b hn).2 hp).1 hn, h.rk.fr f fun b hm hp => (hK b (h.rk.lt b hm).2 hp).2.1 hm, h.apart, h.pn, h.pm, h.le, ?_⟩
  exact ⟨f.os.trans h.below.os, f.tape.trans h.below.tape, f.output.trans h.below.output, Nat.le_trans h.below.size f.size, fun b hb => (f.block b (Nat.lt_of_lt_of_le hb h.below.size) fun hp => by have := (hK b (Nat.lt_of_lt_of_le hb h.below.size) hp).2.2.2; omega).trans (h.below.block b hb)⟩
theorem PO.kept (h : PO w0 pb sb tb mb rb N M t u w) (f : Below w.heap.size w w') : PO w0 pb sb tb mb rb N M t u w' :=
  h.fr (K := fun _ => False) (Fr.none_of f) fun _ h => h.elim
theorem PO.close (h : PO w0 pb sb tb mb rb N M t u w) : ∃ N' M', PC w0 pb sb mb (.pointer (some ⟨tb, 0, none⟩)) (.pointer (some ⟨rb, 0, none⟩)) N' M' t.s u.s w := by
  obtain ⟨N', e1, e2⟩ := h.tk.sp
  obtain ⟨M', e3, e4⟩ := h.rk.sp
  exact ⟨N', M', h.blk, e1, e3, fun b hn hm => h.apart b (e2 b hn) (e4 b hm), fun hn => h.pn (e2 _ hn), fun hm => h.pm (e4 _ hm), h.le, h.below⟩
theorem PO.close2 (h : PO w0 pb sb tb mb rb N M t u w) : ∃ N' M', PC w0 pb sb mb (.pointer (some ⟨tb, 0, none⟩)) (.pointer (some ⟨rb, 0, none⟩)) N' M' t.s u.s w ∧ (∀ b, N' b → N b) ∧ ∀ b, M' b → M b := by
  obtain ⟨N', e1, e2⟩ := h.tk.sp
  obtain ⟨M', e3, e4⟩ := h.rk.sp
  exact ⟨N', M', ⟨h.blk, e1, e3, fun b hn hm => h.apart b (e2 b hn) (e4 b hm), fun hn => h.pn (e2 _ hn), fun hm => h.pm (e4 _ hm), h.le, h.below⟩, e2, e4⟩
theorem PC.toS (h : PC w0 pb sb mb tv mv N M s r w) (k : SpTo w w0.heap.size N sb s' w') : ∃ N', PC w0 pb sb mb tv mv N' M s' r w' ∧ Fr N w w' ∧ ∀ b, b < w.heap.size → ¬ N b → ¬ N' b := by
  obtain ⟨N', e1, e2, e3⟩ := k
  exact ⟨N', ⟨h.blk.fr e3 h.pn, e2, h.rf.fr e3 fun b hm hn => h.apart b hn hm, fun b hn hm => h.apart b ((e1 b (h.rf.lt b hm).2).1 hn) hm, fun hn => h.pn ((e1 pb h.blk.lt).1 hn), h.pm, h.le, below_fr h.below rfl e3 fun b hb => (h.sp.2.1 b hb).1⟩, e3, fun b hb hn hn' => hn ((e1 b hb).1 hn')⟩
theorem PC.toR (h : PC w0 pb sb mb tv mv N M s r w) (k : RfTo w w0.heap.size M mb r' w') : ∃ M', PC w0 pb sb mb tv mv N M' s r' w' ∧ Fr M w w' ∧ ∀ b, b < w.heap.size → ¬ M b → ¬ M' b := by
  obtain ⟨M', e1, e2, e3⟩ := k
  exact ⟨M', ⟨h.blk.fr e3 h.pm, h.sp.fr e3 fun b hn hm => h.apart b hn hm, e2, fun b hn hm => h.apart b hn ((e1 b (h.sp.2.1 b hn).2).1 hm), h.pn, fun hm => h.pm ((e1 pb h.blk.lt).1 hm), h.le, below_fr h.below rfl e3 fun b hb => (h.rf.lt b hb).1⟩, e3, fun b hb hn hn' => hn ((e1 b hb).1 hn')⟩
theorem PC.fr (h : PC w0 pb sb mb tv mv N M s r w) (f : Fr K w w') (hk : ∀ b, K b → b < w.heap.size → ¬ N b ∧ ¬ M b ∧ b ≠ pb ∧ w0.heap.size ≤ b) : PC w0 pb sb mb tv mv N M s r w' := by
  have hK : ∀ b, b < w.heap.size → K b → ¬ N b ∧ ¬ M b ∧ b ≠ pb ∧ w0.heap.size ≤ b := fun b h1 h2 => hk b h2 h1
  refine ⟨h.blk.fr f fun hp => (hK pb h.blk.lt hp).2.2.1 rfl, h.sp.fr f fun b hn hp => (hK b (h.sp.2.1 b hn).2 hp).1 hn, h.rf.fr f fun b hm hp => (hK b (h.rf.lt b hm).2 hp).2.1 hm, h.apart, h.pn, h.pm, h.le, ?_⟩
  exact ⟨f.os.trans h.below.os, f.tape.trans h.below.tape, f.output.trans h.below.output, Nat.le_trans h.below.size f.size, fun b hb => (f.block b (Nat.lt_of_lt_of_le hb h.below.size) fun hp => by have := (hK b (Nat.lt_of_lt_of_le hb h.below.size) hp).2.2.2; omega).trans (h.below.block b hb)⟩
theorem PC.kept (h : PC w0 pb sb mb tv mv N M s r w) (f : Below w.heap.size w w') : PC w0 pb sb mb tv mv N M s r w' :=
  h.fr (K := fun _ => False) (Fr.none_of f) fun _ h => h.elim
/-- What reopen leaves. -/
def ReTo (w0 : World) (pb sb mb : Nat) (s : St) (w' : World) : Prop :=
  ((openS s).2 = 0 ∧ ∃ tb rb N M, PO w0 pb sb tb mb rb N M ⟨(openS s).1, rowsB s.xs, false⟩ ⟨(openS s).1, rowsB s.xs, false⟩ w') ∨
  ((openS s).2 ≠ 0 ∧ ∃ N M, PC w0 pb sb mb (.pointer none) (.pointer none) N M (openS s).1 (openS s).1 w')
theorem reopen_any (h : PC w0 pb sb mb tv mv N M s s w) (hn : s.xs.length ≤ 1000000) :
    Calls Try.prog 24 #[.pointer (some ⟨pb, 0, none⟩)] w fun e w' => e = .returned (.bool true) ∧ ReTo w0 pb sb mb s w' ∧ Fr (fun b => N b ∨ M b ∨ b = pb) w w' := by
  have c0 := h.blk.cell 0
  have c1 := h.blk.cell 1
  have c2 := h.blk.cell 2
  have c3 := h.blk.cell 3
  have H := Lib.hid h
  have HO := Lib.hid (open_any h.sp hn)
  have HN := Lib.hid hn
  simp at c0 c1 c2 c3
  clear h hn
  go_enter Try.func24, Try.ntmps24
  go_wp2_with fail
  by_cases hz : (openS s).2 = 0
  · refine HO.out.mono ?_
    intro e w1 ho
    rcases ho with ⟨_, tb, N1, rfl, k1, n1, f1⟩ | ⟨h, _⟩
    case inr => exact absurd hz h
    have HZ := Lib.hid hz
    have K1 := Lib.hid k1
    have NN := Lib.hid n1
    have F1 := Lib.hid f1
    have R1 : Hid (Rf w1 w0.heap.size M mb s) := H.out.rf.fr f1 fun b hm hn => H.out.apart b hn hm
    have P1 : Hid (Blk w1 pb #[.pointer (some ⟨sb, 0, none⟩), tv, .pointer (some ⟨mb, 0, none⟩), mv] 35) := H.out.blk.fr f1 H.out.pn
    have x2 := P1.out.cell 2
    simp at x2
    have RO := Lib.hid (refOpen_any R1.out HN.out)
    clear hz k1 n1 f1 c0 c1 c2 c3
    go_wp2_with fail
    refine RO.out.mono ?_
    intro e w2 ho
    rcases ho with ⟨_, rb, M1, rfl, k2, n2, f2⟩ | ⟨h, _⟩
    case inr => exact absurd HZ.out h
    have hNM : Hid (∀ b, b < w1.heap.size → N1 b → ¬ M b) := fun b hb hn hm => H.out.apart b ((NN.out b (H.out.rf.lt b hm).2).1 hn) hm
    have K2 : Hid (Tk w2 w0.heap.size N1 sb tb ⟨(openS s).1, rowsB s.xs, false⟩) := K1.out.fr f2 fun b hn hm => hNM.out b (K1.out.lt b hn).2 hn hm
    have RK2 := Lib.hid k2
    have MM := Lib.hid n2
    have F2 := Lib.hid f2
    have P2 : Hid (Blk w2 pb #[.pointer (some ⟨sb, 0, none⟩), tv, .pointer (some ⟨mb, 0, none⟩), mv] 35) := P1.out.fr f2 H.out.pm
    have y1 := P2.out.cell 1
    have y3 := P2.out.cell 3
    have g1 := P2.out.free 1
    have g3 := P2.out.free 3
    simp at y1 y3
    clear k2 n2 f2 x2
    go_wp2_with fail
    go_returns
    have FF : Fr (fun b => N b ∨ M b ∨ b = pb) w ((w2.setCell ⟨pb, 1, none⟩ (.pointer (some ⟨tb, 0, none⟩))).setCell ⟨pb, 3, none⟩ (.pointer (some ⟨rb, 0, none⟩))) :=
      (((F1.out.mono fun b _ h => Or.inl h).trans F2.out fun b _ h => .inr (.inl h)).trans (Fr.one w2 pb 1 _) fun b _ e => .inr (.inr e)).trans (Fr.one _ pb 3 _) fun b _ e => .inr (.inr e)
    refine ⟨rfl, .inl ⟨HZ.out, tb, rb, N1, M1, ?_⟩, FF⟩
    have F3 := (Fr.one w2 pb 1 (.pointer (some ⟨tb, 0, none⟩))).trans (Fr.one _ pb 3 (.pointer (some ⟨rb, 0, none⟩))) fun _ _ h => h
    have hp1 : pb < w1.heap.size := P1.out.lt
    have n1 : ¬ N1 pb := fun h => H.out.pn ((NN.out pb H.out.blk.lt).1 h)
    have m1 : ¬ M1 pb := fun h => H.out.pm ((MM.out pb hp1).1 h)
    refine ⟨Blk.set (Blk.set P2.out 1 _) 3 _, K2.out.fr F3 fun b hn e => n1 (e ▸ hn), RK2.out.fr F3 fun b hm e => m1 (e ▸ hm), fun b hn hm => ?_, n1, m1, H.out.le, ?_⟩
    · have hb := (K1.out.lt b hn).2
      exact hNM.out b hb hn ((MM.out b hb).1 hm)
    · exact below_fr (below_fr (below_fr H.out.below rfl F1.out fun b hb => (H.out.sp.2.1 b hb).1) rfl F2.out fun b hb => (H.out.rf.lt b hb).1) rfl F3 fun b e => e ▸ H.out.le
  · refine HO.out.mono ?_
    intro e w1 ho
    rcases ho with ⟨h, _⟩ | ⟨_, rfl, k1⟩
    case inl => exact absurd h hz
    have HZ := Lib.hid hz
    obtain ⟨N1, hP1, f1, _⟩ := H.out.toS k1
    have F1 := Lib.hid f1
    have P1 := Lib.hid hP1
    have x2 := hP1.blk.cell 2
    simp at x2
    have RO := Lib.hid (refOpen_any hP1.rf HN.out)
    clear hz k1 f1 c0 c1 c2 c3 hP1
    go_wp2_with fail
    refine RO.out.mono ?_
    intro e w2 ho
    rcases ho with ⟨h, _⟩ | ⟨_, rfl, k2⟩
    case inl => exact absurd h HZ.out
    obtain ⟨M1, hP2, f2, _⟩ := P1.out.toR k2
    have F2 := Lib.hid f2
    have P2 := Lib.hid hP2
    have y1 := hP2.blk.cell 1
    have y3 := hP2.blk.cell 3
    have g1 := hP2.blk.free 1
    have g3 := hP2.blk.free 3
    simp at y1 y3
    clear k2 f2 x2 hP2
    go_wp2_with fail
    go_returns
    have FF : Fr (fun b => N b ∨ M b ∨ b = pb) w ((w2.setCell ⟨pb, 1, none⟩ (.pointer none)).setCell ⟨pb, 3, none⟩ (.pointer none)) :=
      (((F1.out.mono fun b _ h => Or.inl h).trans F2.out fun b _ h => .inr (.inl h)).trans (Fr.one w2 pb 1 _) fun b _ e => .inr (.inr e)).trans (Fr.one _ pb 3 _) fun b _ e => .inr (.inr e)
    refine ⟨rfl, .inr ⟨HZ.out, N1, M1, ?_⟩, FF⟩
    have F3 := (Fr.one w2 pb 1 (.pointer none)).trans (Fr.one _ pb 3 (.pointer none)) fun _ _ h => h
    have h := P2.out
    exact ⟨Blk.set (Blk.set h.blk 1 _) 3 _, h.sp.fr F3 fun b hn e => h.pn (e ▸ hn), h.rf.fr F3 fun b hm e => h.pm (e ▸ hm), h.apart, h.pn, h.pm, h.le, below_fr h.below rfl F3 fun b e => e ▸ h.le⟩
end
end

section
open Go Go.RowKit Go.Lib
def t00 (room : Int) : TS := ⟨⟨room, [], 0, -1, false⟩, [], false⟩
theorem open00 (room : Int) : openS ⟨room, [], 0, -1, false⟩ = (⟨room, [], 0, -1, false⟩, 0) := by
  unfold openS; dsimp only
  rw [k0.1]; rfl
theorem opened_bad (room : Int) (w : World) (h : room < 1 ∨ 1048576 < room) :
    Calls Try.prog 10 #[.int .i64 room] w fun e w' => e = .returned (.pointer none) ∧ w' = w := by
  have N1 := Lib.hid (new_bad room w h)
  have N2 := Lib.hid (refNew_bad room w h)
  clear h
  go_enter Try.func10, Try.ntmps10
  go_wp2_with fail
  refine N1.out.mono ?_; rintro e w ⟨rfl, rfl⟩
  go_wp2_with fail
  refine N2.out.mono ?_; rintro e w ⟨rfl, rfl⟩
  go_wp2_with fail
  go_returns
  exact ⟨rfl, rfl⟩
theorem opened_any (room : Int) (w : World) (h1 : 1 ≤ room) (h2 : room ≤ 1048576) :
    Calls Try.prog 10 #[.int .i64 room] w fun e w' => ∃ pb sb tb mb rb N M, e = .returned (.pointer (some ⟨pb, 0, none⟩)) ∧ PO w pb sb tb mb rb N M (t00 room) (t00 room) w' := by
  have HN := Lib.hid (new_any room w w.heap.size h1 h2 (Nat.le_refl _))
  have HM : Hid (∀ w1, w.heap.size ≤ w1.heap.size → Calls Try.prog 31 #[.int .i64 room] w1 fun e w' => e = .returned (.tuple #[.pointer (some ⟨w1.heap.size, 0, none⟩), .int .i64 0]) ∧
      Rf w' w.heap.size (fun b => b = w1.heap.size) w1.heap.size ⟨room, [], 0, -1, false⟩ ∧ Below w1.heap.size w1 w' ∧ w'.heap.size = w1.heap.size + 1) := fun w1 h => refNew_any room w1 w.heap.size h1 h2 h
  clear h1 h2
  go_enter Try.func10, Try.ntmps10
  go_wp2_with fail
  refine HN.out.mono ?_; rintro e w1 ⟨rfl, hs1, hb1, hz1⟩
  have S1 := Lib.hid hs1
  have B1 := Lib.hid hb1
  have Z1 := Lib.hid hz1
  clear hs1 hb1 hz1
  go_wp2_with fail
  refine (HM.out w1 B1.out.size).mono ?_; rintro e w2 ⟨rfl, hm2, hb2, hz2⟩
  have M2 := Lib.hid hm2
  have B2 := Lib.hid hb2
  have Z2 := Lib.hid hz2
  clear hm2 hb2 hz2
  go_wp2_with fail
  have PCc : Hid (PC w w2.heap.size w.heap.size w1.heap.size (.pointer none) (.pointer none) (fun b => b = w.heap.size) (fun b => b = w1.heap.size) ⟨room, [], 0, -1, false⟩ ⟨room, [], 0, -1, false⟩ (w2.alloc (.cells #[.pointer (some ⟨w.heap.size, 0, none⟩), .pointer none, .pointer (some ⟨w1.heap.size, 0, none⟩), .pointer none] 35))) := by
    have z1 := Z1.out; have z2 := Z2.out; have b2 := B2.out
    exact ⟨Blk.new _ _ _, (S1.out.kept b2).alloc _, M2.out.kept ((Below.refl _ _).alloc (Nat.le_refl _) _), fun b e1 e2 => by omega, fun e => by omega, fun e => by omega, by omega, (B1.out.trans (b2.mono B1.out.size)).alloc (by omega) _⟩
  refine (reopen_any PCc.out (Nat.zero_le _)).mono ?_
  intro e w3 ho
  obtain ⟨rfl, h3, _⟩ := ho
  unfold ReTo at h3
  rw [open00, k0.1] at h3
  rcases h3 with ⟨_, tb, rb, N, M, h3⟩ | ⟨h3, _⟩
  · have H3 := Lib.hid h3
    clear h3
    go_wp2_with fail
    go_returns
    exact ⟨_, _, _, _, _, _, _, rfl, H3.out⟩
  · exact absurd rfl h3
def begB (l f : List (List UInt8)) : Bool := decide (f.length ≤ l.length) && (l.take f.length == f)
theorem below_drewn (w : World) (n : Nat) : Below w.heap.size w (w.drewN n) := ((Fr.refl (fun _ => False) w).drewN n).below (Nat.le_refl _) fun _ h => h.elim
theorem RdL.drewN {w : World} {v : Value} {xs : List (List UInt8)} (h : RdL w v xs) (n : Nat) : RdL (w.drewN n) v xs := h.kept (below_drewn w n)
theorem begins_any {w : World} {v1 v2 : Value} {xs ys : List (List UInt8)} (h1 : RdL w v1 xs) (h2 : RdL w v2 ys) :
    Calls Try.prog 25 #[v1, v2] w fun e w' => e = .returned (.bool (begB xs ys)) ∧ ∃ n, w' = w.drewN n := by
  obtain ⟨A, c, rfl, hc1, hc2⟩ := h1.form
  obtain ⟨B, d, rfl, hd1, hd2⟩ := h2.form
  unfold maxLen at hc2 hd2
  by_cases hl : ys.length ≤ xs.length
  · have t1 : decide ((ys.length : Int) ≤ xs.length) = true := decide_eq_true (by omega)
    have t1' : (ys.length : Int) ≤ xs.length := by omega
    have SM := Lib.hid (sameLists_any (h1.take ys.length hl) h2)
    have HE : Hid (begB xs ys = (xs.take ys.length == ys)) := by unfold begB Hid; rw [decide_eq_true hl, Bool.true_and]
    have hyc : ys.length ≤ c := by omega
    clear h1 h2
    go_enter Try.func25, Try.ntmps25
    go_wp2_with fail
    refine SM.out.mono ?_; rintro e w1 ⟨rfl, n, rfl⟩
    go_wp2_with fail
    go_returns
    exact ⟨by rw [HE.out]; rfl, n, rfl⟩
  · have t1 : decide ((ys.length : Int) ≤ xs.length) = false := decide_eq_false (by omega)
    have t1' : ¬ (ys.length : Int) ≤ xs.length := by omega
    have HE : Hid (begB xs ys = false) := by unfold begB Hid; rw [decide_eq_false hl, Bool.false_and]
    clear h1 h2
    go_enter Try.func25, Try.ntmps25
    go_wp2_with fail
    go_returns
    exact ⟨by rw [HE.out]; rfl, 0, rfl⟩
theorem flat_rows : ∀ (n : Nat) (r : List UInt8), r.length ≤ n → flatB (rowsB r) = r.take (endL (rowsB r)) := by
  intro n
  induction n with
  | zero =>
    intro r hr
    obtain rfl : r = [] := List.eq_nil_of_length_eq_zero (by omega)
    rw [rowsB_no isB_nil]; rfl
  | succ n ih =>
    intro r hr
    cases h : isB r with
    | false => rw [rowsB_no h]; rfl
    | true =>
      have h1 := isB_len h
      have h2 := bodyB_len h
      have h3 := isB_takes r h
      have i1 := ih (r.drop (lenB r + 7)) (by rw [List.length_drop]; omega)
      rw [rowsB_yes h, flatB_cons, i1, endL_cons, h2, h3]
      exact List.take_add.symm
/-- What was read is read again. -/
theorem rows_again (r : List UInt8) : rowsB (r.take (endL (rowsB r))) = rowsB r := by
  have h := rows_flat (rowsB r) [] (rows_bd r).1
  rw [List.append_nil, flat_rows _ r (Nat.le_refl _), rowsB_no isB_nil, List.append_nil] at h
  exact h
end

section
open Go Go.ChangeShapes Go.WideShapes Go.ChangeAt Go.RowKit Go.Deep Go.Lib
theorem addT_room (t : TS) (r : List UInt8) : (addT t r).1.s.room = t.s.room := by
  have h1 : ∀ s ys, (addS s ys).1.room = s.room := fun s ys => by unfold addS; split <;> (try split) <;> (try split) <;> rfl
  have h2 : ∀ s, (syncS s).1.room = s.room := fun s => by unfold syncS; split <;> (try split) <;> rfl
  unfold addT notT appT
  split
  · rfl
  · split
    · rfl
    · split <;> (try split) <;> (try split) <;> simp_all
/-- A spool that does not fail is opened. -/
theorem openS_ok (s : St) (ho : s.off = false) (hl : s.left < 0) : (openS s).2 = 0 ∧ rowsB (openS s).1.xs = rowsB s.xs ∧ (openS s).1.off = false ∧ (openS s).1.left < 0 ∧ (openS s).1.room = s.room ∧ (s.sure = s.xs.length → (openS s).1.sure = (openS s).1.xs.length) := by
  have h := rows_bd s.xs
  unfold openS
  rw [ho, if_neg (by decide)]
  by_cases hlt : endL (rowsB s.xs) < s.xs.length
  · rw [if_pos hlt, cutS_ok s _ ho (Nat.le_of_lt hlt) hl]
    refine ⟨rfl, rows_again s.xs, ho, hl, rfl, fun _ => ?_⟩
    show endL (rowsB s.xs) = (s.xs.take (endL (rowsB s.xs))).length
    rw [List.length_take]; omega
  · rw [if_neg hlt]
    exact ⟨rfl, rfl, ho, hl, rfl, fun h => h⟩
theorem open_room (s : St) : (openS s).1.room = s.room := by
  have h3 : ∀ s n, (cutS s n).1.room = s.room := fun s n => by unfold cutS; split <;> (try split) <;> (try split) <;> rfl
  unfold openS
  split
  · rfl
  · split
    · exact h3 _ _
    · rfl
theorem crash_still (s : St) (h : s.sure = s.xs.length) : (crashS s 0).xs = s.xs ∧ (crashS s 0).off = false ∧ (crashS s 0).left < 0 := by
  have e : crashN s 0 = s.xs.length := by unfold crashN; rw [h]; simp
  unfold crashS
  rw [e]
  exact ⟨List.take_of_length_le (Nat.le_refl _), rfl, by show (-1 : Int) < 0; decide⟩
theorem crash_sure (s : St) (k : Int) (h : s.sure ≤ s.xs.length) : (crashS s k).sure = (crashS s k).xs.length ∧ (crashS s k).off = false ∧ (crashS s k).left < 0 ∧ (crashS s k).room = s.room := by
  refine ⟨?_, rfl, by show (-1 : Int) < 0; decide, rfl⟩
  show crashN s k = (s.xs.take (crashN s k)).length
  rw [List.length_take]; unfold crashN; omega
/-- One record of those that came in, later. -/
theorem rowl_at {w W : World} {A : Option Addr} {n c : Nat} {l : List (List UInt8)} (h : RowOf w 1 (fun cs (xs : List UInt8) => ∃ v, cs = [v] ∧ Rd w (· < w.heap.size) v (bts xs)) (.slice A n c) l) (hB : Below w.heap.size w W) {k : Nat} (hk : k < l.length) :
    ∃ b off v, A = some ⟨b, off, none⟩ ∧ W.cell? ⟨b, off + k, none⟩ = some v ∧ Rd W (· < w.heap.size) v (bts (l[k]'hk)) ∧ b < w.heap.size := by
  obtain ⟨A', c', h1, h2, h3, h4⟩ := h
  injection h1 with h1 _ _
  subst h1
  obtain ⟨b, off, rfl, hb, hi⟩ := h4 (by omega)
  obtain ⟨cs, ⟨v, rfl, hR⟩, hl, hc⟩ := hi k (l[k]'hk) (List.getElem?_eq_getElem hk)
  refine ⟨b, off, v, rfl, ?_, hR.kept hB, hb⟩
  have := hc 0 (by decide)
  rw [Nat.mul_one, Nat.add_zero] at this
  rw [World.cell?_of_block (w := w) (hB.block b hb)]; exact this
/-- The records that were answered, as the law keeps them. -/
structure Sure (w wr : World) (pb : Nat) (N M : Nat → Prop) (sv : Value) (S : List (List UInt8)) : Prop where
  own : ∃ gs, gs.length = S.length ∧ wr.ownsRow w.heap.size 37 1 sv S.length gs ∧ ∀ (i : Nat) (u : Value) (x : List UInt8), gs[i]? = some u → S[i]? = some x → Rd wr (· < w.heap.size) u (bts x)
  apart : ∀ g, sv.ownBlock = some g → ¬ N g ∧ ¬ M g ∧ g ≠ pb
section
variable {w wr w' : World} {pb : Nat} {N M N' M' K : Nat → Prop} {sv : Value} {S : List (List UInt8)}
theorem Sure.fr (h : Sure w wr pb N M sv S) (f : Fr K wr w') (hk : ∀ g, sv.ownBlock = some g → ¬ K g) (hw : ∀ b, b < w.heap.size → ¬ K b) (hN : ∀ g, g < wr.heap.size → ¬ N g → ¬ N' g) (hM : ∀ g, g < wr.heap.size → ¬ M g → ¬ M' g) : Sure w w' pb N' M' sv S := by
  obtain ⟨⟨gs, h1, h2, h3⟩, h4⟩ := h
  exact ⟨⟨gs, h1, owns_fr h2 f hk, fun i u x hu hx => (h3 i u x hu hx).fr f fun b hb _ => hw b hb⟩, fun g hg => ⟨hN g (owns_lt h2 hg) (h4 g hg).1, hM g (owns_lt h2 hg) (h4 g hg).2.1, (h4 g hg).2.2⟩⟩
theorem Sure.kept (h : Sure w wr pb N M sv S) (f : Below wr.heap.size wr w') : Sure w w' pb N M sv S :=
  h.fr (K := fun _ => False) (Fr.none_of f) (fun _ _ h => h) (fun _ _ h => h) (fun _ _ h => h) fun _ _ h => h
theorem Sure.rdl (h : Sure w wr pb N M sv S) : RdL wr sv S := by
  obtain ⟨⟨gs, h1, h2, h3⟩, _⟩ := h
  rw [← h1] at h2
  exact ⟨gs, h1, Rd.of_owns h2 fun _ _ => trivial, fun i u x hu hx => (h3 i u x hu hx).mono fun _ _ _ => trivial⟩
end
/-- The sizes, one by one. -/
def SzLp (l : List (List UInt8)) (nv iv : Value) : Prop := ∃ k n : Nat, k ≤ l.length ∧ k ≤ 61 ∧ n ≤ 20000 ∧ nv = .int .i64 n ∧ iv = .int .i64 k
/-- Where the law's loop stands, and how it ends. -/
def Mid (w : World) (l : List (List UInt8)) (pb sb mb : Nat) (i : Nat) (nx : List UInt8) (sv nv : Value) (wr : World) : Prop :=
  ∃ (S : List (List UInt8)) (t : TS) (tb rb : Nat) (N M : Nat → Prop), S.length ≤ i ∧ PO w pb sb tb mb rb N M t t wr ∧ t.s.room = 60000 ∧ Sure w wr pb N M sv S ∧ Rd wr (· < w.heap.size) nv (bts nx)
def SfLp (w : World) (l : List (List UInt8)) (pb sb mb : Nat) (sv nv iv : Value) (wr : World) : Prop :=
  ∃ i : Nat, i ≤ l.length ∧ iv = .int .i64 i ∧ nv = .slice none 0 0 ∧ Mid w l pb sb mb i [] sv nv wr
def SfTo (w : World) (l : List (List UInt8)) (pb sb mb : Nat) (sv nv : Value) (wr : World) : Prop := ∃ nx, Mid w l pb sb mb l.length nx sv nv wr
theorem refTAdd_at {w : World} {base mb rb : Nat} {N K : Nat → Prop} {t t' : TS} {rv : Value} {r : List UInt8} {n : Int} (hr : addT t r = (t', n)) (h : Rk w base N mb rb t) (hR : Rd w K rv (bts r)) (hK : ∀ b, K b → ¬ N b) :
    Calls Try.prog 21 #[.pointer (some ⟨rb, 0, none⟩), rv] w fun e w' => e = .returned (.int .i64 n) ∧ RkTo w base N mb rb t' w' := by
  have := refTapeAdd_any h hR hK; rw [hr] at this; exact this
theorem Sure.one {w wr : World} {gs : List Value} {S : List (List UInt8)} (h1 : gs.length = S.length) (h3 : ∀ (i : Nat) (u : Value) (x : List UInt8), gs[i]? = some u → S[i]? = some x → Rd wr (· < w.heap.size) u (bts x)) : ∀ u ∈ gs, u.oneCell' = true := by
  intro u hu
  obtain ⟨i, hi, rfl⟩ := List.mem_iff_getElem.1 hu
  obtain ⟨A, c, e, _⟩ := h3 i _ _ (List.getElem?_eq_getElem hi) (List.getElem?_eq_getElem (by omega))
  rw [e]; rfl
theorem sure_push {w wr w' : World} {pb : Nat} {N M : Nat → Prop} {sv sv' u : Value} {S : List (List UInt8)} {gs : List Value} {x : List UInt8} {o : Obj} (h1 : gs.length = S.length)
    (h3 : ∀ (i : Nat) (u : Value) (x : List UInt8), gs[i]? = some u → S[i]? = some x → Rd wr (· < w.heap.size) u (bts x)) (h4 : ∀ g, sv.ownBlock = some g → ¬ N g ∧ ¬ M g ∧ g ≠ pb) (hu : Rd wr (· < w.heap.size) u (bts x))
    (o' : w'.ownsRow w.heap.size 37 1 sv' (S.length + 1) (gs ++ [u])) (g : (wr.alloc o).grownBy w' sv.ownBlock) (hbl : sv'.ownBlock = sv.ownBlock ∨ sv'.ownBlock = some (wr.heap.size + 1))
    (hsv : ∀ g, sv.ownBlock = some g → w.heap.size ≤ g) (hN : ∀ b, N b → b < wr.heap.size) (hM : ∀ b, M b → b < wr.heap.size) (hp : pb < wr.heap.size) : Sure w w' pb N M sv' (S ++ [x]) := by
  have F : Fr (fun b => sv.ownBlock = some b) wr w' := ((Fr.refl _ wr).alloc o).grown g fun b hb => .inl hb
  have hl : (S ++ [x]).length = S.length + 1 := by simp
  refine ⟨⟨gs ++ [u], by simp [h1], by rw [hl]; exact o', fun i v y hv hy => ?_⟩, fun g hg => ?_⟩
  · have key : Rd wr (· < w.heap.size) v (bts y) := by
      rcases Nat.lt_or_ge i gs.length with hi | hi
      · rw [List.getElem?_append_left hi] at hv
        rw [List.getElem?_append_left (by omega)] at hy
        exact h3 i v y hv hy
      · rw [List.getElem?_append_right hi] at hv
        rw [List.getElem?_append_right (by omega)] at hy
        obtain ⟨e, rfl⟩ : i - gs.length = 0 ∧ u = v := by
          cases hk : i - gs.length with
          | zero => rw [hk] at hv; simpa using hv
          | succ k => rw [hk] at hv; simp at hv
        obtain rfl : x = y := by
          rw [show i - S.length = 0 by omega] at hy; simpa using hy
        exact hu
    exact key.fr F fun b hb _ hk => by have := hsv b hk; omega
  · rcases hbl with e | e
    · exact h4 g (e ▸ hg)
    · rw [e] at hg
      injection hg with hg
      exact ⟨fun h => by have := hN g h; omega, fun h => by have := hM g h; omega, by omega⟩
end

end Go.Proofs.Ytgohnidndjbjiaa
