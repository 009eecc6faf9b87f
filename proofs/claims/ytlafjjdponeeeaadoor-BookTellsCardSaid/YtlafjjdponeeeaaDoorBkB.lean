/-
  book.Parse: at any text.
-/
import Derived.Test.YtlafjjdponeeeaaDoorBkA
import Derived.Test.YtlafjjdponeeeaaDoorCh
import Derived.Test.YtlafjjdponeeeaaDoorSpN
import Derived.Test.YtlafjjdponeeeaaDoorFmU
namespace Go.Proofs.YtlafjjdponeeeaaDoor
open Go Go.RowKit Go.Lib
set_option linter.unusedVariables false

/-- What the library's contracts ask of the world. -/
structure EnvB (w : World) : Prop where
  mx : ∃ m, w.cell? ⟨3, 0, none⟩ = some (.int .i64 m)
  tab : TabW w
  u8 : U8W w
theorem EnvB.next {w w' : World} (h : EnvB w) (hb : Below w.heap.size w w') : EnvB w' := ⟨by obtain ⟨m, hm⟩ := h.mx; exact ⟨m, cell_next hb hm⟩, h.tab.next hb, h.u8.next hb⟩

def optN (o : Option Nat) : Nat := o.getD 0
theorem numR_opt (o : Option Nat) : numR o = .tuple #[.int .i64 (optN o), .bool o.isSome] := by cases o <;> rfl
/-- What a line's five words make, by the program's own tests. -/
def errW (a b c d e : Bs) : Bool :=
  !(numP a).isSome || decide (4294967295 < optN (numP a)) || !nameB ⟨b.toArray⟩ || !(cutV 120 c).2.2 || !(numP (cutV 120 c).1).isSome || !(numP (cutV 120 c).2.1).isSome || !(howW d).isSome || !(numP e).isSome
def chW (a b c d e : Bs) : Chg := ⟨optN (numP a), ⟨b.toArray⟩, optN (numP (cutV 120 c).1), optN (numP (cutV 120 c).2.1), optN (howW d), optN (numP e)⟩
theorem readW_eq (a b c d e : Bs) : readW a b c d e = if errW a b c d e = true then (zeroCh, 60) else if okCh (chW a b c d e) = true then (chW a b c d e, 0) else (zeroCh, 200) := by
  unfold readW errW chW cutV
  cases numP a with
  | none => rfl
  | some i =>
    cases cut1 120 c with
    | none => simp
    | some p =>
      obtain ⟨l, r⟩ := p
      cases howW d with
      | none => simp
      | some h =>
        cases numP e with
        | none => simp
        | some x =>
          simp only
          cases numP l with
          | none => simp
          | some k =>
            cases numP r with
            | none => simp
            | some z =>
              simp only
              by_cases hq : 4294967295 < i ∨ nameB ⟨b.toArray⟩ = false
              · rw [if_pos hq, if_pos]
                rcases hq with hq | hq
                · simp [optN, hq]
                · simp [hq]
              · have h1 : ¬ 4294967295 < i := fun q => hq (.inl q)
                have h2 : nameB ⟨b.toArray⟩ = true := by
                  cases hb : nameB ⟨b.toArray⟩
                  · exact absurd (.inr hb) hq
                  · rfl
                rw [if_neg hq]
                simp [optN, h1, h2]
                rfl
theorem parse_five {s : Bs} (h : (splitK 32 5 s).length = 5) : parseL s = readW (nthB (splitK 32 5 s) 0) (nthB (splitK 32 5 s) 1) (nthB (splitK 32 5 s) 2) (nthB (splitK 32 5 s) 3) (nthB (splitK 32 5 s) 4) := by
  unfold parseL
  generalize splitK 32 5 s = ws at *
  match ws, h with
  | [a, b, c, d, e], _ => rfl
theorem parse_other {s : Bs} (h : (splitK 32 5 s).length ≠ 5) : parseL s = (zeroCh, 60) := by
  unfold parseL
  split
  · rename_i h2; rw [h2] at h; exact absurd rfl h
  · rfl
theorem optN_lt {s : Bs} : optN (numP s) < 10000000000000 := by
  cases h : numP s with
  | none => show 0 < _; omega
  | some n => exact numP_lt h
/-- A charge stored over a charge. -/
def set6 (w : World) (g : Nat) (c : Chg) : World := (((((w.setCell ⟨g, 0, none⟩ (.int .u32 c.id)).setCell ⟨g, 1, none⟩ (.string c.acct)).setCell ⟨g, 2, none⟩ (.int .i64 c.wk)).setCell ⟨g, 3, none⟩ (.int .i64 c.sc)).setCell ⟨g, 4, none⟩ (.int .i64 c.how)).setCell ⟨g, 5, none⟩ (.int .i64 c.ax)
theorem blk_set6 {w : World} {g : Nat} {d c : Chg} {t : TypeId} (h : Blk w g (chCs d) t) : Blk (set6 w g c) g (chCs c) t := (((((h.set 0 _).set 1 _).set 2 _).set 3 _).set 4 _).set 5 _
theorem below_set6 {w w' : World} {n g : Nat} {c : Chg} (h : Below n w w') (hg : n ≤ g) : Below n w (set6 w' g c) :=
  (((((h.setCell (p := ⟨g, 0, none⟩) hg _).setCell (p := ⟨g, 1, none⟩) hg _).setCell (p := ⟨g, 2, none⟩) hg _).setCell (p := ⟨g, 3, none⟩) hg _).setCell (p := ⟨g, 4, none⟩) hg _).setCell (p := ⟨g, 5, none⟩) hg _
structure Ch0 (w : World) (b : Nat) (c : Chg) : Prop where
  c0 : w.cell? ⟨b, 0, none⟩ = some (.int .u32 c.id)
  c1 : w.cell? ⟨b, 1, none⟩ = some (.string c.acct)
  c2 : w.cell? ⟨b, 2, none⟩ = some (.int .i64 c.wk)
  c3 : w.cell? ⟨b, 3, none⟩ = some (.int .i64 c.sc)
  c4 : w.cell? ⟨b, 4, none⟩ = some (.int .i64 c.how)
  c5 : w.cell? ⟨b, 5, none⟩ = some (.int .i64 c.ax)
theorem ch0 {w : World} {b : Nat} {c : Chg} {t : TypeId} (h : Blk w b (chCs c) t) : Ch0 w b c := ⟨h.cell 0, h.cell 1, h.cell 2, h.cell 3, h.cell 4, h.cell 5⟩
theorem end6 {w w1 : World} {n g : Nat} {d : Chg} {t : TypeId} (h : Blk w1 g (chCs d) t) (hB : Below n w w1) (hg : n ≤ g) (c : Chg) :
    ∃ W6, (((((w1.setCell ⟨g, 0, none⟩ (.int .u32 c.id)).setCell ⟨g, 1, none⟩ (.string c.acct)).setCell ⟨g, 2, none⟩ (.int .i64 c.wk)).setCell ⟨g, 3, none⟩ (.int .i64 c.sc)).setCell ⟨g, 4, none⟩ (.int .i64 c.how)).setCell ⟨g, 5, none⟩ (.int .i64 c.ax) = W6 ∧ Ch0 W6 g c ∧ Below n w W6 :=
  ⟨_, rfl, ch0 (blk_set6 h), below_set6 hB hg⟩
/-- Five words in a row. -/
structure Five (w : World) (g : Nat) (a b c d e : ByteArray) : Prop where
  s0 : w.cell? ⟨g, 0, none⟩ = some (.string a)
  s1 : w.cell? ⟨g, 1, none⟩ = some (.string b)
  s2 : w.cell? ⟨g, 2, none⟩ = some (.string c)
  s3 : w.cell? ⟨g, 3, none⟩ = some (.string d)
  s4 : w.cell? ⟨g, 4, none⟩ = some (.string e)
theorem Five.kept {w w' : World} {g : Nat} {a b c d e : ByteArray} (h : Five w g a b c d e) (hb : Below w.heap.size w w') : Five w' g a b c d e :=
  ⟨cell_next hb h.s0, cell_next hb h.s1, cell_next hb h.s2, cell_next hb h.s3, cell_next hb h.s4⟩
theorem mk_toList (l : Bs) : (⟨l.toArray⟩ : ByteArray).data.toList = l := by simp
theorem mk_size (l : Bs) : (⟨l.toArray⟩ : ByteArray).size = l.length := by show l.toArray.size = _; simp
theorem sl_size (s : ByteArray) : s.data.toList.length = s.size := Array.length_toList
structure Free6 (w : World) (b : Nat) : Prop where
  f0 : w.frozen? ⟨b, 0, none⟩ = false
  f1 : w.frozen? ⟨b, 1, none⟩ = false
  f2 : w.frozen? ⟨b, 2, none⟩ = false
  f3 : w.frozen? ⟨b, 3, none⟩ = false
  f4 : w.frozen? ⟨b, 4, none⟩ = false
  f5 : w.frozen? ⟨b, 5, none⟩ = false
theorem free6 {w : World} {b : Nat} {d : Chg} {t : TypeId} (h : Blk w b (chCs d) t) : Free6 w b := ⟨h.free 0, h.free 1, h.free 2, h.free 3, h.free 4, h.free 5⟩
set_option maxRecDepth 100000 in
set_option maxHeartbeats 8000000 in
theorem parseBk_any (s : ByteArray) (w : World) (hs : s.size < 4294967281) (hE : EnvB w) :
    Calls Tryd.prog 10 #[.string s] w fun e w' => e = .returned (.tuple #[chV (parseL s.data.toList).1, .int .i64 (parseL s.data.toList).2]) ∧ Below w.heap.size w w' := by
  obtain ⟨m, hm⟩ := hE.mx
  have hlen : s.data.toList.length = s.size := Array.length_toList
  have HSP : Hid (∀ w1, Below w.heap.size w w1 → Calls Tryd.prog 24 #[.string s, .string ⟨#[32]⟩, .int .i64 6] w1 fun e w' => ∃ cap, e = .returned (.slice (some ⟨w1.heap.size, 0, none⟩) (splitK 32 5 s.data.toList).length cap) ∧ (splitK 32 5 s.data.toList).length ≤ cap ∧ cap ≤ 6 ∧
      (∀ i, i < (splitK 32 5 s.data.toList).length → w'.cell? ⟨w1.heap.size, i, none⟩ = some (.string ⟨(nthB (splitK 32 5 s.data.toList) i).toArray⟩)) ∧ Below w1.heap.size w1 w' ∧ w1.heap.size < w'.heap.size) := fun w1 hb => splitN_any s 32 5 m w1 hs (cell_next hb hm) (by omega)
  have H5 : Hid ((splitK 32 5 s.data.toList).length = 5 → parseL s.data.toList = readW (nthB (splitK 32 5 s.data.toList) 0) (nthB (splitK 32 5 s.data.toList) 1) (nthB (splitK 32 5 s.data.toList) 2) (nthB (splitK 32 5 s.data.toList) 3) (nthB (splitK 32 5 s.data.toList) 4)) := parse_five
  have HO : Hid ((splitK 32 5 s.data.toList).length ≠ 5 → parseL s.data.toList = (zeroCh, 60)) := parse_other
  have HLN : Hid (∀ i, (nthB (splitK 32 5 s.data.toList) i).length ≤ s.size) := fun i => by have := nthB_len 32 5 s.data.toList i; omega
  generalize splitK 32 5 s.data.toList = ws at *
  generalize parseL s.data.toList = R at *
  clear hlen
  have HE := Lib.hid hE
  clear hE hm
  have hR := Lib.hid (Blk.new w #[.int .u32 0, .string ⟨#[]⟩, .int .i64 0, .int .i64 0, .int .i64 0, .int .i64 0] 24)
  have B0 := Lib.hid ((Below.refl w.heap.size w).alloc (Nat.le_refl _) (.cells #[.int .u32 0, .string ⟨#[]⟩, .int .i64 0, .int .i64 0, .int .i64 0, .int .i64 0] 24))
  obtain ⟨gR, hgR⟩ : ∃ g, g = w.heap.size := ⟨_, rfl⟩
  have hgw : w.heap.size ≤ gR := by omega
  rw [← hgR] at hR
  go_enter Tryd.func10, Tryd.ntmps10
  go_upto_region 1 with fail
  rw [← hgR]
  generalize w.alloc (.cells #[.int .u32 0, .string ⟨#[]⟩, .int .i64 0, .int .i64 0, .int .i64 0, .int .i64 0] 24) = W0 at *
  clear hgR
  go_wp2_with fail
  refine (HSP.out _ B0.out).mono ?_; rintro e w1 ⟨cap, rfl, hlc, hc6, hcells, b1, hlt1⟩
  have HC1 := Lib.hid hcells
  have hR1 := Lib.hid (hR.out.kept b1)
  have B1 := Lib.hid (below_next b1 B0.out)
  obtain ⟨gS, hgS⟩ : ∃ g, g = W0.heap.size := ⟨_, rfl⟩
  rw [← hgS] at HC1 ⊢
  clear HSP hcells b1 hR B0 hgS
  by_cases h5 : ws.length = 5
  · have t1 : (ws.length != 5) = false := by simpa using h5
    have t2 : ((ws.length : Int) != 5) = false := by simp; omega
    have hr := H5.out h5
    have L0 := HLN.out 0
    have L1 := HLN.out 1
    have L2 := HLN.out 2
    have L3 := HLN.out 3
    have L4 := HLN.out 4
    have F1 : Five w1 gS ⟨(nthB ws 0).toArray⟩ ⟨(nthB ws 1).toArray⟩ ⟨(nthB ws 2).toArray⟩ ⟨(nthB ws 3).toArray⟩ ⟨(nthB ws 4).toArray⟩ := ⟨HC1.out 0 (by omega), HC1.out 1 (by omega), HC1.out 2 (by omega), HC1.out 3 (by omega), HC1.out 4 (by omega)⟩
    rw [← mk_size] at L0 L1 L2 L3 L4
    rw [← mk_toList (nthB ws 0), ← mk_toList (nthB ws 1), ← mk_toList (nthB ws 2), ← mk_toList (nthB ws 3), ← mk_toList (nthB ws 4)] at hr
    clear H5 HO HLN HC1
    generalize (⟨(nthB ws 0).toArray⟩ : ByteArray) = sa at *
    generalize (⟨(nthB ws 1).toArray⟩ : ByteArray) = sb at *
    generalize (⟨(nthB ws 2).toArray⟩ : ByteArray) = sc at *
    generalize (⟨(nthB ws 3).toArray⟩ : ByteArray) = sd at *
    generalize (⟨(nthB ws 4).toArray⟩ : ByteArray) = se at *
    have hlc5 : (5 : Int) ≤ cap := by omega
    rw [h5]
    have eB : (⟨sb.data.toList.toArray⟩ : ByteArray) = sb := by simp
    rw [readW_eq] at hr
    unfold errW chW at hr
    rw [eB] at hr
    obtain ⟨m, hm⟩ := HE.out.mx
    have HCUT : Hid (∀ w', Below w.heap.size w w' → Calls Tryd.prog 25 #[.string sc, .string ⟨#[120]⟩] w' fun e w'' => e = .returned (.tuple #[.string ⟨(cutV 120 sc.data.toList).1.toArray⟩, .string ⟨(cutV 120 sc.data.toList).2.1.toArray⟩, .bool (cutV 120 sc.data.toList).2.2]) ∧ Below w'.heap.size w' w'') := fun w' hb => cut_any sc 120 m w' (by omega) (cell_next hb hm)
    have hCL := cutV_len 120 sc.data.toList
    rw [sl_size] at hCL
    generalize (cutV 120 sc.data.toList).2.2 = qx at *
    have NA : Hid (∀ w', Calls Tryd.prog 26 #[.string sa] w' fun e w'' => e = .returned (.tuple #[.int .i64 (optN (numP sa.data.toList)), .bool (numP sa.data.toList).isSome]) ∧ Below w'.heap.size w' w'') := fun w' => by have := numberBk_any sa w' (by omega); rwa [numR_opt] at this
    have NL : Hid (∀ w', Calls Tryd.prog 26 #[.string ⟨(cutV 120 sc.data.toList).1.toArray⟩] w' fun e w'' => e = .returned (.tuple #[.int .i64 (optN (numP (cutV 120 sc.data.toList).1)), .bool (numP (cutV 120 sc.data.toList).1).isSome]) ∧ Below w'.heap.size w' w'') := fun w' => by have := numberBk_any ⟨(cutV 120 sc.data.toList).1.toArray⟩ w' (by rw [mk_size]; omega); rwa [numR_opt, mk_toList] at this
    have NR : Hid (∀ w', Calls Tryd.prog 26 #[.string ⟨(cutV 120 sc.data.toList).2.1.toArray⟩] w' fun e w'' => e = .returned (.tuple #[.int .i64 (optN (numP (cutV 120 sc.data.toList).2.1)), .bool (numP (cutV 120 sc.data.toList).2.1).isSome]) ∧ Below w'.heap.size w' w'') := fun w' => by have := numberBk_any ⟨(cutV 120 sc.data.toList).2.1.toArray⟩ w' (by rw [mk_size]; omega); rwa [numR_opt, mk_toList] at this
    have NE : Hid (∀ w', Calls Tryd.prog 26 #[.string se] w' fun e w'' => e = .returned (.tuple #[.int .i64 (optN (numP se.data.toList)), .bool (numP se.data.toList).isSome]) ∧ Below w'.heap.size w' w'') := fun w' => by have := numberBk_any se w' (by omega); rwa [numR_opt] at this
    have HN : Hid (∀ w', Below w.heap.size w w' → Calls Tryd.prog 28 #[.string sb] w' fun e w'' => e = .returned (.bool (nameB sb)) ∧ Below w'.heap.size w' w'') := fun w' hb => name_any sb w' (by omega) (HE.out.u8.next hb)
    have HH : Hid (∀ w', Calls Tryd.prog 27 #[.string sd] w' fun e w'' => ∃ i : Int, e = .returned (.tuple #[.int .i64 i, .bool (howW sd.data.toList).isSome]) ∧ (∀ n, howW sd.data.toList = some n → i = n) ∧ Below w'.heap.size w' w'') := fun w' => howOf_any sd w'
    have HW8 : Hid (optN (howW sd.data.toList) ≤ 8) := by
      unfold Hid
      cases h : howW sd.data.toList with
      | none => exact Nat.zero_le _
      | some n => have := (howW_some h).2; show n ≤ 8; omega
    have HL1 : Hid (sb.size < 4294967281) := by unfold Hid; omega
    have bA : optN (numP sa.data.toList) < 10000000000000 := optN_lt
    have bL : optN (numP (cutV 120 sc.data.toList).1) < 10000000000000 := optN_lt
    have bR : optN (numP (cutV 120 sc.data.toList).2.1) < 10000000000000 := optN_lt
    have bE : optN (numP se.data.toList) < 10000000000000 := optN_lt
    generalize (numP sa.data.toList).isSome = ia at *
    generalize (numP (cutV 120 sc.data.toList).1).isSome = il at *
    generalize (numP (cutV 120 sc.data.toList).2.1).isSome = ir at *
    generalize (numP se.data.toList).isSome = ie at *
    generalize optN (numP sa.data.toList) = na at *
    generalize optN (numP (cutV 120 sc.data.toList).1) = nl at *
    generalize optN (numP (cutV 120 sc.data.toList).2.1) = nr at *
    generalize optN (numP se.data.toList) = ne at *
    generalize howW sd.data.toList = hw at *
    generalize (⟨(cutV 120 sc.data.toList).1.toArray⟩ : ByteArray) = sl at *
    generalize (⟨(cutV 120 sc.data.toList).2.1.toArray⟩ : ByteArray) = sr at *
    have tg1 : decide ((na : Int) > 4294967295) = decide (4294967295 < na) := decide_eq_decide.2 (by omega)
    have tg2 : decide (4294967295 < (na : Int)) = decide (4294967295 < na) := decide_eq_decide.2 (by omega)
    have HG : Hid (decide (4294967295 < na) = false → na ≤ 4294967295) := fun h => by have := of_decide_eq_false h; omega
    generalize decide (4294967295 < na) = g at *
    have hrH := Lib.hid hr
    have HF1 := Lib.hid F1
    obtain ⟨s0, s1, s2, s3, s4⟩ := F1
    clear hr eB L0 L1 L2 L3 L4 hCL hm hs
    go_wp2_with fail
    refine (HCUT.out _ B1.out).mono ?_; rintro e w2 ⟨rfl, b2⟩
    have F2 := Lib.hid (HF1.out.kept b2)
    have hR2 := Lib.hid (hR1.out.kept b2)
    have B2 := Lib.hid (below_next b2 B1.out)
    clear b2 s0 s1 s2 s3 s4 HF1 hR1 B1 HCUT
    obtain ⟨s0, s1, s2, s3, s4⟩ := F2.out
    go_wp2_with fail
    refine (NA.out _).mono ?_; rintro e w3 ⟨rfl, b3⟩
    have F3 := Lib.hid (F2.out.kept b3)
    have hR3 := Lib.hid (hR2.out.kept b3)
    have B3 := Lib.hid (below_next b3 B2.out)
    clear b3 s0 s1 s2 s3 s4 F2 hR2 B2 NA
    go_wp2_with fail
    refine (NL.out _).mono ?_; rintro e w4 ⟨rfl, b4⟩
    have F4 := Lib.hid (F3.out.kept b4)
    have hR4 := Lib.hid (hR3.out.kept b4)
    have B4 := Lib.hid (below_next b4 B3.out)
    clear b4 F3 hR3 B3 NL
    go_wp2_with fail
    refine (NR.out _).mono ?_; rintro e w5 ⟨rfl, b5⟩
    have F5 := Lib.hid (F4.out.kept b5)
    have hR5 := Lib.hid (hR4.out.kept b5)
    have B5 := Lib.hid (below_next b5 B4.out)
    clear b5 F4 hR4 B4 NR
    obtain ⟨s0, s1, s2, s3, s4⟩ := F5.out
    go_wp2_with fail
    refine (NE.out _).mono ?_; rintro e w6 ⟨rfl, b6⟩
    have F6 := Lib.hid (F5.out.kept b6)
    have hR6 := Lib.hid (hR5.out.kept b6)
    have B6 := Lib.hid (below_next b6 B5.out)
    clear b6 F5 hR5 B5 NE s0 s1 s2 s3 s4
    obtain ⟨s0, s1, s2, s3, s4⟩ := F6.out
    go_wp2_with fail
    refine (HH.out _).mono ?_; rintro e w7 ⟨hi, rfl, hhi, b7⟩
    have HI := Lib.hid hhi
    have F7 := Lib.hid (F6.out.kept b7)
    have hR7 := Lib.hid (hR6.out.kept b7)
    have B7 := Lib.hid (below_next b7 B6.out)
    have HN7 := Lib.hid (HN.out _ B7.out)
    clear b7 F6 hR6 B6 HH s0 s1 s2 s3 s4 hhi HN
    obtain ⟨s0, s1, s2, s3, s4⟩ := F7.out
    generalize hih : hw.isSome = ih at *
    go_upto_region 10 with fail
    go_cut [96] (fun v wx => v = .bool (!ia || g || !nameB sb || !qx || !il || !ir || !ih || !ie) ∧ ∃ wq, wq = wx ∧ Below w7.heap.size w7 wq)
    case first =>
      generalize nameB sb = nb at *
      cases ia
      · go_wp2_with fail
        go_meet
        case rel => exact ⟨rfl, _, rfl, Below.refl _ _⟩
      cases g
      · go_wp2_with fail
        refine HN7.out.mono ?_; rintro e w8 ⟨rfl, b8⟩
        clear HN7
        cases nb
        · go_wp2_with fail
          go_meet
          case rel => exact ⟨rfl, _, rfl, b8⟩
        cases qx
        · go_wp2_with fail
          go_meet
          case rel => exact ⟨rfl, _, rfl, b8⟩
        cases il
        · go_wp2_with fail
          go_meet
          case rel => exact ⟨rfl, _, rfl, b8⟩
        cases ir
        · go_wp2_with fail
          go_meet
          case rel => exact ⟨rfl, _, rfl, b8⟩
        cases ih
        · go_wp2_with fail
          go_meet
          case rel => exact ⟨rfl, _, rfl, b8⟩
        cases ie
        · go_wp2_with fail
          go_meet
          case rel => exact ⟨rfl, _, rfl, b8⟩
        go_wp2_with fail
        go_meet
        case rel => exact ⟨rfl, _, rfl, b8⟩
      · go_wp2_with fail
        go_meet
        case rel => exact ⟨rfl, _, rfl, Below.refl _ _⟩
    case rest =>
      obtain ⟨rfl, wq, hwq, b8⟩ := hcut
      subst hwq
      have hR8 := Lib.hid (hR7.out.kept b8)
      have B8 := Lib.hid (below_next b8 B7.out)
      have F8 := Lib.hid (F7.out.kept b8)
      have HEU := Lib.hid HE.out.u8
      clear s0 s1 s2 s3 s4 F7 hR7 B7 HN7 b8 HE
      obtain ⟨s0, s1, s2, s3, s4⟩ := F8.out
      obtain ⟨er, her⟩ : ∃ er, er = (!ia || g || !nameB sb || !qx || !il || !ir || !ih || !ie) := ⟨_, rfl⟩
      rw [← her] at hrH ⊢
      have HER := Lib.hid her
      clear her
      cases er
      · have hr := Lib.hid (hrH.out.trans (if_neg (by decide)))
        have hall : ih = true ∧ na ≤ 4294967295 := by
          have h := HER.out
          cases ih
          · exfalso; revert h; simp
          · refine ⟨rfl, HG.out ?_⟩
            cases g
            · rfl
            · exfalso; revert h; simp
        obtain ⟨hih1, hna⟩ := hall
        have ehi : hi = optN hw := by
          cases hw with
          | none => rw [← hih] at hih1; cases hih1
          | some n => exact HI.out n rfl
        rw [ehi]
        have HV : Hid (∀ w', Below w.heap.size w w' → Calls Tryd.prog 19 #[.agg #[.int .u32 na, .string sb, .int .i64 nl, .int .i64 nr, .int .i64 (optN hw), .int .i64 ne]] w' fun e w'' => e = .returned (.bool (okCh ⟨na, sb, nl, nr, optN hw, ne⟩)) ∧ Below w'.heap.size w' w'') := fun w' hb => by
          have h8 := HW8.out
          have h1 := HL1.out
          exact isValid_any ⟨na, sb, nl, nr, optN hw, ne⟩ w' ⟨by dsimp only; omega, by dsimp only; omega, by unfold I64; dsimp only; omega, by unfold I64; dsimp only; omega, by unfold I64; dsimp only; omega, by unfold I64; dsimp only; omega, by dsimp only; omega⟩ (HEU.out.next hb)
        generalize optN hw = nh at *
        clear hrH HER HI HG hih hih1 ehi
        obtain ⟨gC, hgC⟩ : ∃ g, g = wq.heap.size := ⟨_, rfl⟩
        have hC := Lib.hid (Blk.new wq #[.int .u32 na, .string sb, .int .i64 nl, .int .i64 nr, .int .i64 nh, .int .i64 ne] 24)
        have hR9 := Lib.hid (hR8.out.old (.cells #[.int .u32 na, .string sb, .int .i64 nl, .int .i64 nr, .int .i64 nh, .int .i64 ne] 24))
        have B9 := Lib.hid (B8.out.alloc B8.out.size (.cells #[.int .u32 na, .string sb, .int .i64 nl, .int .i64 nr, .int .i64 nh, .int .i64 ne] 24))
        rw [← hgC] at hC
        have HV9 := Lib.hid (HV.out _ B9.out)
        clear hR8 B8 HV HW8 HL1 HEU
        go_upto_region 13 with fail
        rw [← hgC]
        generalize wq.alloc (.cells #[.int .u32 na, .string sb, .int .i64 nl, .int .i64 nr, .int .i64 nh, .int .i64 ne] 24) = W9 at *
        clear hgC s0 s1 s2 s3 s4
        obtain ⟨c0, c1, c2, c3, c4, c5⟩ := ch0 (c := ⟨na, sb, nl, nr, nh, ne⟩) hC.out
        dsimp only at c0 c1 c2 c3 c4 c5
        go_wp2_with fail
        refine HV9.out.mono ?_; rintro e w10 ⟨rfl, b10⟩
        have hC10 := Lib.hid (hC.out.kept b10)
        have hR10 := Lib.hid (hR9.out.kept b10)
        have B10 := Lib.hid (below_next b10 B9.out)
        clear hC hR9 B9 b10 HV9 c0 c1 c2 c3 c4 c5
        obtain ⟨k0, k1, k2, k3, k4, k5⟩ := ch0 (c := zeroCh) hR10.out
        obtain ⟨f0, f1, f2, f3, f4, f5⟩ := free6 (d := zeroCh) hR10.out
        unfold zeroCh at k0 k1 k2 k3 k4 k5
        dsimp only at k0 k1 k2 k3 k4 k5
        generalize hok : okCh ⟨na, sb, nl, nr, nh, ne⟩ = ok at *
        cases ok
        · obtain ⟨W6, e6, ⟨z0, z1, z2, z3, z4, z5⟩, hend⟩ := end6 (d := zeroCh) hR10.out B10.out hgw zeroCh
          unfold zeroCh at e6 z0 z1 z2 z3 z4 z5
          dsimp only at e6 z0 z1 z2 z3 z4 z5
          have E6 := Lib.hid e6
          have HEND := Lib.hid hend
          clear e6 hend hok
          go_wp2_with fail
          rw [E6.out]
          refine bodyPost_ret (v := .tuple #[chV zeroCh, .int .i64 200]) (by simp [results, Tryd.results10, go_sem, z0, z1, z2, z3, z4, z5, zeroCh]) rfl ⟨?_, HEND.out⟩
          rw [hr.out, if_neg (by decide)]
        · obtain ⟨c0, c1, c2, c3, c4, c5⟩ := ch0 (c := ⟨na, sb, nl, nr, nh, ne⟩) hC10.out
          obtain ⟨W6, e6, ⟨z0, z1, z2, z3, z4, z5⟩, hend⟩ := end6 (d := zeroCh) hR10.out B10.out hgw ⟨na, sb, nl, nr, nh, ne⟩
          dsimp only at c0 c1 c2 c3 c4 c5 e6 z0 z1 z2 z3 z4 z5
          have E6 := Lib.hid e6
          have HEND := Lib.hid hend
          clear e6 hend hok
          go_wp2_with fail
          rw [E6.out]
          refine bodyPost_ret (v := .tuple #[chV ⟨na, sb, nl, nr, nh, ne⟩, .int .i64 0]) (by simp [results, Tryd.results10, go_sem, z0, z1, z2, z3, z4, z5]) rfl ⟨?_, HEND.out⟩
          rw [hr.out, if_pos trivial]
      · have hr := Lib.hid (hrH.out.trans (if_pos rfl))
        obtain ⟨k0, k1, k2, k3, k4, k5⟩ := ch0 (c := zeroCh) hR8.out
        obtain ⟨f0, f1, f2, f3, f4, f5⟩ := free6 (d := zeroCh) hR8.out
        obtain ⟨W6, e6, ⟨z0, z1, z2, z3, z4, z5⟩, hend⟩ := end6 (d := zeroCh) hR8.out B8.out hgw zeroCh
        unfold zeroCh at k0 k1 k2 k3 k4 k5 e6 z0 z1 z2 z3 z4 z5
        dsimp only at k0 k1 k2 k3 k4 k5 e6 z0 z1 z2 z3 z4 z5
        have E6 := Lib.hid e6
        have HEND := Lib.hid hend
        clear e6 hend hrH HER s0 s1 s2 s3 s4
        go_wp2_with fail
        rw [E6.out]
        refine bodyPost_ret (v := .tuple #[chV zeroCh, .int .i64 60]) (by simp [results, Tryd.results10, go_sem, z0, z1, z2, z3, z4, z5, zeroCh]) rfl ⟨?_, HEND.out⟩
        rw [hr.out]
  · have t1 : (ws.length != 5) = true := by simpa using h5
    have t2 : ((ws.length : Int) != 5) = true := by simp; omega
    have hr := Lib.hid (HO.out h5)
    obtain ⟨k0, k1, k2, k3, k4, k5⟩ := ch0 (c := zeroCh) hR1.out
    obtain ⟨f0, f1, f2, f3, f4, f5⟩ := free6 (d := zeroCh) hR1.out
    obtain ⟨W6, e6, ⟨z0, z1, z2, z3, z4, z5⟩, hend⟩ := end6 (d := zeroCh) hR1.out B1.out hgw zeroCh
    unfold zeroCh at k0 k1 k2 k3 k4 k5 e6 z0 z1 z2 z3 z4 z5
    dsimp only at k0 k1 k2 k3 k4 k5 e6 z0 z1 z2 z3 z4 z5
    have E6 := Lib.hid e6
    have HEND := Lib.hid hend
    clear e6 hend
    clear H5 HO HLN HE HC1
    go_wp2_with fail
    rw [E6.out]
    refine bodyPost_ret (v := .tuple #[chV zeroCh, .int .i64 60]) (by simp [results, Tryd.results10, go_sem, z0, z1, z2, z3, z4, z5, zeroCh]) rfl ⟨?_, HEND.out⟩
    rw [hr.out]
end Go.Proofs.YtlafjjdponeeeaaDoor
