/-
  Charges: what a book is; in memory; book.within, isValid, cost.
-/
import Derived.Test.YtlafjjdponeeeaaDoorNmA
import Derived.Test.YtlafjjdponeeeaaDoorBkP
import Derived.Test.YtlafjjdponeeeaaDoorNum3
import Derived.Handy
import Derived.Deep.CutBlock
import Derived.Deep.DeepCutAuto
namespace Go.Proofs.YtlafjjdponeeeaaDoor
open Go Go.RowKit Go.Lib
set_option linter.unusedVariables false

abbrev chCs (c : Chg) : Array Value := #[.int .u32 c.id, .string c.acct, .int .i64 c.wk, .int .i64 c.sc, .int .i64 c.how, .int .i64 c.ax]
abbrev chV (c : Chg) : Value := .agg (chCs c)
/-- The numbers are of their types; the account is no longer than may be. -/
structure ChWf (c : Chg) : Prop where
  id0 : 0 ≤ c.id
  id1 : c.id ≤ 4294967295
  wk : I64 c.wk
  sc : I64 c.sc
  how : I64 c.how
  ax : I64 c.ax
  acct : c.acct.size ≤ 4611686018427387904
def bookF : Int → List Chg → Bool
  | _, [] => true
  | p, c :: r => okCh c && decide (p ≤ c.ax) && bookF c.ax r
def bookB (cs : List Chg) : Bool := decide (cs.length ≤ 2000) && bookF 0 cs
def chkCh (cs : List Chg) : Int := if bookB cs = true then 0 else 200
/-- A charge in memory, from place off of block b on. -/
structure ChCells (w : World) (b off : Nat) (c : Chg) : Prop where
  c0 : w.cell? ⟨b, off, none⟩ = some (.int .u32 c.id)
  c1 : w.cell? ⟨b, off + 1, none⟩ = some (.string c.acct)
  c2 : w.cell? ⟨b, off + 2, none⟩ = some (.int .i64 c.wk)
  c3 : w.cell? ⟨b, off + 3, none⟩ = some (.int .i64 c.sc)
  c4 : w.cell? ⟨b, off + 4, none⟩ = some (.int .i64 c.how)
  c5 : w.cell? ⟨b, off + 5, none⟩ = some (.int .i64 c.ax)
theorem ChCells.kept {w w' : World} {b off : Nat} {c : Chg} (h : ChCells w b off c) (hb : Below w.heap.size w w') : ChCells w' b off c :=
  ⟨cell_next hb h.c0, cell_next hb h.c1, cell_next hb h.c2, cell_next hb h.c3, cell_next hb h.c4, cell_next hb h.c5⟩
theorem ChCells.blk {w : World} {b : Nat} {c : Chg} {t : TypeId} (h : Blk w b (chCs c) t) : ChCells w b 0 c := by
  have c0 := h.cell 0
  have c1 := h.cell 1
  have c2 := h.cell 2
  have c3 := h.cell 3
  have c4 := h.cell 4
  have c5 := h.cell 5
  simp only [List.getElem?_toArray, List.getElem?_cons_zero, List.getElem?_cons_succ] at c0 c1 c2 c3 c4 c5
  exact ⟨c0, c1, c2, c3, c4, c5⟩
def chAt (cs : List Chg) (i : Nat) : Chg := cs.getD i ⟨0, ⟨#[]⟩, 0, 0, 0, 0⟩
/-- v is a row of the charges cs. -/
def ChRow (w : World) (v : Value) (cs : List Chg) : Prop :=
  ∃ A c, v = .slice A cs.length c ∧ cs.length ≤ c ∧ c ≤ maxLen ∧ (0 < cs.length → ∃ b off, A = some ⟨b, off, none⟩ ∧ b < w.heap.size ∧ ∀ i, i < cs.length → ChCells w b (off + i * 6) (chAt cs i))
theorem ChRow.kept {w w' : World} {v : Value} {cs : List Chg} (h : ChRow w v cs) (hb : Below w.heap.size w w') : ChRow w' v cs := by
  obtain ⟨A, c, h1, h2, h3, h4⟩ := h
  refine ⟨A, c, h1, h2, h3, fun h0 => ?_⟩
  obtain ⟨b, off, e, hlt, hc⟩ := h4 h0
  exact ⟨b, off, e, Nat.lt_of_lt_of_le hlt hb.size, fun i hi => (hc i hi).kept hb⟩

theorem within_any (n a b : Int) (w : World) : Calls Tryd.prog 36 #[.int .i64 n, .int .i64 a, .int .i64 b] w fun e w' => e = .returned (.bool (decide (a ≤ n ∧ n ≤ b))) ∧ w' = w := by
  by_cases h1 : a ≤ n
  · have t1 : decide (n ≥ a) = true := decide_eq_true h1
    have t1n : decide (a ≤ n) = true := decide_eq_true h1
    by_cases h2 : n ≤ b
    · have t2 : decide (n ≤ b) = true := decide_eq_true h2
      rw [decide_eq_true ⟨h1, h2⟩]
      clear h1 h2
      go_enter Tryd.func36, Tryd.ntmps36
      go_wp2_with fail
      go_ret
      exact ⟨rfl, rfl⟩
    · have t2 : decide (n ≤ b) = false := decide_eq_false h2
      rw [decide_eq_false fun h => h2 h.2]
      clear h1 h2
      go_enter Tryd.func36, Tryd.ntmps36
      go_wp2_with fail
      go_ret
      exact ⟨rfl, rfl⟩
  · have t1 : decide (n ≥ a) = false := decide_eq_false h1
    have t1n : decide (a ≤ n) = false := decide_eq_false h1
    rw [decide_eq_false fun h => h1 h.1]
    clear h1
    go_enter Tryd.func36, Tryd.ntmps36
    go_wp2_with fail
    go_ret
    exact ⟨rfl, rfl⟩
set_option maxRecDepth 100000 in
set_option maxHeartbeats 4000000 in
theorem isValid_any (c : Chg) (w : World) (hw : ChWf c) (hT : U8W w) :
    Calls Tryd.prog 19 #[chV c] w fun e w' => e = .returned (.bool (okCh c)) ∧ Below w.heap.size w w' := by
  have hb := Blk.new w (chCs c) 24
  have HC := Lib.hid (ChCells.blk hb)
  have HW := Lib.hid ((Below.refl w.heap.size w).alloc (Nat.le_refl _) (.cells (chCs c) 24))
  have HN : Hid (∀ w1, Below w.heap.size w w1 → Calls Tryd.prog 28 #[.string c.acct] w1 fun e w' => e = .returned (.bool (nameB c.acct)) ∧ Below w1.heap.size w1 w') := fun w1 hb => name_any c.acct w1 hw.acct (hT.next hb)
  have H1 : Hid (∀ w, Calls Tryd.prog 36 #[.int .i64 c.wk, .int .i64 1, .int .i64 1024] w fun e w' => e = .returned (.bool (decide (1 ≤ c.wk ∧ c.wk ≤ 1024))) ∧ w' = w) := fun w => within_any _ _ _ w
  have H2 : Hid (∀ w, Calls Tryd.prog 36 #[.int .i64 c.sc, .int .i64 0, .int .i64 1073741824] w fun e w' => e = .returned (.bool (decide (0 ≤ c.sc ∧ c.sc ≤ 1073741824))) ∧ w' = w) := fun w => within_any _ _ _ w
  have H3 : Hid (∀ w, Calls Tryd.prog 36 #[.int .i64 c.ax, .int .i64 0, .int .i64 1099511627776] w fun e w' => e = .returned (.bool (decide (0 ≤ c.ax ∧ c.ax ≤ 1099511627776))) ∧ w' = w) := fun w => within_any _ _ _ w
  have H4 : Hid (∀ w, Calls Tryd.prog 36 #[.int .i64 c.how, .int .i64 5, .int .i64 8] w fun e w' => e = .returned (.bool (decide (5 ≤ c.how ∧ c.how ≤ 8))) ∧ w' = w) := fun w => within_any _ _ _ w
  have hr : Hid (okCh c = (decide (c.id ≠ 0) && (decide (1 ≤ c.wk ∧ c.wk ≤ 1024) && decide (0 ≤ c.sc ∧ c.sc ≤ 1073741824) && decide (0 ≤ c.ax ∧ c.ax ≤ 1099511627776)) && (decide (c.how = 0) || decide (5 ≤ c.how ∧ c.how ≤ 8)) && nameB c.acct)) := rfl
  have e1 : (c.id != 0) = decide (c.id ≠ 0) := by rw [Bool.eq_iff_iff]; simp
  have e2 : (c.how == 0) = decide (c.how = 0) := by rw [Bool.eq_iff_iff]; simp
  obtain ⟨id, acct, wk, sc, how, ax⟩ := c
  dsimp only at *
  generalize okCh _ = R at *
  generalize decide (1 ≤ wk ∧ wk ≤ 1024) = q1 at *
  generalize decide (0 ≤ sc ∧ sc ≤ 1073741824) = q2 at *
  generalize decide (0 ≤ ax ∧ ax ≤ 1099511627776) = q3 at *
  generalize decide (5 ≤ how ∧ how ≤ 8) = q5 at *
  generalize decide (how = 0) = q4 at *
  generalize decide (id ≠ 0) = q6 at *
  generalize nameB acct = N at *
  obtain ⟨c0, c1, c2, c3, c4, c5⟩ := HC.out
  clear hb hw hT HC
  go_enter Tryd.func19, Tryd.ntmps19
  go_upto_region 1 with fail
  generalize hg : w.heap.size = g at *
  have HW2 : Hid (Below g w (w.alloc (.cells #[.int .u32 id, .string acct, .int .i64 wk, .int .i64 sc, .int .i64 how, .int .i64 ax] 24))) := HW.out
  generalize w.alloc (.cells #[.int .u32 id, .string acct, .int .i64 wk, .int .i64 sc, .int .i64 how, .int .i64 ax] 24) = W at *
  go_cut [3] (fun nv wx => nv = .bool (q1 && q2 && q3) ∧ wx = W)
  case first =>
    clear e1 e2
    cases q1
    · go_wp2_with fail
      refine (H1.out _).mono ?_; rintro e w1 ⟨rfl, rfl⟩
      go_wp2_with fail
      go_meet
      case rel => exact ⟨rfl, rfl⟩
    cases q2
    · go_wp2_with fail
      refine (H1.out _).mono ?_; rintro e w1 ⟨rfl, rfl⟩
      go_wp2_with fail
      refine (H2.out _).mono ?_; rintro e w1 ⟨rfl, rfl⟩
      go_wp2_with fail
      go_meet
      case rel => exact ⟨rfl, rfl⟩
    · go_wp2_with fail
      refine (H1.out _).mono ?_; rintro e w1 ⟨rfl, rfl⟩
      go_wp2_with fail
      refine (H2.out _).mono ?_; rintro e w1 ⟨rfl, rfl⟩
      go_wp2_with fail
      refine (H3.out _).mono ?_; rintro e w1 ⟨rfl, rfl⟩
      go_wp2_with fail
      go_meet
      case rel => exact ⟨rfl, rfl⟩
  case rest =>
    obtain ⟨rfl, rfl⟩ := hcut
    generalize (q1 && q2 && q3) = Q at *
    clear H1 H2 H3
    go_upto_region 2 with fail
    go_cut [4] (fun nv wx => nv = .bool (q4 || q5) ∧ wx = wc)
    case first =>
      clear e1
      cases q4
      · go_wp2_with fail
        refine (H4.out _).mono ?_; rintro e w1 ⟨rfl, rfl⟩
        go_wp2_with fail
        go_meet
        case rel => exact ⟨rfl, rfl⟩
      · go_wp2_with fail
        go_meet
        case rel => exact ⟨rfl, rfl⟩
    case rest =>
      obtain ⟨rfl, rfl⟩ := hcut
      generalize (q4 || q5) = H at *
      clear H4 e2
      cases q6
      · go_wp2_with fail
        go_returns
        exact ⟨ret_bl (by rw [hr.out]; rfl), HW2⟩
      cases Q
      · go_wp2_with fail
        go_returns
        exact ⟨ret_bl (by rw [hr.out]; rfl), HW2⟩
      cases H
      · go_wp2_with fail
        go_returns
        exact ⟨ret_bl (by rw [hr.out]; rfl), HW2⟩
      · go_wp2_with fail
        refine (HN.out _ HW2).mono ?_; rintro e w1 ⟨rfl, b1⟩
        have B1 := Lib.hid (below_next b1 (hg ▸ HW2))
        clear b1 HN
        go_wp2_with fail
        go_returns
        exact ⟨ret_bl (by rw [hr.out]; rfl), hg ▸ B1.out⟩
/-! Books. -/
def prevAx (cs : List Chg) (k : Nat) : Int := if k = 0 then 0 else (chAt cs (k - 1)).ax
theorem drop_ch {cs : List Chg} {k : Nat} (h : k < cs.length) : cs.drop k = chAt cs k :: cs.drop (k + 1) := by
  rw [List.drop_eq_getElem_cons h]
  congr 1
  unfold chAt; rw [List.getD_eq_getElem?_getD, List.getElem?_eq_getElem h]; rfl
theorem prev_succ (cs : List Chg) (k : Nat) : prevAx cs (k + 1) = (chAt cs k).ax := by unfold prevAx; rw [if_neg (by omega)]; rfl
theorem chAt_mem {cs : List Chg} {k : Nat} (h : k < cs.length) : chAt cs k ∈ cs := by
  unfold chAt; rw [List.getD_eq_getElem?_getD, List.getElem?_eq_getElem h]; exact List.getElem_mem h
theorem bookF_step {cs : List Chg} {k : Nat} (h : k < cs.length) : bookF (prevAx cs k) (cs.drop k) = (okCh (chAt cs k) && decide (prevAx cs k ≤ (chAt cs k).ax) && bookF (prevAx cs (k + 1)) (cs.drop (k + 1))) := by
  rw [drop_ch h, bookF, prev_succ]
set_option maxRecDepth 100000 in
set_option maxHeartbeats 4000000 in
theorem check_ch (v : Value) (cs : List Chg) (w : World) (hr : ChRow w v cs) (hwf : ∀ c ∈ cs, ChWf c) (hT : U8W w) :
    Calls Tryd.prog 14 #[v] w fun e w' => e = .returned (.int .i64 (chkCh cs)) ∧ Below w.heap.size w w' := by
  obtain ⟨A, c, rfl, hcl, hcm, hrow⟩ := hr
  have hn63 : cs.length ≤ 9223372036854775807 := by unfold maxLen at hcm; omega
  by_cases hl : 2000 < cs.length
  · have t1 : decide ((cs.length : Int) > 2000) = true := decide_eq_true (by omega)
    have t1n : decide (2000 < cs.length) = true := decide_eq_true hl
    have he : chkCh cs = 200 := by unfold chkCh bookB; rw [decide_eq_false (by omega), Bool.false_and, if_neg (by decide)]
    rw [he]
    clear hrow hwf hT he
    go_enter Tryd.func14, Tryd.ntmps14
    go_wp2_with fail
    go_ret
    exact ⟨rfl, Below.refl _ _⟩
  have t1 : decide ((cs.length : Int) > 2000) = false := decide_eq_false (by omega)
  have t1n : decide (2000 < cs.length) = false := decide_eq_false hl
  have HB : Hid (bookB cs = bookF 0 cs) := by unfold Hid bookB; rw [decide_eq_true (by omega), Bool.true_and]
  have HR : Hid (∀ r, bookB cs = r → chkCh cs = if r = true then 0 else 200) := fun r h => by unfold chkCh; rw [h]
  have HROW := Lib.hid hrow
  have HWF := Lib.hid hwf
  have HV : Hid (∀ c ∈ cs, ∀ w1, Below w.heap.size w w1 → Calls Tryd.prog 19 #[chV c] w1 fun e w' => e = .returned (.bool (okCh c)) ∧ Below w1.heap.size w1 w') := fun c hc w1 hb => isValid_any c w1 (hwf c hc) (hT.next hb)
  generalize chkCh cs = R at *
  clear hrow hwf hT
  go_enter Tryd.func14, Tryd.ntmps14
  go_wp2_with fail
  go_loopw [3, 11] (fun p i wr => ∃ k : Nat, k ≤ cs.length ∧ i = .int .i64 k ∧ p = .int .i64 (prevAx cs k) ∧ Hid (bookB cs = bookF (prevAx cs k) (cs.drop k)) ∧ Below w.heap.size w wr) (fun _ i _ => cs.length - (RowKit.intOf i).toNat)
  case atStart => exact ⟨0, Nat.zero_le _, rfl, rfl, by unfold Hid; rw [HB.out]; rfl, Below.refl _ _⟩
  case round =>
    obtain ⟨k, hk, rfl, rfl, hst, hBW⟩ := hrel
    by_cases hlt : k < cs.length
    · have hlt' : decide (k < cs.length) = true := decide_eq_true hlt
      have hlt2 : decide ((k : Int) < cs.length) = true := decide_eq_true (by omega)
      have hkl : (k : Int) < cs.length := by omega
      obtain ⟨b, off, rfl, hbw, hc⟩ := HROW.out (by omega)
      obtain ⟨c0, c1, c2, c3, c4, c5⟩ := (hc k hlt).kept hBW
      have hst' := hst.out
      rw [bookF_step hlt, prev_succ] at hst'
      have hmem := chAt_mem hlt
      have hax := (HWF.out _ hmem).ax
      have HVk := Lib.hid (HV.out _ hmem)
      have hpx : Hid (prevAx cs (k + 1) = (chAt cs k).ax) := prev_succ cs k
      have HBW := Lib.hid hBW
      clear hc hmem hst hBW HB HV
      generalize chAt cs k = x at *
      obtain ⟨id, acct, wk, sc, how, ax⟩ := x
      dsimp only at *
      have hb := Blk.new wr #[.int .u32 id, .string acct, .int .i64 wk, .int .i64 sc, .int .i64 how, .int .i64 ax] 24
      have HBL := Lib.hid hb
      have HB1 := Lib.hid (HBW.out.alloc HBW.out.size (.cells #[.int .u32 id, .string acct, .int .i64 wk, .int .i64 sc, .int .i64 how, .int .i64 ax] 24))
      obtain ⟨g, hg⟩ : ∃ g, g = wr.heap.size := ⟨_, rfl⟩
      rw [← hg] at HBL
      have d0 := HBL.out.cell 0
      have d1 := HBL.out.cell 1
      have d2 := HBL.out.cell 2
      have d3 := HBL.out.cell 3
      have d4 := HBL.out.cell 4
      have d5 := HBL.out.cell 5
      simp only [List.getElem?_toArray, List.getElem?_cons_zero, List.getElem?_cons_succ] at d0 d1 d2 d3 d4 d5
      clear hb HROW
      go_upto_region 7 with fail
      rw [← hg]
      generalize wr.alloc (.cells #[.int .u32 id, .string acct, .int .i64 wk, .int .i64 sc, .int .i64 how, .int .i64 ax] 24) = W1 at *
      clear hg c0 c1 c2 c3 c4 c5
      go_wp2_with fail
      refine (HVk.out _ HB1.out).mono ?_; rintro e w1 ⟨rfl, b1⟩
      have B2 := Lib.hid (below_next b1 HB1.out)
      have e5 := (HBL.out.kept b1).cell 5
      simp only [List.getElem?_toArray, List.getElem?_cons_zero, List.getElem?_cons_succ] at e5
      clear b1 HVk HBL HB1 HBW d0 d1 d2 d3 d4 d5
      generalize okCh _ = O at *
      cases O
      · have hr : Hid (R = 200) := by unfold Hid; rw [HR.out false (by rw [hst']; rfl), if_neg (by decide)]
        clear hst' HR hpx
        go_wp2_with fail
        go_ret
        rw [hr.out]
        exact ⟨rfl, B2.out⟩
      obtain ⟨p, hp⟩ : ∃ p, p = prevAx cs k := ⟨_, rfl⟩
      rw [← hp] at hst' ⊢
      by_cases q : ax < p
      · have q1 : decide (ax < p) = true := decide_eq_true q
        have hr : Hid (R = 200) := by unfold Hid; rw [HR.out false (by rw [hst', decide_eq_false (show ¬ p ≤ ax by omega)]; simp), if_neg (by decide)]
        clear hst' HR hpx q hp
        go_wp2_with fail
        go_ret
        rw [hr.out]
        exact ⟨rfl, B2.out⟩
      · have q1 : decide (ax < p) = false := decide_eq_false q
        have hn : Hid (bookB cs = bookF (prevAx cs (k + 1)) (cs.drop (k + 1))) := by unfold Hid; rw [hst', decide_eq_true (show p ≤ ax by omega), hpx.out]; rfl
        clear hst' HR q hp
        go_wp2_with fail
        go_roundw
        case rel => exact ⟨k + 1, hlt, by go_num, by rw [hpx.out], hn, B2.out⟩
        case measure => simp [RowKit.intOf]; omega
    · obtain rfl : k = cs.length := by omega
      have hlt' : decide (cs.length < cs.length) = false := decide_eq_false hlt
      have hlt2 : decide ((cs.length : Int) < cs.length) = false := decide_eq_false (by omega)
      have hr : Hid (R = 0) := by unfold Hid; rw [HR.out true (by rw [hst.out, List.drop_length]; rfl), if_pos rfl]
      clear HB HR HV HROW HWF hst
      go_wp2_with fail
      go_ret
      rw [hr.out]
      exact ⟨rfl, hBW⟩
end Go.Proofs.YtlafjjdponeeeaaDoor
