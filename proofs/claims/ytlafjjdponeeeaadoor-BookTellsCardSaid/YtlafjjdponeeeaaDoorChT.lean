/-
  book.cost, Total, Of: at any charges.
-/
import Derived.Test.YtlafjjdponeeeaaDoorCh
namespace Go.Proofs.YtlafjjdponeeeaaDoor
open Go Go.RowKit Go.Lib
set_option linter.unusedVariables false

theorem str_beq (a b : ByteArray) : (a.toList == b.toList) = decide (a = b) := by
  rw [ByteArray.toList_eq, ByteArray.toList_eq, Bool.eq_iff_iff, beq_iff_eq, decide_eq_true_eq]
  exact ⟨fun h => ByteArray.ext (Array.toList_inj.1 h), fun h => by rw [h]⟩
theorem sum_pair (b c : Nat) (x y : Int) (w : World) (hx : I64 x) (hy : I64 y) (h0 : w.cell? ⟨b, 0, none⟩ = some (.int .i64 x)) (h1 : w.cell? ⟨b, 1, none⟩ = some (.int .i64 y)) :
    Calls Tryd.prog 30 #[.slice (some ⟨b, 0, none⟩) 2 c] w fun e w' => e = .returned (.int .i64 (endV (x + y))) ∧ w' = w :=
  (sum_row b 0 c [x, y] w (by simp) (by simp [hx, hy]) (by
    intro k hk
    have hk2 : k < 2 := hk
    match k, hk2 with
    | 0, _ => exact h0
    | 1, _ => exact h1)).mono fun e w' h => by
      have e1 : sumEnd [x, y] = endV (x + y) := by
        show endV (endV (0 + x) + y) = _
        rw [Int.zero_add, endV_in hx]
      rw [e1] at h; exact h
theorem cost_any (c : Chg) (w : World) (hw : ChWf c) :
    Calls Tryd.prog 31 #[chV c] w fun e w' => e = .returned (.int .i64 (endV (c.wk * c.sc))) ∧ Below w.heap.size w w' := by
  have hb := Blk.new w (chCs c) 24
  obtain ⟨c0, c1, c2, c3, c4, c5⟩ := ChCells.blk hb
  have HW := Lib.hid ((Below.refl w.heap.size w).alloc (Nat.le_refl _) (.cells (chCs c) 24))
  have HT := Lib.hid (fun w => times_any c.wk c.sc w hw.wk hw.sc)
  obtain ⟨id, acct, wk, sc, how, ax⟩ := c
  dsimp only at *
  clear hb hw
  go_enter Tryd.func31, Tryd.ntmps31
  go_wp2_with fail
  refine (HT.out _).mono ?_; rintro e w1 ⟨rfl, rfl⟩
  go_wp2_with fail
  go_returns
  exact ⟨rfl, HW.out⟩
/-- What an account has used, added up from t on. -/
def totG (acct : ByteArray) : List Chg → Int → Int
  | [], t => t
  | c :: r, t => totG acct r (if c.acct = acct then endV (t + endV (c.wk * c.sc)) else t)
def totCh (cs : List Chg) (acct : ByteArray) : Int := if bookB cs = true then totG acct cs 0 else 0
theorem totG_I64 (acct : ByteArray) : ∀ (cs : List Chg) (t : Int), I64 t → I64 (totG acct cs t)
  | [], t, h => h
  | c :: r, t, h => by
    unfold totG
    refine totG_I64 acct r _ ?_
    split
    · exact endV_I64 _
    · exact h
theorem chk_ne {cs : List Chg} : (chkCh cs != 0) = !bookB cs := by
  unfold chkCh
  cases bookB cs
  · rw [if_neg (by decide)]; rfl
  · rw [if_pos rfl]; rfl
set_option maxRecDepth 100000 in
set_option maxHeartbeats 4000000 in
theorem total_any (v : Value) (cs : List Chg) (acct : ByteArray) (w : World) (hr : ChRow w v cs) (hwf : ∀ c ∈ cs, ChWf c) (hT : U8W w) (hs : acct.size ≤ 4611686018427387904) :
    Calls Tryd.prog 16 #[v, .string acct] w fun e w' => e = .returned (.int .i64 (totCh cs acct)) ∧ Below w.heap.size w w' := by
  have HCK := Lib.hid (check_ch v cs w hr hwf hT)
  obtain ⟨A, c, rfl, hcl, hcm, hrow⟩ := hr
  have hn63 : cs.length ≤ 9223372036854775807 := by unfold maxLen at hcm; omega
  have q0 : (chkCh cs != 0) = !bookB cs := chk_ne
  have HTOT : Hid (totCh cs acct = if bookB cs = true then totG acct cs 0 else 0) := rfl
  generalize chkCh cs = E at *
  generalize totCh cs acct = R at *
  have HROW := Lib.hid hrow
  have HWF := Lib.hid hwf
  have HCO : Hid (∀ c ∈ cs, ∀ w1, Calls Tryd.prog 31 #[chV c] w1 fun e w' => e = .returned (.int .i64 (endV (c.wk * c.sc))) ∧ Below w1.heap.size w1 w') := fun c hc w1 => cost_any c w1 (hwf c hc)
  clear hrow hwf hT
  go_enter Tryd.func16, Tryd.ntmps16
  go_wp2_with fail
  refine HCK.out.mono ?_; rintro e w1 ⟨rfl, b1⟩
  have B1 := Lib.hid b1
  clear HCK b1
  generalize bookB cs = B at *
  cases B
  · have q : (E != 0) = true := by rw [q0]; rfl
    have hr : Hid (R = 0) := by unfold Hid; rw [HTOT.out, if_neg (by decide)]
    clear q0 HTOT HCO HROW HWF
    go_wp2_with fail
    go_ret
    rw [hr.out]
    exact ⟨rfl, B1.out⟩
  have q : (E != 0) = false := by rw [q0]; rfl
  have hr0 : Hid (R = totG acct cs 0) := by unfold Hid; rw [HTOT.out, if_pos rfl]
  clear q0 HTOT
  go_wp2_with fail
  go_loopw [5, 13] (fun t i wr => ∃ (k : Nat) (T : Int), k ≤ cs.length ∧ i = .int .i64 k ∧ t = .int .i64 T ∧ I64 T ∧ Hid (R = totG acct (cs.drop k) T) ∧ Below w.heap.size w wr) (fun _ i _ => cs.length - (RowKit.intOf i).toNat)
  case atStart => exact ⟨0, 0, Nat.zero_le _, rfl, rfl, by unfold I64; omega, hr0, B1.out⟩
  case round =>
    obtain ⟨k, T, hk, rfl, rfl, hTI, hst, hBW⟩ := hrel
    by_cases hlt : k < cs.length
    · have hlt' : decide (k < cs.length) = true := decide_eq_true hlt
      have hlt2 : decide ((k : Int) < cs.length) = true := decide_eq_true (by omega)
      have hkl : (k : Int) < cs.length := by omega
      obtain ⟨b, off, rfl, hbw, hc⟩ := HROW.out (by omega)
      obtain ⟨c0, c1, c2, c3, c4, c5⟩ := (hc k hlt).kept hBW
      have hst' := hst.out
      rw [drop_ch hlt, totG] at hst'
      have hmem := chAt_mem hlt
      have hasz := (HWF.out _ hmem).acct
      have HCOk := Lib.hid (HCO.out _ hmem)
      have HBW := Lib.hid hBW
      clear hc hmem hst hBW HCO
      generalize chAt cs k = x at *
      obtain ⟨id, ac, wk, sc, how, ax⟩ := x
      dsimp only at *
      have hCI0 : I64 (endV (wk * sc)) := endV_I64 _
      generalize endV (wk * sc) = C at *
      have hb := Blk.new wr #[.int .u32 id, .string ac, .int .i64 wk, .int .i64 sc, .int .i64 how, .int .i64 ax] 24
      have HB1 := Lib.hid (HBW.out.alloc HBW.out.size (.cells #[.int .u32 id, .string ac, .int .i64 wk, .int .i64 sc, .int .i64 how, .int .i64 ax] 24))
      have HBL := Lib.hid hb
      obtain ⟨g, hg⟩ : ∃ g, g = wr.heap.size := ⟨_, rfl⟩
      rw [← hg] at HBL
      have d0 := HBL.out.cell 0
      have d1 := HBL.out.cell 1
      have d2 := HBL.out.cell 2
      have d3 := HBL.out.cell 3
      have d4 := HBL.out.cell 4
      have d5 := HBL.out.cell 5
      simp only [List.getElem?_toArray, List.getElem?_cons_zero, List.getElem?_cons_succ] at d0 d1 d2 d3 d4 d5
      clear hb HROW HBL
      go_upto_region 7 with fail
      rw [← hg]
      generalize wr.alloc (.cells #[.int .u32 id, .string ac, .int .i64 wk, .int .i64 sc, .int .i64 how, .int .i64 ax] 24) = W1 at *
      clear hg c0 c1 c2 c3 c4 c5
      by_cases qa : ac = acct
      · have hst2 : Hid (R = totG acct (cs.drop (k + 1)) (endV (T + C))) := by unfold Hid; rw [hst', if_pos qa]
        have t1 : (ac.toList == acct.toList) = true := by rw [str_beq]; exact decide_eq_true qa
        have HCI : Hid (I64 C) := hCI0
        have hTI' := Lib.hid hTI
        clear hst' qa hTI hCI0
        go_wp2_with fail
        refine (HCOk.out _).mono ?_; rintro e w2 ⟨rfl, b2⟩
        have B2 := Lib.hid (below_next b2 HB1.out)
        have hs2 := Blk.new w2 #[.int .i64 T, .int .i64 C] 3
        have s0 := hs2.cell 0
        have s1 := hs2.cell 1
        simp only [List.getElem?_toArray, List.getElem?_cons_zero, List.getElem?_cons_succ] at s0 s1
        have HS := Lib.hid (sum_pair _ 2 T C _ hTI'.out HCI.out s0 s1)
        have B3 := Lib.hid (B2.out.alloc B2.out.size (.cells #[.int .i64 T, .int .i64 C] 3))
        clear b2 HCOk HB1 d0 d1 d2 d3 d4 d5 t1 hs2 s0 s1
        go_wp2_with fail
        refine HS.out.mono ?_; rintro e w3 ⟨rfl, rfl⟩
        clear HS
        go_wp2_with fail
        go_roundw
        case rel => exact ⟨k + 1, endV (T + C), hlt, by go_num, rfl, endV_I64 _, hst2, B3.out⟩
        case measure => simp [RowKit.intOf]; omega
      · have hst2 : Hid (R = totG acct (cs.drop (k + 1)) T) := by unfold Hid; rw [hst', if_neg qa]
        have t1 : (ac.toList == acct.toList) = false := by rw [str_beq]; exact decide_eq_false qa
        clear hst' HCOk d0 d2 d3 d4 d5 hCI0
        go_wp2_with fail
        go_roundw
        case rel => exact ⟨k + 1, T, hlt, by go_num, rfl, hTI, hst2, HB1.out⟩
        case measure => simp [RowKit.intOf]; omega
    · obtain rfl : k = cs.length := by omega
      have hlt' : decide (cs.length < cs.length) = false := decide_eq_false hlt
      have hlt2 : decide ((cs.length : Int) < cs.length) = false := decide_eq_false (by omega)
      have hr : Hid (R = T) := by unfold Hid; rw [hst.out, List.drop_length]; rfl
      clear hr0 HCO HROW HWF hst
      go_wp2_with fail
      go_ret
      rw [hr.out]
      exact ⟨rfl, hBW⟩
/-! A job's seconds and charges. -/
def ofG (id : Int) : List Chg → Int → Nat → Int × Nat
  | [], s, n => (s, n)
  | c :: r, s, n => if c.id = id then ofG id r (s + c.sc) (n + 1) else ofG id r s n
def ofCh (cs : List Chg) (id : Int) : Int × Nat := if bookB cs = true then ofG id cs 0 0 else (0, 0)
theorem ok_nums {c : Chg} (h : okCh c = true) : c.id ≠ 0 ∧ (1 ≤ c.wk ∧ c.wk ≤ 1024) ∧ (0 ≤ c.sc ∧ c.sc ≤ 1073741824) ∧ (0 ≤ c.ax ∧ c.ax ≤ 1099511627776) ∧ (c.how = 0 ∨ (5 ≤ c.how ∧ c.how ≤ 8)) ∧ nameB c.acct = true := by
  unfold okCh numsB howB at h
  simp only [Bool.and_eq_true, Bool.or_eq_true, decide_eq_true_eq] at h
  exact ⟨h.1.1.1, h.1.1.2.1.1, h.1.1.2.1.2, h.1.1.2.2, h.1.2, h.2⟩
theorem bookF_mem : ∀ (cs : List Chg) (p : Int), bookF p cs = true → ∀ c ∈ cs, okCh c = true ∧ p ≤ c.ax
  | [], p, h, c, hc => by cases hc
  | d :: r, p, h, c, hc => by
    unfold bookF at h
    simp only [Bool.and_eq_true, decide_eq_true_eq] at h
    rcases List.mem_cons.1 hc with rfl | hc
    · exact ⟨h.1.1, h.1.2⟩
    · have := bookF_mem r d.ax h.2 c hc
      exact ⟨this.1, by omega⟩
theorem book_mem {cs : List Chg} (h : bookB cs = true) : cs.length ≤ 2000 ∧ ∀ c ∈ cs, okCh c = true := by
  unfold bookB at h
  simp only [Bool.and_eq_true, decide_eq_true_eq] at h
  exact ⟨h.1, fun c hc => (bookF_mem cs 0 h.2 c hc).1⟩
set_option maxRecDepth 100000 in
set_option maxHeartbeats 4000000 in
theorem ofBk_any (v : Value) (cs : List Chg) (j : Int) (w : World) (hr : ChRow w v cs) (hwf : ∀ c ∈ cs, ChWf c) (hT : U8W w) :
    Calls Tryd.prog 12 #[v, .int .u32 j] w fun e w' => e = .returned (.tuple #[.int .i64 (ofCh cs j).1, .int .i64 (ofCh cs j).2]) ∧ Below w.heap.size w w' := by
  have HCK := Lib.hid (check_ch v cs w hr hwf hT)
  obtain ⟨A, c, rfl, hcl, hcm, hrow⟩ := hr
  have hn63 : cs.length ≤ 9223372036854775807 := by unfold maxLen at hcm; omega
  have q0 : (chkCh cs != 0) = !bookB cs := chk_ne
  have HTOT : Hid (ofCh cs j = if bookB cs = true then ofG j cs 0 0 else (0, 0)) := rfl
  have HBM : Hid (bookB cs = true → cs.length ≤ 2000 ∧ ∀ c ∈ cs, 0 ≤ c.sc ∧ c.sc ≤ 1073741824) := fun h => ⟨(book_mem h).1, fun c hc => (ok_nums ((book_mem h).2 c hc)).2.2.1⟩
  generalize chkCh cs = E at *
  generalize ofCh cs j = R at *
  have HROW := Lib.hid hrow
  clear hrow hwf hT
  go_enter Tryd.func12, Tryd.ntmps12
  go_wp2_with fail
  refine HCK.out.mono ?_; rintro e w1 ⟨rfl, b1⟩
  have B1 := Lib.hid b1
  clear HCK b1
  generalize bookB cs = B at *
  cases B
  · have q : (E != 0) = true := by rw [q0]; rfl
    have hr : Hid (R = (0, 0)) := by unfold Hid; rw [HTOT.out, if_neg (by decide)]
    clear q0 HTOT HROW HBM
    go_wp2_with fail
    go_ret2
    rw [hr.out]
    exact ⟨rfl, B1.out⟩
  have q : (E != 0) = false := by rw [q0]; rfl
  have hr0 : Hid (R = ofG j cs 0 0) := by unfold Hid; rw [HTOT.out, if_pos rfl]
  obtain ⟨hlen, hsc⟩ := HBM.out rfl
  have HSC := Lib.hid hsc
  clear q0 HTOT HBM hsc
  go_wp2_with fail
  go_loopw [6, 7, 15] (fun s n i wr => ∃ (k : Nat) (S : Int) (M : Nat), k ≤ cs.length ∧ i = .int .i64 k ∧ s = .int .i64 S ∧ n = .int .i64 M ∧ 0 ≤ S ∧ S ≤ 1073741824 * k ∧ M ≤ k ∧ Hid (R = ofG j (cs.drop k) S M) ∧ Below w.heap.size w wr) (fun _ _ i _ => cs.length - (RowKit.intOf i).toNat)
  case atStart => exact ⟨0, 0, 0, Nat.zero_le _, rfl, rfl, rfl, by omega, by omega, by omega, hr0, B1.out⟩
  case round =>
    obtain ⟨k, S, M, hk, rfl, rfl, rfl, hS0, hS1, hM, hst, hBW⟩ := hrel
    by_cases hlt : k < cs.length
    · have hlt' : decide (k < cs.length) = true := decide_eq_true hlt
      have hlt2 : decide ((k : Int) < cs.length) = true := decide_eq_true (by omega)
      have hkl : (k : Int) < cs.length := by omega
      obtain ⟨b, off, rfl, hbw, hc⟩ := HROW.out (by omega)
      obtain ⟨c0, c1, c2, c3, c4, c5⟩ := (hc k hlt).kept hBW
      have hst' := hst.out
      rw [drop_ch hlt, ofG] at hst'
      obtain ⟨hx0, hx1⟩ := HSC.out _ (chAt_mem hlt)
      have HBW := Lib.hid hBW
      clear hc hst hBW
      generalize chAt cs k = x at *
      obtain ⟨id, ac, wk, sc, how, ax⟩ := x
      dsimp only at *
      have hb := Blk.new wr #[.int .u32 id, .string ac, .int .i64 wk, .int .i64 sc, .int .i64 how, .int .i64 ax] 24
      have HB1 := Lib.hid (HBW.out.alloc HBW.out.size (.cells #[.int .u32 id, .string ac, .int .i64 wk, .int .i64 sc, .int .i64 how, .int .i64 ax] 24))
      have HBL := Lib.hid hb
      obtain ⟨g, hg⟩ : ∃ g, g = wr.heap.size := ⟨_, rfl⟩
      rw [← hg] at HBL
      have d0 := HBL.out.cell 0
      have d3 := HBL.out.cell 3
      simp only [List.getElem?_toArray, List.getElem?_cons_zero, List.getElem?_cons_succ] at d0 d3
      clear hb HROW HBL
      go_upto_region 7 with fail
      rw [← hg]
      generalize wr.alloc (.cells #[.int .u32 id, .string ac, .int .i64 wk, .int .i64 sc, .int .i64 how, .int .i64 ax] 24) = W1 at *
      clear hg c0 c1 c2 c3 c4 c5
      by_cases qa : id = j
      · have hst2 : Hid (R = ofG j (cs.drop (k + 1)) (S + sc) (M + 1)) := by unfold Hid; rw [hst', if_pos qa]
        have t1 : (id == j) = true := by rw [beq_iff_eq]; exact qa
        clear hst' qa
        go_wp2_with fail
        go_roundw
        case rel => exact ⟨k + 1, S + sc, M + 1, hlt, by go_num, rfl, by go_num, by omega, by omega, by omega, hst2, HB1.out⟩
        case measure => simp [RowKit.intOf]; omega
      · have hst2 : Hid (R = ofG j (cs.drop (k + 1)) S M) := by unfold Hid; rw [hst', if_neg qa]
        have t1 : (id == j) = false := by rw [beq_eq_false_iff_ne]; exact qa
        clear hst' qa d3
        go_wp2_with fail
        go_roundw
        case rel => exact ⟨k + 1, S, M, hlt, by go_num, rfl, rfl, hS0, by omega, by omega, hst2, HB1.out⟩
        case measure => simp [RowKit.intOf]; omega
    · obtain rfl : k = cs.length := by omega
      have hlt' : decide (cs.length < cs.length) = false := decide_eq_false hlt
      have hlt2 : decide ((cs.length : Int) < cs.length) = false := decide_eq_false (by omega)
      have hr : Hid (R = (S, M)) := by unfold Hid; rw [hst.out, List.drop_length]; rfl
      clear hr0 HROW HSC hst
      go_wp2_with fail
      go_ret2
      rw [hr.out]
      exact ⟨rfl, hBW⟩
end Go.Proofs.YtlafjjdponeeeaaDoor
