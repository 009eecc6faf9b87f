/-
  gangerref20.Total, Of: at any charges.
-/
import Derived.Test.YtlafjjdponeeeaaDoorBkRc
namespace Go.Proofs.YtlafjjdponeeeaaDoor
open Go Go.RowKit Go.Lib
set_option linter.unusedVariables false

theorem of_nn (n : Int) (w : World) (h : 0 ≤ n) (h' : n ≤ 9223372036854775807) : Calls Tryd.prog 34 #[.int .i64 n] w
    fun e w' => e = .returned (.agg #[.bool false, .int .u64 (hiW n.toNat), .int .u64 (loW n.toNat)]) ∧ Below w.heap.size w w' := by
  have := of_any n w (by unfold I64; omega)
  have e1 : negB n = false := decide_eq_false (by omega)
  have e2 : n.natAbs = n.toNat := by omega
  rwa [e1, e2] at this
theorem end_nn (A B : Nat) (w : World) (h : Fits (A + B)) : Calls Tryd.prog 32 #[.agg #[.bool false, .int .u64 (hiW (A + B)), .int .u64 (loW (A + B))]] w
    fun e w' => e = .returned (.int .i64 (endV ((A : Int) + (B : Int)))) ∧ Below w.heap.size w w' := by
  have := End_any false (A + B) w h
  have e : sg false (A + B) = (A : Int) + (B : Int) := by unfold sg; simp
  rwa [e] at this
set_option maxRecDepth 100000 in
set_option maxHeartbeats 8000000 in
theorem refTotal_any (v : Value) (cs : List Chg) (acct : ByteArray) (w : World) (hr : ChRow w v cs) (hwf : ∀ c ∈ cs, ChWf c) :
    Calls Tryd.prog 17 #[v, .string acct] w fun e w' => e = .returned (.int .i64 (totCh cs acct)) ∧ Below w.heap.size w w' := by
  have HCK := Lib.hid (refCheck_ch v cs w hr hwf)
  obtain ⟨A, c, rfl, hcl, hcm, hrow⟩ := hr
  have hn63 : cs.length ≤ 9223372036854775807 := by unfold maxLen at hcm; omega
  have HTOT : Hid (totCh cs acct = if bookB cs = true then totG acct cs 0 else 0) := rfl
  have HROW := Lib.hid hrow
  have HOK : Hid (bookB cs = true → ∀ c ∈ cs, okCh c = true) := fun h => (book_mem h).2
  have hEq : chkCh cs = if bookB cs = true then 0 else 200 := rfl
  generalize chkCh cs = E at *
  generalize totCh cs acct = R at *
  clear hrow hwf
  go_enter Tryd.func17, Tryd.ntmps17
  go_wp2_with fail
  refine HCK.out.mono ?_; rintro e w1 ⟨rfl, b1⟩
  have B1 := Lib.hid b1
  clear HCK b1
  cases hB : bookB cs
  · rw [hB] at HTOT hEq
    have hE0 : E = 200 := hEq
    subst hE0
    have hr : Hid (R = 0) := by unfold Hid; rw [HTOT.out, if_neg (by decide)]
    clear HTOT HROW HOK hEq hB
    go_wp2_with fail
    go_loopw [6, 7] (fun t i wr => t = .int .i64 0 ∧ i = .int .i64 0 ∧ Below w.heap.size w wr) (fun _ _ _ => 0)
    case atStart => exact ⟨rfl, rfl, B1.out⟩
    case round =>
      obtain ⟨rfl, rfl, hBW⟩ := hrel
      by_cases h0 : 0 < cs.length
      · have t1 : decide ((0 : Int) < cs.length) = true := decide_eq_true (by omega)
        have t1n : decide (0 < cs.length) = true := decide_eq_true h0
        go_wp2_with fail
        go_ret
        rw [hr.out]
        exact ⟨rfl, hBW⟩
      · have t1 : decide ((0 : Int) < cs.length) = false := decide_eq_false (by omega)
        have t1n : decide (0 < cs.length) = false := decide_eq_false h0
        go_wp2_with fail
        go_ret
        rw [hr.out]
        exact ⟨rfl, hBW⟩
  rw [hB] at HTOT hEq
  have hE0 : E = 0 := hEq
  subst hE0
  have hr0 : Hid (R = totG acct cs 0) := by unfold Hid; rw [HTOT.out, if_pos rfl]
  have hok := Lib.hid (HOK.out hB)
  clear HTOT HOK hEq hB
  go_wp2_with fail
  go_loopw [6, 7] (fun t i wr => ∃ (k T : Nat), k ≤ cs.length ∧ i = .int .i64 k ∧ t = .int .i64 (T : Int) ∧ T ≤ 9223372036854775807 ∧ Hid (R = totG acct (cs.drop k) (T : Int)) ∧ Below w.heap.size w wr) (fun _ i _ => cs.length - (RowKit.intOf i).toNat)
  case atStart => exact ⟨0, 0, Nat.zero_le _, rfl, rfl, by omega, hr0.out, B1.out⟩
  case round =>
    obtain ⟨k, T, hk, rfl, rfl, hTI, hst, hBW⟩ := hrel
    by_cases hlt : k < cs.length
    · have hlt' : decide (k < cs.length) = true := decide_eq_true hlt
      have hlt2 : decide ((k : Int) < cs.length) = true := decide_eq_true (by omega)
      have hkl : (k : Int) < cs.length := by omega
      obtain ⟨b, off, rfl, hbw, hc⟩ := HROW.out (by omega)
      obtain ⟨c0, c1, c2, c3, c4, c5⟩ := (hc k hlt).kept hBW
      have hst' := hst.out
      rw [drop_ch hlt, totG] at hst'
      have hokk := hok.out _ (chAt_mem hlt)
      have hcb := cost_bd hokk
      rw [cost_end hokk] at hst'
      have HBW := Lib.hid hBW
      clear hc hst hBW HROW hokk c0 c4 c5 hok hr0
      generalize (chAt cs k).acct = ac at *
      generalize (chAt cs k).wk = wk at *
      generalize (chAt cs k).sc = sc at *
      by_cases qa : ac = acct
      · rw [if_pos qa] at hst'
        have q1 : (ac.toList == acct.toList) = true := by rw [str_beq]; exact decide_eq_true qa
        obtain ⟨P, hP⟩ := Int.eq_ofNat_of_zero_le hcb.1
        have hPb : P ≤ 1099511627776 := by omega
        have OF1 : Hid (∀ w', Calls Tryd.prog 34 #[.int .i64 (T : Int)] w' fun e w'' => e = .returned (.agg #[.bool false, .int .u64 (hiW T), .int .u64 (loW T)]) ∧ Below w'.heap.size w' w'') := fun w' => of_nn T w' (by omega) (by omega)
        have OF2 : Hid (∀ w', Calls Tryd.prog 34 #[.int .i64 (wk * sc)] w' fun e w'' => e = .returned (.agg #[.bool false, .int .u64 (hiW P), .int .u64 (loW P)]) ∧ Below w'.heap.size w' w'') := fun w' => by rw [hP]; exact of_nn P w' (by omega) (by omega)
        have hft : Fits (T + P) := by unfold Fits; omega
        have PL : Hid (∀ w', Calls Tryd.prog 33 #[.agg #[.bool false, .int .u64 (hiW T), .int .u64 (loW T)], .agg #[.bool false, .int .u64 (hiW P), .int .u64 (loW P)]] w' fun e w'' => e = .returned (.agg #[.bool false, .int .u64 (hiW (T + P)), .int .u64 (loW (T + P))]) ∧ Below w'.heap.size w' w'') := fun w' => Plus_same false T P w' hft
        have EN : Hid (∀ w', Calls Tryd.prog 32 #[.agg #[.bool false, .int .u64 (hiW (T + P)), .int .u64 (loW (T + P))]] w' fun e w'' => e = .returned (.int .i64 (endV ((T : Int) + (P : Int)))) ∧ Below w'.heap.size w' w'') := fun w' => end_nn T P w' hft
        rw [hP] at hst'
        obtain ⟨q2, q3⟩ := endV_nn (n := (T : Int) + (P : Int)) (by omega)
        generalize endV ((T : Int) + (P : Int)) = V at *
        obtain ⟨V', rfl⟩ := Int.eq_ofNat_of_zero_le q2
        have hst2 : Hid (R = totG acct (cs.drop (k + 1)) (V' : Int)) := hst'
        have hPw : IntKind.i64.wrap (wk * sc) = wk * sc := by rw [IntKind.wrap_i64]; omega
        generalize hPP : wk * sc = PP at *
        have HS : Hid (∀ w', Below wr.heap.size wr w' → w'.cell? ⟨b, off + k * 6 + 2, none⟩ = some (.int .i64 wk) ∧ w'.cell? ⟨b, off + k * 6 + 3, none⟩ = some (.int .i64 sc) ∧ Below w.heap.size w w') := fun w' hb => ⟨cell_next hb c2, cell_next hb c3, below_next hb HBW.out⟩
        have HS2 : Hid (∀ w' w'', Below w'.heap.size w' w'' → (w'.cell? ⟨b, off + k * 6 + 2, none⟩ = some (.int .i64 wk) ∧ w'.cell? ⟨b, off + k * 6 + 3, none⟩ = some (.int .i64 sc) ∧ Below w.heap.size w w') → (w''.cell? ⟨b, off + k * 6 + 2, none⟩ = some (.int .i64 wk) ∧ w''.cell? ⟨b, off + k * 6 + 3, none⟩ = some (.int .i64 sc) ∧ Below w.heap.size w w'')) := fun w' w'' hb h => ⟨cell_next hb h.1, cell_next hb h.2.1, below_next hb h.2.2⟩
        have hBd : Below wr.heap.size wr wr.drew := (Below.refl _ _).drew
        clear hst' qa hP hft
        go_upto_region 7 with fail
        first
          | (go_loud (go_region_held3 (fun w' => w'.cell? ⟨b, off + k * 6 + 2, none⟩ = some (.int .i64 wk) ∧ w'.cell? ⟨b, off + k * 6 + 3, none⟩ = some (.int .i64 sc) ∧ Below w.heap.size w w')
              (first
                | exact HS.out _ hBd
                | (exact HS2.out _ _ (by assumption) ‹_ ∧ _ ∧ Below w.heap.size _ _›)
                | assumption)
              (first
                | (go_at_call 34; ((with_reducible refine (OF1.out _).mono ?_); rintro e w6 ⟨rfl, b6⟩))
                | (go_at_call 34; ((with_reducible refine (OF2.out _).mono ?_); rintro e w6 ⟨rfl, b6⟩))
                | (go_at_call 33; ((with_reducible refine (PL.out _).mono ?_); rintro e w6 ⟨rfl, b6⟩))
                | (go_at_call 32; ((with_reducible refine (EN.out _).mono ?_); rintro e w6 ⟨rfl, b6⟩)))))
          | fail "held"
        all_goals
          have HB6 := Lib.hid (‹_ ∧ _ ∧ Below w.heap.size _ _›).2.2
          go_wp2_with fail
          go_roundw
          case rel => exact ⟨k + 1, V', hlt, by go_num, rfl, by omega, hst2, HB6.out⟩
          case measure => simp [RowKit.intOf]; omega
      · rw [if_neg qa] at hst'
        have q1 : (ac.toList == acct.toList) = false := by rw [str_beq]; exact decide_eq_false qa
        have hst2 : Hid (R = totG acct (cs.drop (k + 1)) (T : Int)) := hst'
        clear hst' qa c2 c3
        go_wp2_with fail
        go_roundw
        case rel => exact ⟨k + 1, T, hlt, by go_num, rfl, hTI, hst2, HBW.out⟩
        case measure => simp [RowKit.intOf]; omega
    · obtain rfl : k = cs.length := by omega
      have hlt' : decide (cs.length < cs.length) = false := decide_eq_false hlt
      have hlt2 : decide ((cs.length : Int) < cs.length) = false := decide_eq_false (by omega)
      have hr : Hid (R = T) := by unfold Hid; rw [hst.out, List.drop_length]; rfl
      clear hr0 hok HROW hst
      go_wp2_with fail
      go_ret
      rw [hr.out]
      exact ⟨rfl, hBW⟩
set_option maxRecDepth 100000 in
set_option maxHeartbeats 8000000 in
theorem refOf_any (v : Value) (cs : List Chg) (j : Int) (w : World) (hr : ChRow w v cs) (hwf : ∀ c ∈ cs, ChWf c) :
    Calls Tryd.prog 13 #[v, .int .u32 j] w fun e w' => e = .returned (.tuple #[.int .i64 (ofCh cs j).1, .int .i64 (ofCh cs j).2]) ∧ Below w.heap.size w w' := by
  have HCK := Lib.hid (refCheck_ch v cs w hr hwf)
  obtain ⟨A, c, rfl, hcl, hcm, hrow⟩ := hr
  have hn63 : cs.length ≤ 9223372036854775807 := by unfold maxLen at hcm; omega
  have HTOT : Hid (ofCh cs j = if bookB cs = true then ofG j cs 0 0 else (0, 0)) := rfl
  have HROW := Lib.hid hrow
  have HBM : Hid (bookB cs = true → cs.length ≤ 2000 ∧ ∀ c ∈ cs, 0 ≤ c.sc ∧ c.sc ≤ 1073741824) := fun h => ⟨(book_mem h).1, fun c hc => (ok_nums ((book_mem h).2 c hc)).2.2.1⟩
  have hEq : chkCh cs = if bookB cs = true then 0 else 200 := rfl
  generalize chkCh cs = E at *
  generalize ofCh cs j = R at *
  clear hrow hwf
  go_enter Tryd.func13, Tryd.ntmps13
  go_wp2_with fail
  refine HCK.out.mono ?_; rintro e w1 ⟨rfl, b1⟩
  have B1 := Lib.hid b1
  clear HCK b1
  cases hB : bookB cs
  · rw [hB] at HTOT hEq
    have hE0 : E = 200 := hEq
    subst hE0
    have hr : Hid (R = (0, 0)) := by unfold Hid; rw [HTOT.out, if_neg (by decide)]
    clear HTOT HROW HBM hEq hB
    go_wp2_with fail
    go_loopw [7, 8, 9] (fun s n i wr => s = .int .i64 0 ∧ n = .int .i64 0 ∧ i = .int .i64 0 ∧ Below w.heap.size w wr) (fun _ _ _ _ => 0)
    case atStart => exact ⟨rfl, rfl, rfl, B1.out⟩
    case round =>
      obtain ⟨rfl, rfl, rfl, hBW⟩ := hrel
      by_cases h0 : 0 < cs.length
      · have t1 : decide ((0 : Int) < cs.length) = true := decide_eq_true (by omega)
        have t1n : decide (0 < cs.length) = true := decide_eq_true h0
        go_wp2_with fail
        go_ret2
        rw [hr.out]
        exact ⟨rfl, hBW⟩
      · have t1 : decide ((0 : Int) < cs.length) = false := decide_eq_false (by omega)
        have t1n : decide (0 < cs.length) = false := decide_eq_false h0
        go_wp2_with fail
        go_ret2
        rw [hr.out]
        exact ⟨rfl, hBW⟩
  rw [hB] at HTOT hEq
  have hE0 : E = 0 := hEq
  subst hE0
  have hr0 : Hid (R = ofG j cs 0 0) := by unfold Hid; rw [HTOT.out, if_pos rfl]
  obtain ⟨hlen, hsc⟩ := HBM.out hB
  have HSC := Lib.hid hsc
  clear HTOT HBM hEq hB hsc
  go_wp2_with fail
  go_loopw [7, 8, 9] (fun s n i wr => ∃ (k : Nat) (S : Int) (M : Nat), k ≤ cs.length ∧ i = .int .i64 k ∧ s = .int .i64 S ∧ n = .int .i64 M ∧ 0 ≤ S ∧ S ≤ 1073741824 * k ∧ M ≤ k ∧ Hid (R = ofG j (cs.drop k) S M) ∧ Below w.heap.size w wr) (fun _ _ i _ => cs.length - (RowKit.intOf i).toNat)
  case atStart => exact ⟨0, 0, 0, Nat.zero_le _, rfl, rfl, rfl, by omega, by omega, by omega, hr0, B1.out⟩
  case round =>
    obtain ⟨k, S, M, hk, rfl, rfl, rfl, hS0, hS1, hM, hst, hBW⟩ := hrel
    by_cases hlt : k < cs.length
    · have hlt' : decide (k < cs.length) = true := decide_eq_true hlt
      have hlt2 : decide ((k : Int) < cs.length) = true := decide_eq_true (by omega)
      have hkl : (k : Int) < cs.length := by omega
      obtain ⟨b, off, rfl, hbw, hc⟩ := HROW.out (by omega)
      obtain ⟨c0, c1, c2, c3, c4, c5⟩ := (hc k hlt).kept hBW
      have hst' := hst.out
      rw [drop_ch hlt, ofG] at hst'
      obtain ⟨hx0, hx1⟩ := HSC.out _ (chAt_mem hlt)
      have HBW := Lib.hid hBW
      clear hc hst hBW HROW c1 c2 c4 c5 hr0 HSC
      generalize (chAt cs k).id = id at *
      generalize (chAt cs k).sc = sc at *
      by_cases qa : id = j
      · have hst2 : Hid (R = ofG j (cs.drop (k + 1)) (S + sc) (M + 1)) := by unfold Hid; rw [hst', if_pos qa]
        have t1 : (id == j) = true := by rw [beq_iff_eq]; exact qa
        clear hst' qa
        go_wp2_with fail
        go_roundw
        case rel => exact ⟨k + 1, S + sc, M + 1, hlt, by go_num, rfl, by go_num, by omega, by omega, by omega, hst2, HBW.out⟩
        case measure => simp [RowKit.intOf]; omega
      · have hst2 : Hid (R = ofG j (cs.drop (k + 1)) S M) := by unfold Hid; rw [hst', if_neg qa]
        have t1 : (id == j) = false := by rw [beq_eq_false_iff_ne]; exact qa
        clear hst' qa c3
        go_wp2_with fail
        go_roundw
        case rel => exact ⟨k + 1, S, M, hlt, by go_num, rfl, rfl, hS0, by omega, by omega, hst2, HBW.out⟩
        case measure => simp [RowKit.intOf]; omega
    · obtain rfl : k = cs.length := by omega
      have hlt' : decide (cs.length < cs.length) = false := decide_eq_false hlt
      have hlt2 : decide ((cs.length : Int) < cs.length) = false := decide_eq_false (by omega)
      have hr : Hid (R = (S, M)) := by unfold Hid; rw [hst.out, List.drop_length]; rfl
      clear hr0 HROW HSC hst
      go_wp2_with fail
      go_ret2
      rw [hr.out]
      exact ⟨rfl, hBW⟩
end Go.Proofs.YtlafjjdponeeeaaDoor
