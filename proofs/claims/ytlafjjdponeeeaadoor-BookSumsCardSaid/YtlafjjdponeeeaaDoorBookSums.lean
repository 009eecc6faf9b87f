/-
  BookSums: all accounts' totals are together what all charges come to; a book cut anywhere is one, and no account has more there: so the law returns true for every input, the listed tables of Go's library reading as the program's text lays them.
-/
import Derived.Test.YtlafjjdponeeeaaDoorBkW
import Derived.Test.YtlafjjdponeeeaaDoorBkS
import Derived.Test.YtlafjjdponeeeaaDoorRows
import Derived.Test.YtlafjjdponeeeaaDoorArgs2
import Derived.Test.YtlafjjdponeeeaaDoorLaid
import Derived.Test.YtlafjjdponeeeaaDoorCards
import Derived.Test.YtlafjjdponeeeaaDoorTie
import Derived.MakeChecks
import Derived.SevenTiedAt
namespace Go.Proofs.YtlafjjdponeeeaaDoor.bookSums
open Go.ChangeShapes Go.WideShapes Go.ChangeAt Go.RowKit
set_option linter.unusedVariables false

theorem own : ownKnob Tryd.prog.godebug = none := by kernel_rfl

def firstQ (l : List Chg) (i q : Nat) : Bool := (l.take q).all fun c => decide (c.acct ≠ (chAt l i).acct)
theorem firstQ_step {l : List Chg} {i q : Nat} (h : q < l.length) : firstQ l i (q + 1) = (firstQ l i q && decide ((chAt l q).acct ≠ (chAt l i).acct)) := by
  unfold firstQ; rw [take_ch h, List.all_append]; simp
theorem many_no {l : List Chg} {account : ByteArray} (h : manyN l account = false) : l.length ≤ 3000 ∧ account.size ≤ 300 ∧ ∀ c ∈ l, c.acct.size ≤ 300 := by
  unfold manyN at h
  simp only [Bool.or_eq_false_iff, decide_eq_false_iff_not, List.any_eq_false, decide_eq_true_eq] at h
  exact ⟨by omega, by omega, fun c hc => by have := h.2 c hc; omega⟩
open Go Go.RowKit Go.Lib in
set_option maxRecDepth 100000 in
set_option maxHeartbeats 8000000 in
theorem walk (v : Value) (l : List Chg) (cut : Int) (w : World) (hE : EnvB w) (hl : ChArg w v l) (wcut : (Lit.int .i64 cut).wf = true) :
    Calls Tryd.prog 5 #[v, .int .i64 cut] w fun e w' => e = .returned (.bool true) ∧ Below w.heap.size w w' := by
  have K : Hid (∀ w1, Below w.heap.size w w1 → Calls Tryd.prog 8 #[] w1 fun e w' => e = .returned (.bool true) ∧ Below w1.heap.size w1 w') := fun w1 hb => known20_any w1 (hE.next hb)
  obtain ⟨hrow, hok⟩ := hl
  obtain ⟨A0, c0, hv, hcl, hcm, hr0⟩ := id hrow
  have MN : Hid (Calls Tryd.prog 11 #[v, .string ⟨#[]⟩] w fun e w'' => e = .returned (.bool (manyN l ⟨#[]⟩)) ∧ w'' = w) := many20_any v l ⟨#[]⟩ w hrow
  have HROW := Lib.hid hrow
  have HR0 := Lib.hid hr0
  have HMN : Hid (manyN l ⟨#[]⟩ = false → ∀ c ∈ l, c.acct.size ≤ 300) := fun h => (many_no h).2.2
  have HOK := Lib.hid hok
  have HL1 : Hid (300 < l.length → decide ((l.length : Int) > 300) = true ∧ decide (300 < l.length) = true) := fun h => ⟨decide_eq_true (by omega), decide_eq_true h⟩
  have HL2 : Hid (¬ 300 < l.length → decide ((l.length : Int) > 300) = false ∧ decide (300 < l.length) = false) := fun h => ⟨decide_eq_false (by omega), decide_eq_false h⟩
  have HE := Lib.hid hE
  have hn63 : l.length ≤ 9223372036854775807 := by unfold maxLen at hcm; omega
  have HCK : Hid (manyN l ⟨#[]⟩ = false → Calls Tryd.prog 14 #[v] w fun e w'' => e = .returned (.int .i64 (chkCh l)) ∧ Below w.heap.size w w'') := fun h => check_ch v l w hrow (fun c hc => (hok c hc).wf ((many_no h).2.2 c hc)) hE.u8
  subst hv
  clear hE hrow hok wcut hr0
  generalize hm : manyN l ⟨#[]⟩ = M at *
  go_enter Tryd.func5, Tryd.ntmps5
  cases M
  case true =>
    have K0 := Lib.hid (K.out _ (Below.refl _ _))
    clear HL1 HL2 HCK HMN HROW HR0
    go_wp2_with fail
    refine MN.out.mono ?_; rintro e w1 ⟨rfl, hw1⟩
    obtain rfl := hw1
    go_wp2_with fail
    refine K0.out.mono ?_; rintro e w2 ⟨rfl, b2⟩
    go_wp2_with fail
    go_ret
    exact ⟨rfl, b2⟩
  by_cases hq0 : 300 < l.length
  · obtain ⟨q0, q0'⟩ := HL1.out hq0
    have K0 := Lib.hid (K.out _ (Below.refl _ _))
    clear HL1 HL2 HCK HMN HROW HR0
    go_wp2_with fail
    refine MN.out.mono ?_; rintro e w1 ⟨rfl, hw1⟩
    obtain rfl := hw1
    go_wp2_with fail
    refine K0.out.mono ?_; rintro e w2 ⟨rfl, b2⟩
    go_wp2_with fail
    go_ret
    exact ⟨rfl, b2⟩
  obtain ⟨q0, q0'⟩ := HL2.out hq0
  have hls := HMN.out rfl
  have hwf : ∀ c ∈ l, ChWf c := fun c hc => (HOK.out c hc).wf (hls c hc)
  have CL := Lib.hid (HCK.out rfl)
  have hcl2 : (chkCh l != 0) = !bookB l := chk_ne
  generalize chkCh l = E1 at *
  cases hBL : bookB l
  · have g : (E1 != 0) = true := by rw [hcl2, hBL]; rfl
    clear HL1 HL2 HCK HMN HROW HR0 hcl2 hls hwf HOK
    go_wp2_with fail
    refine MN.out.mono ?_; rintro e w1 ⟨rfl, hw1⟩
    obtain rfl := hw1
    go_wp2_with fail
    refine CL.out.mono ?_; rintro e w2 ⟨rfl, b2⟩
    have K2 := Lib.hid (K.out _ b2)
    go_wp2_with fail
    refine K2.out.mono ?_; rintro e w3 ⟨rfl, b3⟩
    have B3 := below_next b3 b2
    go_wp2_with fail
    go_ret
    exact ⟨rfl, B3⟩
  have g : (E1 != 0) = false := by rw [hcl2, hBL]; rfl
  have hlen : l.length ≤ 300 := by omega
  obtain ⟨U, k, u1, u2, u3, hk, u4, u5⟩ := mod_pickS cut l.length (by omega)
  have hkc : (k : Int) ≤ c0 := by omega
  have hokl : ∀ c ∈ l, okCh c = true := (book_mem hBL).2
  have CK : Hid (∀ w', Below w.heap.size w w' → Calls Tryd.prog 14 #[.slice A0 k c0] w' fun e w'' => e = .returned (.int .i64 0) ∧ Below w'.heap.size w' w'') := fun w' hb => by
    have := check_ch _ (l.take k) w' ((take_row HROW.out hk).kept hb) (fun c hc => hwf c (List.mem_of_mem_take hc)) (HE.out.u8.next hb)
    have e : chkCh (l.take k) = 0 := by unfold chkCh; rw [if_pos (book_take k hBL)]
    rwa [e] at this
  have TL : Hid (∀ w' (acct : ByteArray), acct.size ≤ 300 → Below w.heap.size w w' → Calls Tryd.prog 16 #[.slice A0 l.length c0, .string acct] w' fun e w'' => e = .returned (.int .i64 (sumG acct l)) ∧ Below w'.heap.size w' w'') := fun w' acct hs hb => by
    have := total_any _ l acct w' (HROW.out.kept hb) hwf (HE.out.u8.next hb) (by omega)
    rwa [totCh_sum acct hBL] at this
  have TK : Hid (∀ w' (acct : ByteArray), acct.size ≤ 300 → Below w.heap.size w w' → Calls Tryd.prog 16 #[.slice A0 k c0, .string acct] w' fun e w'' => e = .returned (.int .i64 (totCh (l.take k) acct)) ∧ Below w'.heap.size w' w'') := fun w' acct hs hb =>
    total_any _ (l.take k) acct w' ((take_row HROW.out hk).kept hb) (fun c hc => hwf c (List.mem_of_mem_take hc)) (HE.out.u8.next hb) (by omega)
  have TLE : Hid (∀ acct, totCh (l.take k) acct ≤ sumG acct l) := fun acct => by have := tot_take acct k hBL; rwa [totCh_sum acct hBL] at this
  have SB : Hid (∀ acct, 0 ≤ sumG acct l ∧ sumG acct l ≤ 1099511627776 * 300) := fun acct => by have := sumG_bd acct l hokl; omega
  have AB : Hid (∀ j, j ≤ l.length → 0 ≤ allG (l.take j) ∧ allG (l.take j) ≤ 1099511627776 * 300) := fun j hj => by
    have := allG_bd (l.take j) (fun c hc => hokl c (List.mem_of_mem_take hc))
    rw [List.length_take] at this; omega
  have AS : Hid (∀ j, j < l.length → allG (l.take (j + 1)) = allG (l.take j) + (chAt l j).wk * (chAt l j).sc ∧ 0 ≤ (chAt l j).wk * (chAt l j).sc ∧ (chAt l j).wk * (chAt l j).sc ≤ 1099511627776) := fun j hj => by
    refine ⟨by rw [take_ch hj, allG_app], cost_bd (hokl _ (chAt_mem hj))⟩
  have FB : Hid (∀ j, j ≤ l.length → 0 ≤ sumF l j ∧ sumF l j ≤ 1099511627776 * 300) := fun j hj => by
    rw [sumF_eq l j hj]
    have := sumM_bd l (l.take j) hokl
    omega
  have SZ : Hid (∀ j, j < l.length → (chAt l j).acct.size ≤ 300) := fun j hj => hls _ (chAt_mem hj)
  have FA := Lib.hid (sumF_all l)
  have TA : Hid (l.take l.length = l) := List.take_length
  clear HL1 HL2 HCK HMN HROW hcl2 hls hwf HOK hokl hBL
  go_wp2_with fail
  refine MN.out.mono ?_; rintro e w1 ⟨rfl, hw1⟩
  obtain rfl := hw1
  go_wp2_with fail
  refine CL.out.mono ?_; rintro e w2 ⟨rfl, b2⟩
  have B2 := Lib.hid b2
  clear b2 MN CL
  go_upto_region 3 with fail
  clear g q0 q0'
  go_wp2_with fail
  obtain ⟨N, hN⟩ : ∃ N, N = l.length := ⟨_, rfl⟩
  rw [← hN] at u2 u3 u4 u5 hk hlen hn63 hcl AB AS FB SZ FA TA TL ⊢
  have HN := Lib.hid hN
  clear hN
  go_loopw [5, 6] (fun a i wr => ∃ j : Nat, j ≤ N ∧ i = .int .i64 j ∧ a = .int .i64 (allG (l.take j)) ∧ Below w1.heap.size w1 wr) (fun _ i _ => N - (RowKit.intOf i).toNat)
  case atStart => exact ⟨0, Nat.zero_le _, rfl, rfl, B2.out⟩
  case round =>
    obtain ⟨j, hj, rfl, rfl, hBW⟩ := hrel
    by_cases hlt : j < N
    · have hlt' : decide (j < N) = true := decide_eq_true hlt
      have hlt2 : decide ((j : Int) < N) = true := decide_eq_true (by omega)
      have hkl : (j : Int) < N := by omega
      obtain ⟨b, off, rfl, hbw, hc⟩ := HR0.out (by have := HN.out; omega)
      obtain ⟨c0, c1, c2, c3, c4, c5⟩ := (hc j (by have := HN.out; omega)).kept hBW
      obtain ⟨n1, n2, n3⟩ := AS.out j hlt
      have n4 := AB.out j hj
      have n5 := AB.out (j + 1) (by omega)
      have HBW := Lib.hid hBW
      clear hc c0 c1 c4 c5 hBW TL TK CK TLE SB AB AS FB SZ FA TA HE K HR0 B2
      generalize (chAt l j).wk = wk at *
      generalize (chAt l j).sc = sc at *
      rw [n1] at n5
      have n1h := Lib.hid n1
      generalize allG (l.take j) = S at *
      clear n1
      go_wp2_with fail
      go_quiet (fail)
      go_wp2_with fail
      go_roundw
      case rel => exact ⟨j + 1, hlt, by go_num, by rw [n1h.out], below_drewN HBW.out _⟩
      case measure => simp [RowKit.intOf]; omega
    · obtain rfl : j = N := by omega
      have hlt' : decide (j < j) = false := decide_eq_false hlt
      have hlt2 : decide ((j : Int) < j) = false := decide_eq_false (by omega)
      rw [show l.take j = l by rw [HN.out]; exact List.take_length]
      have HB3 := Lib.hid hBW
      have AL : 0 ≤ allG l ∧ allG l ≤ 1099511627776 * 300 := by have := AB.out j (Nat.le_refl _); rwa [show l.take j = l by rw [HN.out]; exact List.take_length] at this
      have FAN : Hid (sumF l j = allG l) := FA.out
      have CK3 := Lib.hid (CK.out _ hBW)
      generalize allG l = ALL at *
      clear hBW B2 AB AS FA CK TA
      go_wp2_with fail
      refine CK3.out.mono ?_; rintro e w3 ⟨rfl, b3⟩
      have B3 := Lib.hid (below_next b3 HB3.out)
      clear b3 CK3 HB3 u1 u2 u3 u4 u5
      go_wp2_with fail
      go_loopw [7, 9] (fun t i wx => ∃ p : Nat, p ≤ j ∧ i = .int .i64 p ∧ t = .int .i64 (sumF l p) ∧ Below w1.heap.size w1 wx) (fun _ i _ => j - (RowKit.intOf i).toNat)
      case atStart => exact ⟨0, Nat.zero_le _, rfl, rfl, B3.out⟩
      case round =>
        obtain ⟨p, hp, rfl, rfl, hBX⟩ := hrel
        by_cases hlp : p < j
        · have hlp' : decide (p < j) = true := decide_eq_true hlp
          have hlp2 : decide ((p : Int) < j) = true := decide_eq_true (by omega)
          have hpl : (p : Int) < j := by omega
          obtain ⟨b, off, rfl, hbw, hc⟩ := HR0.out (by have := HN.out; omega)
          have HC := Lib.hid hc
          have HBX := Lib.hid hBX
          have hF1 := FB.out p hp
          have hF2 := FB.out (p + 1) hlp
          have hFS : Hid (sumF l (p + 1) = sumF l p + if firstB l p = true then sumG (chAt l p).acct l else 0) := rfl
          have hSG := SB.out (chAt l p).acct
          have hsz := SZ.out p hlp
          have hTLE := TLE.out (chAt l p).acct
          have TL4 := Lib.hid (fun w' hb => TL.out w' (chAt l p).acct hsz hb)
          have TK4 := Lib.hid (fun w' hb => TK.out w' (chAt l p).acct hsz hb)
          have FQ : Hid (firstQ l p p = firstB l p) := rfl
          have hgt : decide (totCh (l.take k) (chAt l p).acct > sumG (chAt l p).acct l) = false := decide_eq_false (by omega)
          have hgt' : decide (sumG (chAt l p).acct l < totCh (l.take k) (chAt l p).acct) = false := hgt
          generalize sumG (chAt l p).acct l = SG at *
          generalize totCh (l.take k) (chAt l p).acct = TG at *
          generalize sumF l p = F1 at *
          clear hBX hc TL TK SB FB SZ TLE FAN B3 K
          go_wp2_with fail
          go_loopw [10, 11] (fun f jj wy => ∃ q : Nat, q ≤ p ∧ jj = .int .i64 q ∧ f = .bool (firstQ l p q) ∧ Below w1.heap.size w1 wy) (fun _ jj _ => p - (RowKit.intOf jj).toNat)
          case atStart => exact ⟨0, Nat.zero_le _, rfl, by unfold firstQ; rfl, HBX.out⟩
          case round =>
            obtain ⟨q, hq, rfl, rfl, hBY⟩ := hrel
            by_cases hlq : q < p
            · have hlq' : decide (q < p) = true := decide_eq_true hlq
              have hlq2 : decide ((q : Int) < p) = true := decide_eq_true (by omega)
              have hql : (q : Int) < j := by omega
              have hstep := Lib.hid (firstQ_step (l := l) (i := p) (q := q) (by have := HN.out; omega))
              have d1 := ((HC.out q (by have := HN.out; omega)).kept hBY).c1
              have e1 := ((HC.out p (by have := HN.out; omega)).kept hBY).c1
              have HBY := Lib.hid hBY
              have hne : (((chAt l q).acct).toList != ((chAt l p).acct).toList) = decide ((chAt l q).acct ≠ (chAt l p).acct) := by rw [bne, str_beq]; simp
              clear hBY HC TL4 TK4 FQ hFS HBX
              generalize decide ((chAt l q).acct ≠ (chAt l p).acct) = dd at *
              generalize (chAt l q).acct = aq at *
              generalize (chAt l p).acct = ap at *
              cases hf : firstQ l p q
              · rw [hf] at hstep
                go_wp2_with fail
                go_quiet (fail)
                go_wp2_with fail
                go_roundw
                case rel => exact ⟨q + 1, hlq, by go_num, by rw [hstep.out]; rfl, below_drewN HBY.out _⟩
                case measure => simp [RowKit.intOf]; omega
              · rw [hf] at hstep
                go_wp2_with fail
                go_quiet (fail)
                go_wp2_with fail
                go_roundw
                case rel => exact ⟨q + 1, hlq, by go_num, by rw [hstep.out, ← hne]; rfl, below_drewN HBY.out _⟩
                case measure => simp [RowKit.intOf]; omega
            · obtain rfl : q = p := by omega
              have hlq' : decide (q < q) = false := decide_eq_false hlq
              have hlq2 : decide ((q : Int) < q) = false := decide_eq_false (by omega)
              have HBY := Lib.hid hBY
              have hfq := FQ.out
              cases hfb : firstB l q
              · rw [hfq, hfb]
                have hF2e : Hid (sumF l (q + 1) = F1) := by unfold Hid; rw [hFS.out, hfb]; simp
                clear hBY FQ hfq hfb HBX hFS
                have e2 := ((HC.out q (by have := HN.out; omega)).kept HBY.out).c1
                have HS : Hid (∀ w', Below wr.heap.size wr w' → w'.cell? ⟨b, off + q * 6 + 1, none⟩ = some (.string (chAt l q).acct) ∧ Below w1.heap.size w1 w') := fun w' hb => ⟨cell_next hb e2, below_next hb HBY.out⟩
                have HS2 : Hid (∀ w' w'', Below w'.heap.size w' w'' → w'.cell? ⟨b, off + q * 6 + 1, none⟩ = some (.string (chAt l q).acct) ∧ Below w1.heap.size w1 w' → w''.cell? ⟨b, off + q * 6 + 1, none⟩ = some (.string (chAt l q).acct) ∧ Below w1.heap.size w1 w'') := fun w' w'' hb h => ⟨cell_next hb h.1, below_next hb h.2⟩
                have hBd : Below wr.heap.size wr wr.drew := (Below.refl _ _).drew
                clear HC
                generalize (chAt l q).acct = ap at *
                go_upto_region 22 with fail
                go_region_held3 (fun w' => w'.cell? ⟨b, off + q * 6 + 1, none⟩ = some (.string ap) ∧ Below w1.heap.size w1 w')
                  (first
                    | exact HS.out _ hBd
                    | (exact HS2.out _ _ (by assumption) ‹_ ∧ Below w1.heap.size _ _›)
                    | assumption)
                  (first
                    | (go_at_call 16; ((with_reducible refine (TK4.out _ (‹_ ∧ Below w1.heap.size _ _›).2).mono ?_); rintro e w6 ⟨rfl, b6⟩))
                    | (go_at_call 16; ((with_reducible refine (TL4.out _ (‹_ ∧ Below w1.heap.size _ _›).2).mono ?_); rintro e w6 ⟨rfl, b6⟩)))
                all_goals
                  have HB6 := Lib.hid (‹_ ∧ Below w1.heap.size _ _›).2
                  go_wp2_with fail
                  go_roundw
                  case rel => exact ⟨q + 1, hlp, by go_num, by rw [hF2e.out], HB6.out⟩
                  case measure => simp [RowKit.intOf]; omega
              · rw [hfq, hfb]
                have hF2e : Hid (sumF l (q + 1) = F1 + SG) := by unfold Hid; rw [hFS.out, hfb]; simp
                clear hBY FQ hfq hfb
                have e1 := ((HC.out q (by have := HN.out; omega)).kept HBY.out).c1
                clear HBX hFS
                go_wp2_with fail
                refine (TL4.out _ HBY.out).mono ?_; rintro e w5 ⟨rfl, b5⟩
                have HB5 := Lib.hid (below_next b5 HBY.out)
                clear b5 e1 HBY
                have e2 := ((HC.out q (by have := HN.out; omega)).kept HB5.out).c1
                have HS : Hid (∀ w', Below w5.heap.size w5 w' → w'.cell? ⟨b, off + q * 6 + 1, none⟩ = some (.string (chAt l q).acct) ∧ Below w1.heap.size w1 w') := fun w' hb => ⟨cell_next hb e2, below_next hb HB5.out⟩
                have HS2 : Hid (∀ w' w'', Below w'.heap.size w' w'' → w'.cell? ⟨b, off + q * 6 + 1, none⟩ = some (.string (chAt l q).acct) ∧ Below w1.heap.size w1 w' → w''.cell? ⟨b, off + q * 6 + 1, none⟩ = some (.string (chAt l q).acct) ∧ Below w1.heap.size w1 w'') := fun w' w'' hb h => ⟨cell_next hb h.1, below_next hb h.2⟩
                have hBd : Below w5.heap.size w5 w5.drew := (Below.refl _ _).drew
                clear HC
                generalize (chAt l q).acct = ap at *
                go_upto_region 22 with fail
                go_region_held3 (fun w' => w'.cell? ⟨b, off + q * 6 + 1, none⟩ = some (.string ap) ∧ Below w1.heap.size w1 w')
                  (first
                    | exact HS.out _ hBd
                    | (exact HS2.out _ _ (by assumption) ‹_ ∧ Below w1.heap.size _ _›)
                    | assumption)
                  (first
                    | (go_at_call 16; ((with_reducible refine (TK4.out _ (‹_ ∧ Below w1.heap.size _ _›).2).mono ?_); rintro e w6 ⟨rfl, b6⟩))
                    | (go_at_call 16; ((with_reducible refine (TL4.out _ (‹_ ∧ Below w1.heap.size _ _›).2).mono ?_); rintro e w6 ⟨rfl, b6⟩)))
                all_goals
                  have HB6 := Lib.hid (‹_ ∧ Below w1.heap.size _ _›).2
                  go_wp2_with fail
                  go_roundw
                  case rel => exact ⟨q + 1, hlp, by go_num, by rw [hF2e.out], HB6.out⟩
                  case measure => simp [RowKit.intOf]; omega
        · obtain rfl : p = j := by omega
          have hlp' : decide (p < p) = false := decide_eq_false hlp
          have hlp2 : decide ((p : Int) < p) = false := decide_eq_false (by omega)
          have hfa := FAN.out
          rw [hfa]
          have K5 := Lib.hid (K.out _ hBX)
          have HBX := Lib.hid hBX
          have heq : (ALL == ALL) = true := by simp
          clear hBX TL TK SB FB SZ TLE FAN B3 K hfa
          go_wp2_with fail
          refine K5.out.mono ?_; rintro e w6 ⟨rfl, b6⟩
          have B6 := Lib.hid (below_next b6 HBX.out)
          clear b6
          go_wp2_with fail
          go_ret
          exact ⟨rfl, B6.out⟩


set_option maxRecDepth 100000 in
theorem lifted (os : Os) (started : os.Started) (H : Type) (enc : TypeId × Value → H) :
    ReturnsInHanded {} Tryd.checked os 5 .any (fun w args => (Rows.bookSumsSpec.pre enc Tryd.prog Tryd.f5 Rows.bookSumsRow.domain false w args ∧ laidMetH Tryd.prog laid20 w) ∧ sizedMet enc Tryd.prog Tryd.f5 (OpenSpec.ofChange Rows.bookSumsSpec) false w args) (Rows.bookSumsSpec.post enc Tryd.prog Tryd.f5 false true false false) := by
  refine laid_lift (C := Tryd.checked) (X := fun w _ => laidMetH Tryd.prog laid20 w) (fun _ _ _ hh h => h.of_heap hh) own started (by kernel_rfl) Tryd.func5
    (ChangeSpec.witness_shaped (enc := enc) (C := Tryd.checked) (os := os) (X := fun w _ => laidMetH Tryd.prog laid20 w) false (World.laidAll Tryd.prog os laid20) #[.slice none 0 0, .int .i64 0] 8 (World.laidAll_os _ _ _)
      (World.shaped_of_ZipB (by kernel_rfl) (by kernel_rfl)) (by kernel_rfl) (by kernel_rfl) (by kernel_rfl)
      (by rw [MakeChecks.laidMetH_plain _ _ _ (by kernel_rfl)]; exact laidMet_laidAll _ (by kernel_rfl) (by kernel_rfl))) ?_
  intro W base args ds gs before hval0 hW hsz0 hL hS
  have hE := env20_of hL hS
  have hval : ∀ (j : Nat) t v, Tryd.f5.params[j]? = some t → args[j]? = some v → Value.okWide Tryd.prog W .any base t v := hval0
  have hW' := hW
  obtain ⟨p, q, hA0, hV, rfl, hfz, hnd⟩ := hW
  have hA : DataW.TrodAll enc Tryd.prog W 0 (fun _ => true) true Tryd.f5.params.toList args.toList ds p := hA0
  rw [Tryd.params5] at hA hval
  obtain ⟨v0, vs0, d0, ds0, p0, q0, hargs, rfl, rfl, h0, r0⟩ := trodAll_cons hA
  obtain ⟨v1, vs1, d1, ds1, p1, q1, rfl, rfl, rfl, h1, r1⟩ := trodAll_cons r0
  obtain ⟨rfl, rfl, rfl⟩ := trodAll_nil r1
  obtain rfl : args = #[v0, v1] := by cases args; simp_all
  obtain ⟨l, w0⟩ := open_charges_arg h0 (okWide_slice Tryd.underlying32 (hval 0 32 v0 rfl rfl))
  obtain ⟨cut, rfl, rfl, rfl, w1⟩ := open_int Tryd.underlying3 (hval 1 3 v1 rfl rfl) h1
  clear hA0 hval0
  refine (walk v0 l cut W hE w0 w1).mono fun e W' ⟨he, hb⟩ => ?_
  subst he
  exact ⟨_, rfl, law_post (by kernel_rfl) (by kernel_rfl) rfl Tryd.underlying4 rfl hW' rfl hb⟩

theorem over : Rows.bookSumsRow.holds Tryd.pinned (OpenSpec.ofChange Rows.bookSumsSpec) :=
  OpenClaim.holds_of_wide 5 Tryd.f5 rfl rfl rfl rfl rfl rfl rfl ⟨rfl, rfl, rfl, rfl, rfl⟩ rfl rfl rfl rfl rfl (by kernel_rfl) Tryd.func5 (by kernel_rfl)
    (of_decide_eq_true (by kernel_rfl)) (by unfold Func.isWrapper; first | (rw [if_pos (by decide +kernel)]; kernel_rfl) | (rw [if_neg (by decide +kernel)]; exact ⟨rfl, rfl⟩))
    (fun os started H enc _ => lifted os started H enc)

theorem proved : Rows.BookSumsCardSaid :=
  Claim7.holds_tied_plain_at .later [] _ true _ false over (fun _ h => by cases h) (by kernel_rfl) (fun _ h => by cases h) bookSums_row_tie rfl ⟨rfl, rfl⟩ (by kernel_rfl) rfl
    (fun f fn hf hfn => by
      obtain rfl : f = 5 := Option.some.inj ((show Tryd.prog.funcNamed "ganger/gangerlaw20.BookSums" = some 5 by kernel_rfl).symm.trans hf) |>.symm
      obtain rfl : fn = Tryd.f5 := (Option.some.inj (Tryd.func5.symm.trans hfn)).symm
      exact ⟨by kernel_rfl, fun j t ht => by
        rw [Tryd.params5] at ht
        have hm : t ∈ [32, 3] := by simpa using Array.mem_of_getElem? ht
        have hall : ([32, 3].all fun u => !Tryd.prog.wantsStandIn u) = true := by kernel_rfl
        exact (show Tryd.prog.wantsStandIn t = false by simpa using List.all_eq_true.1 hall t hm)⟩)
    (by kernel_rfl)
#print axioms proved
end Go.Proofs.YtlafjjdponeeeaaDoor.bookSums
