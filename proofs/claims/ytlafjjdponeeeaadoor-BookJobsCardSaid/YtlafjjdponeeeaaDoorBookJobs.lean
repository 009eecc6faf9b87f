/-
  BookJobs: a charge more changes its own job's seconds and runs, and its own account's total, by just its own, and no other's: so the law returns true for every input, the listed tables of Go's library reading as the program's text lays them.
-/
import Derived.Test.YtlafjjdponeeeaaDoorBkW
import Derived.Test.YtlafjjdponeeeaaDoorBkO
import Derived.Test.YtlafjjdponeeeaaDoorRows
import Derived.Test.YtlafjjdponeeeaaDoorArgs2
import Derived.Test.YtlafjjdponeeeaaDoorLaid
import Derived.Test.YtlafjjdponeeeaaDoorCards
import Derived.Test.YtlafjjdponeeeaaDoorTie
import Derived.MakeChecks
import Derived.SevenTiedAt
namespace Go.Proofs.YtlafjjdponeeeaaDoor.bookJobs
open Go.ChangeShapes Go.WideShapes Go.ChangeAt Go.RowKit
set_option linter.unusedVariables false

theorem own : ownKnob Tryd.prog.godebug = none := by kernel_rfl

theorem wf_u16' {n : Int} (h : (Lit.int .u16 n).wf = true) : 0 ≤ n ∧ n ≤ 65535 := by
  simpa [Lit.wf, IntKind.min, IntKind.max, IntKind.bits, IntKind.signed] using h
theorem many_no {l : List Chg} {account : ByteArray} (h : manyN l account = false) : l.length ≤ 3000 ∧ account.size ≤ 300 ∧ ∀ c ∈ l, c.acct.size ≤ 300 := by
  unfold manyN at h
  simp only [Bool.or_eq_false_iff, decide_eq_false_iff_not, List.any_eq_false, decide_eq_true_eq] at h
  exact ⟨by omega, by omega, fun c hc => by have := h.2 c hc; omega⟩
open Go Go.RowKit Go.Lib in
set_option maxRecDepth 100000 in
set_option maxHeartbeats 8000000 in
theorem walk (v : Value) (l : List Chg) (cid : Int) (ca : ByteArray) (cw cs ch cx : Int) (id : Int) (account : ByteArray) (w : World) (hE : EnvB w) (hl : ChArg w v l)
    (u0 : (Lit.int .u32 cid).wf = true) (u1 : ca.size ≤ maxLen) (u2 : (Lit.int .i64 cw).wf = true) (u3 : (Lit.int .i64 cs).wf = true) (u4 : (Lit.int .i64 ch).wf = true) (u5 : (Lit.int .i64 cx).wf = true) (wid : (Lit.int .u32 id).wf = true) (hac : account.size ≤ maxLen) :
    Calls Tryd.prog 7 #[v, .agg #[.int .u32 cid, .string ca, .int .i64 cw, .int .i64 cs, .int .i64 ch, .int .i64 cx], .int .u32 id, .string account] w fun e w' => e = .returned (.bool true) ∧ Below w.heap.size w w' := by
  have K : Hid (∀ w1, Below w.heap.size w w1 → Calls Tryd.prog 8 #[] w1 fun e w' => e = .returned (.bool true) ∧ Below w1.heap.size w1 w') := fun w1 hb => known20_any w1 (hE.next hb)
  obtain ⟨hrow, hok⟩ := hl
  obtain ⟨A0, c0', hv, hcl, hcm, _⟩ := _root_.id hrow
  have MN : Hid (∀ w', Below w.heap.size w w' → Calls Tryd.prog 11 #[v, .string account] w' fun e w'' => e = .returned (.bool (manyN l account)) ∧ w'' = w') := fun w' hb => many20_any v l account w' (hrow.kept hb)
  have HROW := Lib.hid hrow
  have HMN : Hid (manyN l account = false → l.length ≤ 3000 ∧ account.size ≤ 300 ∧ ∀ c ∈ l, c.acct.size ≤ 300) := many_no
  have HOK := Lib.hid hok
  have hC := Lib.hid (Blk.new w #[.int .u32 cid, .string ca, .int .i64 cw, .int .i64 cs, .int .i64 ch, .int .i64 cx] 24)
  have B0 := Lib.hid ((Below.refl w.heap.size w).alloc (Nat.le_refl _) (.cells #[.int .u32 cid, .string ca, .int .i64 cw, .int .i64 cs, .int .i64 ch, .int .i64 cx] 24))
  obtain ⟨gC, hgC⟩ : ∃ g, g = w.heap.size := ⟨_, rfl⟩
  rw [← hgC] at hC
  have hgw : w.heap.size ≤ gC := by omega
  have HT1 : Hid (300 < ca.size → decide ((ca.size : Int) > 300) = true ∧ decide (300 < ca.size) = true) := fun h => ⟨decide_eq_true (by omega), decide_eq_true h⟩
  have HT2 : Hid (¬ 300 < ca.size → decide ((ca.size : Int) > 300) = false ∧ decide (300 < ca.size) = false) := fun h => ⟨decide_eq_false (by omega), decide_eq_false h⟩
  have HL1 : Hid (300 < l.length → decide ((l.length : Int) > 300) = true ∧ decide (300 < l.length) = true) := fun h => ⟨decide_eq_true (by omega), decide_eq_true h⟩
  have HL2 : Hid (¬ 300 < l.length → decide ((l.length : Int) > 300) = false ∧ decide (300 < l.length) = false) := fun h => ⟨decide_eq_false (by omega), decide_eq_false h⟩
  have HE := Lib.hid hE
  have HCW : Hid (¬ 300 < ca.size → ChWf ⟨cid, ca, cw, cs, ch, cx⟩) := fun h => ⟨(wf_u32' u0).1, (wf_u32' u0).2, wf_i64' u2, wf_i64' u3, wf_i64' u4, wf_i64' u5, by dsimp only; omega⟩
  have hn63 : l.length ≤ 9223372036854775807 := by unfold maxLen at hcm; omega
  have HCK : Hid (manyN l account = false → ∀ w', Below w.heap.size w w' → Calls Tryd.prog 14 #[v] w' fun e w'' => e = .returned (.int .i64 (chkCh l)) ∧ Below w'.heap.size w' w'') := fun h w' hb => check_ch v l w' (hrow.kept hb) (fun c hc => (hok c hc).wf ((many_no h).2.2 c hc)) (hE.u8.next hb)
  subst hv
  clear hE hrow hok u0 u1 u2 u3 u4 u5 hac hcl hcm wid
  generalize hm : manyN l account = M at *
  go_enter Tryd.func7, Tryd.ntmps7
  go_upto_region 1 with fail
  rw [← hgC]
  generalize w.alloc (.cells #[.int .u32 cid, .string ca, .int .i64 cw, .int .i64 cs, .int .i64 ch, .int .i64 cx] 24) = W0 at *
  clear hgC
  have MN0 := Lib.hid (MN.out _ B0.out)
  have K0 := Lib.hid (K.out _ B0.out)
  obtain ⟨c0, c1, c2, c3, c4, c5⟩ := ch0 (c := ⟨cid, ca, cw, cs, ch, cx⟩) hC.out
  dsimp only at c0 c1 c2 c3 c4 c5
  clear MN
  cases M
  case true =>
    clear HT1 HT2 HL1 HL2 HCK HMN HROW
    go_wp2_with fail
    refine MN0.out.mono ?_; rintro e w1 ⟨rfl, hw1⟩
    obtain rfl := hw1
    go_wp2_with fail
    refine K0.out.mono ?_; rintro e w2 ⟨rfl, b2⟩
    have B2 := Lib.hid (below_next b2 B0.out)
    clear b2
    go_wp2_with fail
    go_ret
    exact ⟨rfl, B2.out⟩
  by_cases hq0 : 300 < l.length
  · obtain ⟨q0, q0'⟩ := HL1.out hq0
    clear HT1 HT2 HL1 HL2 HCK HMN HROW
    go_wp2_with fail
    refine MN0.out.mono ?_; rintro e w1 ⟨rfl, hw1⟩
    obtain rfl := hw1
    go_wp2_with fail
    refine K0.out.mono ?_; rintro e w2 ⟨rfl, b2⟩
    have B2 := Lib.hid (below_next b2 B0.out)
    clear b2
    go_wp2_with fail
    go_ret
    exact ⟨rfl, B2.out⟩
  obtain ⟨q0, q0'⟩ := HL2.out hq0
  by_cases hq1 : 300 < ca.size
  · obtain ⟨q1, q1'⟩ := HT1.out hq1
    clear HT1 HT2 HL1 HL2 HCK HMN HROW
    go_wp2_with fail
    refine MN0.out.mono ?_; rintro e w1 ⟨rfl, hw1⟩
    obtain rfl := hw1
    go_wp2_with fail
    refine K0.out.mono ?_; rintro e w2 ⟨rfl, b2⟩
    have B2 := Lib.hid (below_next b2 B0.out)
    clear b2
    go_wp2_with fail
    go_ret
    exact ⟨rfl, B2.out⟩
  obtain ⟨q1, q1'⟩ := HT2.out hq1
  have hcw := HCW.out hq1
  obtain ⟨_, has, hls⟩ := HMN.out rfl
  have hwf : ∀ c ∈ l, ChWf c := fun c hc => (HOK.out c hc).wf (hls c hc)
  have hwm : ∀ c ∈ l ++ [⟨cid, ca, cw, cs, ch, cx⟩], ChWf c := fun c hc => by
    rcases List.mem_append.1 hc with h | h
    · exact hwf c h
    · obtain rfl : c = _ := by simpa using h
      exact hcw
  have CM : Hid (∀ w' v', Below w.heap.size w w' → ChRow w' v' (l ++ [⟨cid, ca, cw, cs, ch, cx⟩]) → Calls Tryd.prog 14 #[v'] w' fun e w'' => e = .returned (.int .i64 (chkCh (l ++ [⟨cid, ca, cw, cs, ch, cx⟩]))) ∧ Below w'.heap.size w' w'') := fun w' v' hb hr => check_ch v' _ w' hr hwm (HE.out.u8.next hb)
  have OL : Hid (∀ w', Below w.heap.size w w' → Calls Tryd.prog 12 #[.slice A0 l.length c0', .int .u32 id] w' fun e w'' => e = .returned (.tuple #[.int .i64 (ofCh l id).1, .int .i64 (ofCh l id).2]) ∧ Below w'.heap.size w' w'') := fun w' hb => of_any _ l id w' (HROW.out.kept hb) hwf (HE.out.u8.next hb)
  have OM : Hid (∀ w' v', Below w.heap.size w w' → ChRow w' v' (l ++ [⟨cid, ca, cw, cs, ch, cx⟩]) → Calls Tryd.prog 12 #[v', .int .u32 id] w' fun e w'' => e = .returned (.tuple #[.int .i64 (ofCh (l ++ [⟨cid, ca, cw, cs, ch, cx⟩]) id).1, .int .i64 (ofCh (l ++ [⟨cid, ca, cw, cs, ch, cx⟩]) id).2]) ∧ Below w'.heap.size w' w'') := fun w' v' hb hr => of_any v' _ id w' hr hwm (HE.out.u8.next hb)
  have TL : Hid (∀ w', Below w.heap.size w w' → Calls Tryd.prog 16 #[.slice A0 l.length c0', .string account] w' fun e w'' => e = .returned (.int .i64 (totCh l account)) ∧ Below w'.heap.size w' w'') := fun w' hb => total_any _ l account w' (HROW.out.kept hb) hwf (HE.out.u8.next hb) (by omega)
  have TM : Hid (∀ w' v', Below w.heap.size w w' → ChRow w' v' (l ++ [⟨cid, ca, cw, cs, ch, cx⟩]) → Calls Tryd.prog 16 #[v', .string account] w' fun e w'' => e = .returned (.int .i64 (totCh (l ++ [⟨cid, ca, cw, cs, ch, cx⟩]) account)) ∧ Below w'.heap.size w' w'') := fun w' v' hb hr => total_any v' _ account w' hr hwm (HE.out.u8.next hb) (by omega)
  have CL := Lib.hid (HCK.out rfl _ B0.out)
  have hcl2 : (chkCh l != 0) = !bookB l := chk_ne
  have hcm2 : (chkCh (l ++ [⟨cid, ca, cw, cs, ch, cx⟩]) != 0) = !bookB (l ++ [⟨cid, ca, cw, cs, ch, cx⟩]) := chk_ne
  have REL : Hid (bookB l = true → bookB (l ++ [⟨cid, ca, cw, cs, ch, cx⟩]) = true → (ofCh (l ++ [⟨cid, ca, cw, cs, ch, cx⟩]) id = if cid = id then ((ofCh l id).1 + cs, (ofCh l id).2 + 1) else ofCh l id) ∧ (totCh (l ++ [⟨cid, ca, cw, cs, ch, cx⟩]) account = if ca = account then totCh l account + cw * cs else totCh l account) ∧
      (0 ≤ (ofCh l id).1 ∧ (ofCh l id).1 ≤ 1073741824 * 300) ∧ (ofCh l id).2 ≤ 300 ∧ (0 ≤ totCh l account ∧ totCh l account ≤ 1099511627776 * 300) ∧ (0 ≤ cw * cs ∧ cw * cs ≤ 1099511627776) ∧ (0 ≤ cs ∧ cs ≤ 1073741824)) := fun h h' => by
    have hk : okCh ⟨cid, ca, cw, cs, ch, cx⟩ = true := (book_mem h').2 _ (by simp)
    have h1 := jobs_of id h h'
    have h2 := jobs_total account h h'
    have h3 := sumG_bd account l (book_mem h).2
    rw [← totCh_sum account h] at h3
    have h4 : ofCh l id = ofG id l 0 0 := by unfold ofCh; rw [if_pos h]
    have h5 := ofG_bd id l 0 0 (book_mem h).2 (Int.le_refl _)
    rw [← h4] at h5
    have h6 := cost_bd hk
    have h7 := (ok_nums hk).2.2.1
    exact ⟨h1, h2, ⟨h5.1, by omega⟩, by omega, ⟨h3.1, by omega⟩, h6, h7⟩
  generalize chkCh l = E1 at *
  generalize chkCh (l ++ [⟨cid, ca, cw, cs, ch, cx⟩]) = E2 at *
  generalize bookB l = BL at *
  clear HCW HOK HMN hls hwf hwm hcw HCK HT1 HT2 HL1 HL2
  cases BL
  · have g : (E1 != 0) = true := by rw [hcl2]; rfl
    clear hcl2 hcm2 REL CM OL OM TL TM
    go_wp2_with fail
    refine MN0.out.mono ?_; rintro e w1 ⟨rfl, hw1⟩
    obtain rfl := hw1
    go_wp2_with fail
    refine CL.out.mono ?_; rintro e w2 ⟨rfl, b2⟩
    have B2 := Lib.hid (below_next b2 B0.out)
    have K2 := Lib.hid (K.out _ B2.out)
    clear b2 c0 c1 c2 c3 c4 c5
    go_wp2_with fail
    refine K2.out.mono ?_; rintro e w3 ⟨rfl, b3⟩
    have B3 := Lib.hid (below_next b3 B2.out)
    clear b3
    go_wp2_with fail
    go_ret
    exact ⟨rfl, B3.out⟩
  have g : (E1 != 0) = false := by rw [hcl2]; rfl
  clear hcl2
  go_wp2_with fail
  refine MN0.out.mono ?_; rintro e w1 ⟨rfl, hw1⟩
  obtain rfl := hw1
  go_wp2_with fail
  refine CL.out.mono ?_; rintro e wc ⟨rfl, b2⟩
  have hC4 := Lib.hid (hC.out.kept b2)
  have B4 := Lib.hid (below_next b2 B0.out)
  clear b2 c0 c1 c2 c3 c4 c5 hC B0 CL MN0 K0 q1 q1'
  obtain ⟨i0, hi, hz0, hz1, hz2⟩ := info_parts Tryd.infoChg
  have SRC := Lib.hid (src_of_row (HROW.out.kept B4.out))
  have hfl := flC_len l
  have h1c := flC_one l
  have hlen : l.length ≤ 300 := by omega
  have HFL := Lib.hid (flC_append l [⟨cid, ca, cw, cs, ch, cx⟩])
  have HRO : Hid (∀ w' base v', w'.ownsRow base 24 6 v' (l.length + 1) (flC l ++ flC [⟨cid, ca, cw, cs, ch, cx⟩]) → ChRow w' v' (l ++ [⟨cid, ca, cw, cs, ch, cx⟩])) := fun w' base v' h => row_of_own (by rw [HFL.out, List.length_append]; exact h)
  have h1d := flC_one [⟨cid, ca, cw, cs, ch, cx⟩]
  generalize flC l = fl at *
  obtain ⟨N, hN⟩ : ∃ N, N = l.length := ⟨_, rfl⟩
  rw [← hN] at SRC hlen hfl HRO OL TL HROW ⊢
  clear HFL hN hq0 q0 q0'
  have hgC4 : gC < wc.heap.size := hC4.out.lt
  go_upto_region 4 with fail
  go_upto_region 5 with (first | (at_builtin; refine wpList_app rfl _ _ 32 rfl wc.heap.size 24 i0 _ 6 56 Tryd.underlying32 hi hz0 hz1 hz2 rfl (by decide) _ 0 [] rfl (World.ownsRow_nil _ _ _ _) _ N fl rfl SRC.out h1c (by unfold maxLen; omega) (by omega) (Nat.le_refl _) ?_; intro v5 w5 hown5 hgrow5 _; have hC5 := Lib.hid (blk_grownC hC4.out hgrow5 (fun e => nomatch (show some gC = none from e))); have B5 := Lib.hid (B4.out.grown hgrow5 B4.out.size (fun q hq => by cases hq)); have O6 := Lib.hid hown5; have hbs := hgrow5.size; clear hown5 hgrow5))
  obtain ⟨y0, y1, y2, y3, y4, y5⟩ := ch0 (c := ⟨cid, ca, cw, cs, ch, cx⟩) hC5.out
  dsimp only at y0 y1 y2 y3 y4 y5
  go_wp2_with (first | (at_builtin; refine wpList_app rfl _ _ 32 rfl wc.heap.size 24 i0 _ 6 56 Tryd.underlying32 hi hz0 hz1 hz2 rfl (by decide) _ (0 + N) ([] ++ fl) rfl (O6.out.alloc _) _ 1 _ rfl (src_of_blk (Blk.new _ (chCs ⟨cid, ca, cw, cs, ch, cx⟩) _)) h1d (by unfold maxLen; omega) (by omega) (by simp; omega) ?_; intro v8 w8 hown8 hgrow8 _; have R8 := Lib.hid (HRO.out w8 _ v8 (by simpa using hown8)); have B8 := Lib.hid ((B5.out.alloc B5.out.size _).grown hgrow8 (by have := B5.out.size; simp; omega) (fun q hq => by have := (O6.out.lt q hq).1; have := B4.out.size; omega)); have HC8 := Lib.hid (blk_grownC (hC5.out.old _) hgrow8 (fun e => by have := (O6.out.lt gC e.symm).1; omega)); clear hown8 hgrow8))
  have hC8 : Hid (Blk w8 gC #[.int .u32 cid, .string ca, .int .i64 cw, .int .i64 cs, .int .i64 ch, .int .i64 cx] 24) := HC8.out
  have CM8 := Lib.hid (CM.out _ _ B8.out R8.out)
  clear y0 y1 y2 y3 y4 y5 hC5 B5 O6 HRO hbs CM HC8
  refine CM8.out.mono ?_; rintro e w9 ⟨rfl, b9⟩
  have B9 := Lib.hid (below_next b9 B8.out)
  have hC9 := Lib.hid (hC8.out.kept b9)
  have R9 := Lib.hid (R8.out.kept b9)
  clear b9 CM8 B8 hC8 R8
  generalize bookB (l ++ [⟨cid, ca, cw, cs, ch, cx⟩]) = BM at *
  cases BM
  · have g2 : (E2 != 0) = true := by rw [hcm2]; rfl
    have K9 := Lib.hid (K.out _ B9.out)
    clear hcm2 REL OL OM TL TM
    go_wp2_with fail
    refine K9.out.mono ?_; rintro e w10 ⟨rfl, b10⟩
    have B10 := Lib.hid (below_next b10 B9.out)
    clear b10
    go_wp2_with fail
    go_ret
    exact ⟨rfl, B10.out⟩
  have g2 : (E2 != 0) = false := by rw [hcm2]; rfl
  obtain ⟨r1, r2, ⟨z1, z2⟩, z3, ⟨z4, z5⟩, ⟨z6, z7⟩, ⟨z8, z9⟩⟩ := REL.out (by trivial) (by trivial)
  have OL9 := Lib.hid (OL.out _ B9.out)
  clear hcm2 REL OL
  obtain ⟨O1, O2, hO⟩ : ∃ a b, ofCh (l ++ [⟨cid, ca, cw, cs, ch, cx⟩]) id = (a, b) := ⟨_, _, rfl⟩
  rw [hO] at r1 OM
  obtain ⟨A, n, hA⟩ : ∃ a b, ofCh l id = (a, b) := ⟨_, _, rfl⟩
  rw [hA] at r1 OL9 z1 z2 z3
  generalize totCh (l ++ [⟨cid, ca, cw, cs, ch, cx⟩]) account = T at *
  generalize totCh l account = S at *
  dsimp only at *
  clear hO hA HROW
  have EX : ∃ (q1 q2 : Bool), (cid == id) = q1 ∧ (ca.toList == account.toList) = q2 ∧ O1 = (if q1 then A + cs else A) ∧ O2 = (if q1 then n + 1 else n) ∧ T = (if q2 then S + cw * cs else S) := by
    refine ⟨_, _, rfl, rfl, ?_, ?_, ?_⟩
    · by_cases h : cid = id
      · rw [if_pos h] at r1; simp [h, (Prod.mk.inj r1).1]
      · rw [if_neg h] at r1; simp [h, (Prod.mk.inj r1).1]
    · by_cases h : cid = id
      · rw [if_pos h] at r1; simp [h, (Prod.mk.inj r1).2]
      · rw [if_neg h] at r1; simp [h, (Prod.mk.inj r1).2]
    · rw [str_beq]
      by_cases h : ca = account
      · rw [if_pos h] at r2; simp [h, r2]
      · rw [if_neg h] at r2; simp [h, r2]
  obtain ⟨q1, q2, e1, e2, f1, f2, f3⟩ := EX
  have F1 := Lib.hid f1
  have F2 := Lib.hid f2
  have F3 := Lib.hid f3
  have E1h := Lib.hid e1
  have E2h := Lib.hid e2
  clear r1 r2 f1 f2 f3 e1 e2
  go_wp2_with fail
  refine OL9.out.mono ?_; rintro e w10 ⟨rfl, b10⟩
  have B10 := Lib.hid (below_next b10 B9.out)
  have hC10 := Lib.hid (hC9.out.kept b10)
  have R10 := Lib.hid (R9.out.kept b10)
  have OM10 := Lib.hid (OM.out _ _ B10.out R10.out)
  clear b10 OL9 B9 hC9 R9 OM
  go_wp2_with fail
  refine OM10.out.mono ?_; rintro e w11 ⟨rfl, b11⟩
  have B11 := Lib.hid (below_next b11 B10.out)
  have hC11 := Lib.hid (hC10.out.kept b11)
  have R11 := Lib.hid (R10.out.kept b11)
  have TL11 := Lib.hid (TL.out _ B11.out)
  clear b11 OM10 B10 hC10 R10 TL
  go_wp2_with fail
  refine TL11.out.mono ?_; rintro e w12 ⟨rfl, b12⟩
  have B12 := Lib.hid (below_next b12 B11.out)
  have hC12 := Lib.hid (hC11.out.kept b12)
  have R12 := Lib.hid (R11.out.kept b12)
  have TM12 := Lib.hid (TM.out _ _ B12.out R12.out)
  clear b12 TL11 B11 hC11 R11 TM
  go_wp2_with fail
  refine TM12.out.mono ?_; rintro e w13 ⟨rfl, b13⟩
  have B13 := Lib.hid (below_next b13 B12.out)
  have hC13 := Lib.hid (hC12.out.kept b13)
  have K13 := Lib.hid (K.out _ B13.out)
  clear b13 TM12 B12 hC12 R12 K
  obtain ⟨y0, y1, y2, y3, y4, y5⟩ := ch0 (c := ⟨cid, ca, cw, cs, ch, cx⟩) hC13.out
  dsimp only at y0 y1 y2 y3 y4 y5
  have e1 := E1h.out
  have e2 := E2h.out
  have f1 := F1.out
  have f2 := F2.out
  have f3 := F3.out
  clear F1 F2 F3 E1h E2h
  subst f1 f2 f3
  obtain ⟨P, hP⟩ : ∃ P, P = cw * cs := ⟨_, rfl⟩
  have hPw : IntKind.i64.wrap (cw * cs) = P := by rw [IntKind.wrap_i64, hP]; omega
  rw [← hP] at z6 z7 ⊢
  clear hP
  have z3' : (n : Int) ≤ 300 := by omega
  cases q1 <;> cases q2 <;> dsimp only [Bool.false_eq_true, if_false, if_true]
  · skip
    go_wp2_with fail
    refine K13.out.mono ?_; rintro e w14 ⟨rfl, b14⟩
    have B14 := Lib.hid (below_next b14 B13.out)
    clear b14
    go_wp2_with fail
    go_ret
    exact ⟨rfl, B14.out⟩
  · skip
    go_wp2_with fail
    refine K13.out.mono ?_; rintro e w14 ⟨rfl, b14⟩
    have B14 := Lib.hid (below_next b14 B13.out)
    clear b14
    go_wp2_with fail
    go_ret
    exact ⟨rfl, B14.out⟩
  · skip
    go_wp2_with fail
    refine K13.out.mono ?_; rintro e w14 ⟨rfl, b14⟩
    have B14 := Lib.hid (below_next b14 B13.out)
    clear b14
    go_wp2_with fail
    go_ret
    exact ⟨rfl, B14.out⟩
  · skip
    go_wp2_with fail
    refine K13.out.mono ?_; rintro e w14 ⟨rfl, b14⟩
    have B14 := Lib.hid (below_next b14 B13.out)
    clear b14
    go_wp2_with fail
    go_ret
    exact ⟨rfl, B14.out⟩


set_option maxRecDepth 100000 in
theorem lifted (os : Os) (started : os.Started) (H : Type) (enc : TypeId × Value → H) :
    ReturnsInHanded {} Tryd.checked os 7 .any (fun w args => (Rows.bookJobsSpec.pre enc Tryd.prog Tryd.f7 Rows.bookJobsRow.domain false w args ∧ laidMetH Tryd.prog laid20 w) ∧ sizedMet enc Tryd.prog Tryd.f7 (OpenSpec.ofChange Rows.bookJobsSpec) false w args) (Rows.bookJobsSpec.post enc Tryd.prog Tryd.f7 false true false false) := by
  refine laid_lift (C := Tryd.checked) (X := fun w _ => laidMetH Tryd.prog laid20 w) (fun _ _ _ hh h => h.of_heap hh) own started (by kernel_rfl) Tryd.func7
    (ChangeSpec.witness_shaped (enc := enc) (C := Tryd.checked) (os := os) (X := fun w _ => laidMetH Tryd.prog laid20 w) false (World.laidAll Tryd.prog os laid20) #[.slice none 0 0, .agg #[.int .u32 0, .string ByteArray.empty, .int .i64 0, .int .i64 0, .int .i64 0, .int .i64 0], .int .u32 0, .string ByteArray.empty] 8 (World.laidAll_os _ _ _)
      (World.shaped_of_ZipB (by kernel_rfl) (by kernel_rfl)) (by kernel_rfl) (by kernel_rfl) (by kernel_rfl)
      (by rw [MakeChecks.laidMetH_plain _ _ _ (by kernel_rfl)]; exact laidMet_laidAll _ (by kernel_rfl) (by kernel_rfl))) ?_
  intro W base args ds gs before hval0 hW hsz0 hL hS
  have hE := env20_of hL hS
  have hval : ∀ (j : Nat) t v, Tryd.f7.params[j]? = some t → args[j]? = some v → Value.okWide Tryd.prog W .any base t v := hval0
  have hW' := hW
  obtain ⟨p, q, hA0, hV, rfl, hfz, hnd⟩ := hW
  have hA : DataW.TrodAll enc Tryd.prog W 0 (fun _ => true) true Tryd.f7.params.toList args.toList ds p := hA0
  rw [Tryd.params7] at hA hval
  obtain ⟨v0, vs0, d0, ds0, p0, q0, hargs, rfl, rfl, h0, r0⟩ := trodAll_cons hA
  obtain ⟨v1, vs1, d1, ds1, p1, q1, rfl, rfl, rfl, h1, r1⟩ := trodAll_cons r0
  obtain ⟨v2, vs2, d2, ds2, p2, q2, rfl, rfl, rfl, h2, r2⟩ := trodAll_cons r1
  obtain ⟨v3, vs3, d3, ds3, p3, q3, rfl, rfl, rfl, h3, r3⟩ := trodAll_cons r2
  obtain ⟨rfl, rfl, rfl⟩ := trodAll_nil r3
  obtain rfl : args = #[v0, v1, v2, v3] := by cases args; simp_all
  obtain ⟨l, w0⟩ := open_charges_arg h0 (okWide_slice Tryd.underlying32 (hval 0 32 v0 rfl rfl))
  obtain ⟨cs1, rfl, hs1, hf1⟩ := open_plain_struct Tryd.underlying24 (by kernel_rfl) (by kernel_rfl) (hval 1 24 v1 rfl rfl) h1
  obtain ⟨c1_0, y1_0, n1_0, e1_0, t1_0⟩ := hf1 0 _ rfl
  obtain ⟨cid, rfl, w1_0⟩ := field_int Tryd.underlying22 t1_0
  obtain ⟨c1_1, y1_1, n1_1, e1_1, t1_1⟩ := hf1 1 _ rfl
  obtain ⟨ca, rfl, w1_1⟩ := field_string Tryd.underlying9 t1_1
  obtain ⟨c1_2, y1_2, n1_2, e1_2, t1_2⟩ := hf1 2 _ rfl
  obtain ⟨cw, rfl, w1_2⟩ := field_int Tryd.underlying3 t1_2
  obtain ⟨c1_3, y1_3, n1_3, e1_3, t1_3⟩ := hf1 3 _ rfl
  obtain ⟨cs, rfl, w1_3⟩ := field_int Tryd.underlying3 t1_3
  obtain ⟨c1_4, y1_4, n1_4, e1_4, t1_4⟩ := hf1 4 _ rfl
  obtain ⟨ch, rfl, w1_4⟩ := field_int Tryd.underlying3 t1_4
  obtain ⟨c1_5, y1_5, n1_5, e1_5, t1_5⟩ := hf1 5 _ rfl
  obtain ⟨cx, rfl, w1_5⟩ := field_int Tryd.underlying3 t1_5
  obtain rfl : cs1 = #[.int .u32 cid, .string ca, .int .i64 cw, .int .i64 cs, .int .i64 ch, .int .i64 cx] := arr_of cs1 [.int .u32 cid, .string ca, .int .i64 cw, .int .i64 cs, .int .i64 ch, .int .i64 cx] hs1 (fun j hj => by match j, hj with | 0, _ => exact e1_0 | 1, _ => exact e1_1 | 2, _ => exact e1_2 | 3, _ => exact e1_3 | 4, _ => exact e1_4 | 5, _ => exact e1_5 | j + 6, hj => exact absurd hj (by simp))
  obtain ⟨id, rfl, rfl, rfl, w2⟩ := open_int Tryd.underlying22 (hval 2 22 v2 rfl rfl) h2
  obtain ⟨account, rfl, w3⟩ := open_string_arg Tryd.underlying9 (hval 3 9 v3 rfl rfl) h3
  clear hA0 hval0
  refine (walk v0 l cid ca cw cs ch cx id account W hE w0 w1_0 w1_1 w1_2 w1_3 w1_4 w1_5 w2 w3).mono fun e W' ⟨he, hb⟩ => ?_
  subst he
  exact ⟨_, rfl, law_post (by kernel_rfl) (by kernel_rfl) rfl Tryd.underlying4 rfl hW' rfl hb⟩

theorem over : Rows.bookJobsRow.holds Tryd.pinned (OpenSpec.ofChange Rows.bookJobsSpec) :=
  OpenClaim.holds_of_wide 7 Tryd.f7 rfl rfl rfl rfl rfl rfl rfl ⟨rfl, rfl, rfl, rfl, rfl⟩ rfl rfl rfl rfl rfl (by kernel_rfl) Tryd.func7 (by kernel_rfl)
    (of_decide_eq_true (by kernel_rfl)) (by unfold Func.isWrapper; first | (rw [if_pos (by decide +kernel)]; kernel_rfl) | (rw [if_neg (by decide +kernel)]; exact ⟨rfl, rfl⟩))
    (fun os started H enc _ => lifted os started H enc)

theorem proved : Rows.BookJobsCardSaid :=
  Claim7.holds_tied_plain_at .later [] _ true _ false over (fun _ h => by cases h) (by kernel_rfl) (fun _ h => by cases h) bookJobs_row_tie rfl ⟨rfl, rfl⟩ (by kernel_rfl) rfl
    (fun f fn hf hfn => by
      obtain rfl : f = 7 := Option.some.inj ((show Tryd.prog.funcNamed "ganger/gangerlaw20.BookJobs" = some 7 by kernel_rfl).symm.trans hf) |>.symm
      obtain rfl : fn = Tryd.f7 := (Option.some.inj (Tryd.func7.symm.trans hfn)).symm
      exact ⟨by kernel_rfl, fun j t ht => by
        rw [Tryd.params7] at ht
        have hm : t ∈ [32, 24, 22, 9] := by simpa using Array.mem_of_getElem? ht
        have hall : ([32, 24, 22, 9].all fun u => !Tryd.prog.wantsStandIn u) = true := by kernel_rfl
        exact (show Tryd.prog.wantsStandIn t = false by simpa using List.all_eq_true.1 hall t hm)⟩)
    (by kernel_rfl)
#print axioms proved
end Go.Proofs.YtlafjjdponeeeaaDoor.bookJobs
