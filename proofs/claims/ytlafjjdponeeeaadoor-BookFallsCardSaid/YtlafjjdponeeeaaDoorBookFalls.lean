/-
  BookFalls: what an account has used counts for no more than its total, and for no more later; a charge more counts for no less; of an account without charges it is nothing: so the law returns true for every input, the listed tables of Go's library reading as the program's text lays them.
-/
import Derived.Test.YtlafjjdponeeeaaDoorBkW
import Derived.Test.YtlafjjdponeeeaaDoorBkO
import Derived.Test.YtlafjjdponeeeaaDoorRows
import Derived.Test.YtlafjjdponeeeaaDoorArgs2
import Derived.Test.YtlafjjdponeeeaaDoorLaid
import Derived.Test.YtlafjjdponeeeaaDoorCards
import Derived.Test.YtlafjjdponeeeaaDoorTie
import Derived.MakeChecks
import Derived.SevenTiedAt
namespace Go.Proofs.YtlafjjdponeeeaaDoor.bookFalls
open Go.ChangeShapes Go.WideShapes Go.ChangeAt Go.RowKit
set_option linter.unusedVariables false

theorem own : ownKnob Tryd.prog.godebug = none := by kernel_rfl

theorem wf_u16' {n : Int} (h : (Lit.int .u16 n).wf = true) : 0 ≤ n ∧ n ≤ 65535 := by
  simpa [Lit.wf, IntKind.min, IntKind.max, IntKind.bits, IntKind.signed] using h
theorem many_no {l : List Chg} {account : ByteArray} (h : manyN l account = false) : l.length ≤ 3000 ∧ account.size ≤ 300 ∧ ∀ c ∈ l, c.acct.size ≤ 300 := by
  unfold manyN at h
  simp only [Bool.or_eq_false_iff, decide_eq_false_iff_not, List.any_eq_false, decide_eq_true_eq] at h
  exact ⟨by omega, by omega, fun c hc => by have := h.2 c hc; omega⟩
open Go Go.RowKit Go.Lib in
set_option maxRecDepth 100000 in
set_option maxHeartbeats 8000000 in
theorem walk (v : Value) (l : List Chg) (account : ByteArray) (now later half : Int) (cid : Int) (ca : ByteArray) (cw cs ch cx : Int) (w : World) (hE : EnvB w) (hl : ChArg w v l) (hac : account.size ≤ maxLen) (wnow : (Lit.int .i64 now).wf = true) (wlat : (Lit.int .u16 later).wf = true) (whalf : (Lit.int .i64 half).wf = true)
    (u0 : (Lit.int .u32 cid).wf = true) (u1 : ca.size ≤ maxLen) (u2 : (Lit.int .i64 cw).wf = true) (u3 : (Lit.int .i64 cs).wf = true) (u4 : (Lit.int .i64 ch).wf = true) (u5 : (Lit.int .i64 cx).wf = true) :
    Calls Tryd.prog 6 #[v, .string account, .int .i64 now, .int .u16 later, .int .i64 half, .agg #[.int .u32 cid, .string ca, .int .i64 cw, .int .i64 cs, .int .i64 ch, .int .i64 cx]] w fun e w' => e = .returned (.bool true) ∧ Below w.heap.size w w' := by
  have K : Hid (∀ w1, Below w.heap.size w w1 → Calls Tryd.prog 8 #[] w1 fun e w' => e = .returned (.bool true) ∧ Below w1.heap.size w1 w') := fun w1 hb => known20_any w1 (hE.next hb)
  obtain ⟨hrow, hok⟩ := hl
  have MN : Hid (∀ w', Below w.heap.size w w' → Calls Tryd.prog 11 #[v, .string account] w' fun e w'' => e = .returned (.bool (manyN l account)) ∧ w'' = w') := fun w' hb => many20_any v l account w' (hrow.kept hb)
  have HROW := Lib.hid hrow
  have HMN : Hid (manyN l account = false → l.length ≤ 3000 ∧ account.size ≤ 300 ∧ ∀ c ∈ l, c.acct.size ≤ 300) := many_no
  have HOK := Lib.hid hok
  have I1 := wf_i64' wnow
  have I2 := wf_u16' wlat
  have I3 := wf_i64' whalf
  have HI : Hid (I64 now ∧ I64 half) := ⟨I1, I3⟩
  have hC := Lib.hid (Blk.new w #[.int .u32 cid, .string ca, .int .i64 cw, .int .i64 cs, .int .i64 ch, .int .i64 cx] 24)
  have B0 := Lib.hid ((Below.refl w.heap.size w).alloc (Nat.le_refl _) (.cells #[.int .u32 cid, .string ca, .int .i64 cw, .int .i64 cs, .int .i64 ch, .int .i64 cx] 24))
  obtain ⟨gC, hgC⟩ : ∃ g, g = w.heap.size := ⟨_, rfl⟩
  rw [← hgC] at hC
  have hgw : w.heap.size ≤ gC := by omega
  have t1 : decide ((ca.size : Int) > 300) = decide (300 < ca.size) := decide_eq_decide.2 (by omega)
  have HE := Lib.hid hE
  have HQ : Hid (300 < ca.size → decide (300 < ca.size) = true) := fun h => decide_eq_true h
  have HCW : Hid (¬ 300 < ca.size → ChWf ⟨cid, ca, cw, cs, ch, now⟩) := fun h => ⟨(wf_u32' u0).1, (wf_u32' u0).2, wf_i64' u2, wf_i64' u3, wf_i64' u4, I1, by dsimp only; omega⟩
  clear hE hrow hok wnow wlat whalf u0 u1 u2 u3 u4 u5 hac
  generalize hm : manyN l account = M at *
  go_enter Tryd.func6, Tryd.ntmps6
  go_upto_region 1 with fail
  rw [← hgC]
  generalize w.alloc (.cells #[.int .u32 cid, .string ca, .int .i64 cw, .int .i64 cs, .int .i64 ch, .int .i64 cx] 24) = W0 at *
  clear hgC
  have MN0 := Lib.hid (MN.out _ B0.out)
  have K0 := Lib.hid (K.out _ B0.out)
  obtain ⟨c0, c1, c2, c3, c4, c5⟩ := ch0 (c := ⟨cid, ca, cw, cs, ch, cx⟩) hC.out
  dsimp only at c0 c1 c2 c3 c4 c5
  clear MN
  cases M
  case true =>
    go_wp2_with fail
    refine MN0.out.mono ?_; rintro e w1 ⟨rfl, hw1⟩
    obtain rfl := hw1
    clear c0 c1 c2 c3 c4 c5
    go_wp2_with fail
    refine K0.out.mono ?_; rintro e w2 ⟨rfl, b2⟩
    have B2 := Lib.hid (below_next b2 B0.out)
    clear b2
    go_wp2_with fail
    go_ret
    exact ⟨rfl, B2.out⟩
  by_cases hq1 : 300 < ca.size
  · rw [HQ.out hq1] at t1
    have q1 := HQ.out hq1
    go_wp2_with fail
    refine MN0.out.mono ?_; rintro e w1 ⟨rfl, hw1⟩
    obtain rfl := hw1
    go_wp2_with fail
    refine K0.out.mono ?_; rintro e w2 ⟨rfl, b2⟩
    have B2 := Lib.hid (below_next b2 B0.out)
    clear b2
    go_wp2_with fail
    go_ret
    exact ⟨rfl, B2.out⟩
  have q1 : decide (300 < ca.size) = false := decide_eq_false hq1
  rw [q1] at t1
  have hcw := HCW.out hq1
  obtain ⟨hlen, has, hls⟩ := HMN.out rfl
  have hwf : ∀ c ∈ l, ChWf c := fun c hc => (HOK.out c hc).wf (hls c hc)
  have US : Hid (∀ w' (acct : ByteArray) (t : Int), Below w.heap.size w w' → acct.size ≤ 300 → I64 t → Calls Tryd.prog 18 #[v, .string acct, .int .i64 t, .int .i64 half] w' fun e w'' => e = .returned (.tuple #[.int .i64 (usCh l acct t half).1, .int .i64 (usCh l acct t half).2]) ∧ Below w'.heap.size w' w'') := fun w' acct t hb hs ht => usage_any v l acct t half w' (HROW.out.kept hb) hwf (HE.out.u8.next hb) (by omega) ⟨ht, I3⟩
  have TT : Hid (∀ w', Below w.heap.size w w' → Calls Tryd.prog 16 #[v, .string account] w' fun e w'' => e = .returned (.int .i64 (totCh l account)) ∧ Below w'.heap.size w' w'') := fun w' hb => total_any v l account w' (HROW.out.kept hb) hwf (HE.out.u8.next hb) (by omega)
  have UM : Hid (∀ w' v', Below w.heap.size w w' → ChRow w' v' (l ++ [⟨cid, ca, cw, cs, ch, now⟩]) → Calls Tryd.prog 18 #[v', .string account, .int .i64 now, .int .i64 half] w' fun e w'' => e = .returned (.tuple #[.int .i64 (usCh (l ++ [⟨cid, ca, cw, cs, ch, now⟩]) account now half).1, .int .i64 (usCh (l ++ [⟨cid, ca, cw, cs, ch, now⟩]) account now half).2]) ∧ Below w'.heap.size w' w'') := fun w' v' hb hr => usage_any v' _ account now half w' hr (fun c hc => by
    rcases List.mem_append.1 hc with h | h
    · exact hwf c h
    · obtain rfl : c = _ := by simpa using h
      exact hcw) (HE.out.u8.next hb) (by omega) ⟨I1, I3⟩
  have US0 := Lib.hid (US.out _ account now B0.out has I1)
  have BAD : Hid ((usCh l account now half).2 ≠ 0 → (usCh l account now half).1 = 0) := usCh_bad
  have BD : Hid ((usCh l account now half).2 = 0 → (0 ≤ now ∧ now ≤ 1099511627776) ∧ (0 ≤ (usCh l account now half).1 ∧ (usCh l account now half).1 ≤ totCh l account) ∧ ((usCh l account (now + later) half).2 = 0 → (usCh l account (now + later) half).1 ≤ (usCh l account now half).1) ∧
      ((usCh (l ++ [⟨cid, ca, cw, cs, ch, now⟩]) account now half).2 = 0 → (usCh l account now half).1 ≤ (usCh (l ++ [⟨cid, ca, cw, cs, ch, now⟩]) account now half).1) ∧ usCh l ⟨#[]⟩ now half = (0, 0)) := fun h =>
    ⟨⟨(usCh_ok h).2.2.1, (usCh_ok h).2.2.2.1⟩, usCh_bd h, fun h' => usCh_later h I2.1 h', fun h' => usCh_more rfl h h', usCh_none h⟩
  obtain ⟨a, ha⟩ : ∃ a, a = (usCh l account now half).1 := ⟨_, rfl⟩
  obtain ⟨E, hEE⟩ : ∃ E, E = (usCh l account now half).2 := ⟨_, rfl⟩
  rw [← ha, ← hEE] at US0 BAD
  rw [← ha, ← hEE] at BD
  clear HCW HOK HMN hls hwf hcw ha hEE HI
  go_wp2_with fail
  refine MN0.out.mono ?_; rintro e w1 ⟨rfl, hw1⟩
  obtain rfl := hw1
  go_wp2_with fail
  refine US0.out.mono ?_; rintro e w2 ⟨rfl, b2⟩
  have hC2 := Lib.hid (hC.out.kept b2)
  have B2 := Lib.hid (below_next b2 B0.out)
  clear b2 c0 c1 c2 c3 c4 c5 hC B0 US0 MN0 K0 q1 t1
  by_cases hE0 : E = 0
  · subst hE0
    obtain ⟨⟨n0, n1⟩, ⟨a0, a1⟩, hlat, hmore, hnone⟩ := BD.out rfl
    have TT2 := Lib.hid (TT.out _ B2.out)
    have g1 : decide (a > totCh l account) = false := decide_eq_false (by omega)
    have g1' : decide (totCh l account < a) = false := decide_eq_false (by omega)
    have g2 : decide (a < 0) = false := decide_eq_false (by omega)
    have HLAT := Lib.hid hlat
    have HMORE := Lib.hid hmore
    have UN := Lib.hid (fun w' hb => US.out w' ⟨#[]⟩ now hb (by decide) I1)
    rw [hnone] at UN
    have UL := Lib.hid (fun w' hb => US.out w' account (now + later) hb has (by unfold I64; omega))
    generalize totCh l account = TOT at *
    clear BD BAD hlat hmore hnone TT US
    go_wp2_with fail
    refine TT2.out.mono ?_; rintro e w3 ⟨rfl, b3⟩
    have hC3 := Lib.hid (hC2.out.kept b3)
    have B3 := Lib.hid (below_next b3 B2.out)
    have UL3 := Lib.hid (UL.out _ B3.out)
    clear b3 hC2 B2 TT2 UL
    go_wp2_with fail
    refine UL3.out.mono ?_; rintro e w4 ⟨rfl, b4⟩
    have hC4 := Lib.hid (hC3.out.kept b4)
    have B4 := Lib.hid (below_next b4 B3.out)
    clear b4 hC3 B3 UL3 g1 g1' g2
    have hbb : ((usCh l account (now + later) half).2 == 0 && decide (a < (usCh l account (now + later) half).1)) = false := by
      cases h : ((usCh l account (now + later) half).2 == 0)
      · rfl
      · have := HLAT.out (by simpa using h)
        simp; omega
    generalize (usCh l account (now + later) half).1 = b at *
    generalize (usCh l account (now + later) half).2 = F at *
    go_upto_region 9 with fail
    go_cut [73] (fun bv wx => bv = .bool false ∧ wx = w4)
    case first =>
      cases hF : (F == 0)
      · clear hbb HLAT HMORE UN UM K
        go_wp2_with fail
        go_meet
        case rel => exact ⟨rfl, rfl⟩
      · have g3 : decide (b > a) = false := by rw [hF] at hbb; simpa using hbb
        have g3' : decide (a < b) = false := g3
        clear hbb HLAT HMORE UN UM K
        go_wp2_with fail
        go_meet
        case rel => exact ⟨rfl, rfl⟩
    case rest =>
      obtain ⟨rfl, rfl⟩ := hcut
      clear hbb HLAT
      obtain ⟨i0, hi, hz0, hz1, hz2⟩ := info_parts Tryd.infoChg
      have SRC := Lib.hid (src_of_row (HROW.out.kept B4.out))
      have hfl := flC_len l
      have h1c := flC_one l
      obtain ⟨N, hN⟩ : ∃ N, N = l.length := ⟨_, rfl⟩
      rw [← hN] at SRC hlen hfl
      have HFL := Lib.hid (flC_append l [⟨cid, ca, cw, cs, ch, now⟩])
      have HRO : Hid (∀ w' base v', w'.ownsRow base 24 6 v' (N + 1) (flC l ++ flC [⟨cid, ca, cw, cs, ch, now⟩]) → ChRow w' v' (l ++ [⟨cid, ca, cw, cs, ch, now⟩])) := fun w' base v' h => row_of_own (by rw [HFL.out, List.length_append, ← hN]; exact h)
      have h1d := flC_one [⟨cid, ca, cw, cs, ch, now⟩]
      generalize flC l = fl at *
      clear hN HFL
      have hgC4 : gC < wc.heap.size := hC4.out.lt
      go_upto_region 12 with fail
      go_upto_region 14 with (first | (at_builtin; refine wpList_app rfl _ _ 32 rfl wc.heap.size 24 i0 _ 6 56 Tryd.underlying32 hi hz0 hz1 hz2 rfl (by decide) _ 0 [] rfl (World.ownsRow_nil _ _ _ _) _ N fl rfl SRC.out h1c (by unfold maxLen; omega) (by omega) (Nat.le_refl _) ?_; intro v5 w5 hown5 hgrow5 _; have hC5 := Lib.hid (blk_grownC hC4.out hgrow5 (fun e => nomatch (show some gC = none from e))); have B5 := Lib.hid (B4.out.grown hgrow5 B4.out.size (fun q hq => by cases hq)); have hC6 : Hid (Blk (w5.setCell ⟨gC, 5, none⟩ (.int .i64 now)) gC #[.int .u32 cid, .string ca, .int .i64 cw, .int .i64 cs, .int .i64 ch, .int .i64 now] 24) := hC5.out.set 5 _; have B6 := Lib.hid (B5.out.setCell (p := ⟨gC, 5, none⟩) hgw (.int .i64 now)); have O6 := Lib.hid (owns_set (i := 5) hown5 hgC4 (.int .i64 now)); have hbs := hgrow5.size; have f5 := hC5.out.free 5; obtain ⟨x0, x1, x2, x3, x4, x5⟩ := ch0 (c := ⟨cid, ca, cw, cs, ch, cx⟩) hC5.out; have y5 := (ch0 (c := ⟨cid, ca, cw, cs, ch, now⟩) hC6.out).c5; dsimp only at x0 x1 x2 x3 x4 x5 y5; have hsz6 : wc.heap.size ≤ (w5.setCell ⟨gC, 5, none⟩ (.int .i64 now)).heap.size := (by rw [show (w5.setCell ⟨gC, 5, none⟩ (.int .i64 now)).heap.size = w5.heap.size by simp [World.setCell]]; exact hbs); clear hown5 hgrow5 hC5 B5))
      obtain ⟨y0, y1, y2, y3, y4, y5'⟩ := ch0 (c := ⟨cid, ca, cw, cs, ch, now⟩) hC6.out
      dsimp only at y0 y1 y2 y3 y4 y5'
      generalize w5.setCell ⟨gC, 5, none⟩ (.int .i64 now) = W6 at *
      clear x0 x1 x2 x3 x4 x5 y5' f5 hC4 SRC
      go_wp2_with (first | (at_builtin; refine wpList_app rfl _ _ 32 rfl wc.heap.size 24 i0 _ 6 56 Tryd.underlying32 hi hz0 hz1 hz2 rfl (by decide) _ (0 + N) ([] ++ fl) rfl (O6.out.alloc _) _ 1 _ rfl (src_of_blk (Blk.new _ (chCs ⟨cid, ca, cw, cs, ch, now⟩) _)) h1d (by unfold maxLen; omega) (by omega) (by simp; omega) ?_; intro v8 w8 hown8 hgrow8 _; have R8 := Lib.hid (HRO.out w8 _ v8 (by simpa using hown8)); have B8 := Lib.hid ((B6.out.alloc B6.out.size _).grown hgrow8 (by have := B6.out.size; simp; omega) (fun q hq => by have := (O6.out.lt q hq).1; have := B4.out.size; omega)); clear hown8 hgrow8))
      have UM8 := Lib.hid (UM.out _ _ B8.out R8.out)
      refine UM8.out.mono ?_; rintro e w9 ⟨rfl, b9⟩
      have B9 := Lib.hid (below_next b9 B8.out)
      have hdd : ((usCh (l ++ [⟨cid, ca, cw, cs, ch, now⟩]) account now half).2 == 0 && decide ((usCh (l ++ [⟨cid, ca, cw, cs, ch, now⟩]) account now half).1 < a)) = false := by
        cases h : ((usCh (l ++ [⟨cid, ca, cw, cs, ch, now⟩]) account now half).2 == 0)
        · rfl
        · have := HMORE.out (by simpa using h)
          simp; omega
      generalize (usCh (l ++ [⟨cid, ca, cw, cs, ch, now⟩]) account now half).1 = D at *
      generalize (usCh (l ++ [⟨cid, ca, cw, cs, ch, now⟩]) account now half).2 = G at *
      clear b9 UM8 B8 R8 UM HMORE y0 y1 y2 y3 y4 y5 hC6 B6 O6 HRO hsz6 hbs
      go_upto_region 16 with fail
      go_cut [97] (fun bv wx => bv = .bool false ∧ wx = w9)
      case first =>
        cases hF : (G == 0)
        · clear hdd UN K
          go_wp2_with fail
          go_meet
          case rel => exact ⟨rfl, rfl⟩
        · have g3 : decide (D < a) = false := by rw [hF] at hdd; simpa using hdd
          clear hdd UN K
          go_wp2_with fail
          go_meet
          case rel => exact ⟨rfl, rfl⟩
      case rest =>
        obtain ⟨rfl, rfl⟩ := hcut
        have UN9 := Lib.hid (UN.out _ B9.out)
        clear hdd UN
        go_wp2_with fail
        refine UN9.out.mono ?_; rintro e w10 ⟨rfl, b10⟩
        have B10 := Lib.hid (below_next b10 B9.out)
        have K10 := Lib.hid (K.out _ B10.out)
        clear b10 UN9 B9 K
        go_wp2_with fail
        refine K10.out.mono ?_; rintro e w11 ⟨rfl, b11⟩
        have B11 := Lib.hid (below_next b11 B10.out)
        clear b11 K10 B10
        go_wp2_with fail
        go_ret
        exact ⟨rfl, B11.out⟩
  · have g : (E != 0) = true := by simpa using hE0
    have K2 := Lib.hid (K.out _ B2.out)
    have ha0 := BAD.out hE0
    subst ha0
    clear BAD BD US UM TT hE0 hC2
    go_wp2_with fail
    refine K2.out.mono ?_; rintro e w3 ⟨rfl, b3⟩
    have B3 := Lib.hid (below_next b3 B2.out)
    clear b3
    go_wp2_with fail
    go_ret
    exact ⟨rfl, B3.out⟩


set_option maxRecDepth 100000 in
theorem lifted (os : Os) (started : os.Started) (H : Type) (enc : TypeId × Value → H) :
    ReturnsInHanded {} Tryd.checked os 6 .any (fun w args => (Rows.bookFallsSpec.pre enc Tryd.prog Tryd.f6 Rows.bookFallsRow.domain false w args ∧ laidMetH Tryd.prog laid20 w) ∧ sizedMet enc Tryd.prog Tryd.f6 (OpenSpec.ofChange Rows.bookFallsSpec) false w args) (Rows.bookFallsSpec.post enc Tryd.prog Tryd.f6 false true false false) := by
  refine laid_lift (C := Tryd.checked) (X := fun w _ => laidMetH Tryd.prog laid20 w) (fun _ _ _ hh h => h.of_heap hh) own started (by kernel_rfl) Tryd.func6
    (ChangeSpec.witness_shaped (enc := enc) (C := Tryd.checked) (os := os) (X := fun w _ => laidMetH Tryd.prog laid20 w) false (World.laidAll Tryd.prog os laid20) #[.slice none 0 0, .string ByteArray.empty, .int .i64 0, .int .u16 0, .int .i64 0, .agg #[.int .u32 0, .string ByteArray.empty, .int .i64 0, .int .i64 0, .int .i64 0, .int .i64 0]] 8 (World.laidAll_os _ _ _)
      (World.shaped_of_ZipB (by kernel_rfl) (by kernel_rfl)) (by kernel_rfl) (by kernel_rfl) (by kernel_rfl)
      (by rw [MakeChecks.laidMetH_plain _ _ _ (by kernel_rfl)]; exact laidMet_laidAll _ (by kernel_rfl) (by kernel_rfl))) ?_
  intro W base args ds gs before hval0 hW hsz0 hL hS
  have hE := env20_of hL hS
  have hval : ∀ (j : Nat) t v, Tryd.f6.params[j]? = some t → args[j]? = some v → Value.okWide Tryd.prog W .any base t v := hval0
  have hW' := hW
  obtain ⟨p, q, hA0, hV, rfl, hfz, hnd⟩ := hW
  have hA : DataW.TrodAll enc Tryd.prog W 0 (fun _ => true) true Tryd.f6.params.toList args.toList ds p := hA0
  rw [Tryd.params6] at hA hval
  obtain ⟨v0, vs0, d0, ds0, p0, q0, hargs, rfl, rfl, h0, r0⟩ := trodAll_cons hA
  obtain ⟨v1, vs1, d1, ds1, p1, q1, rfl, rfl, rfl, h1, r1⟩ := trodAll_cons r0
  obtain ⟨v2, vs2, d2, ds2, p2, q2, rfl, rfl, rfl, h2, r2⟩ := trodAll_cons r1
  obtain ⟨v3, vs3, d3, ds3, p3, q3, rfl, rfl, rfl, h3, r3⟩ := trodAll_cons r2
  obtain ⟨v4, vs4, d4, ds4, p4, q4, rfl, rfl, rfl, h4, r4⟩ := trodAll_cons r3
  obtain ⟨v5, vs5, d5, ds5, p5, q5, rfl, rfl, rfl, h5, r5⟩ := trodAll_cons r4
  obtain ⟨rfl, rfl, rfl⟩ := trodAll_nil r5
  obtain rfl : args = #[v0, v1, v2, v3, v4, v5] := by cases args; simp_all
  obtain ⟨l, w0⟩ := open_charges_arg h0 (okWide_slice Tryd.underlying32 (hval 0 32 v0 rfl rfl))
  obtain ⟨account, rfl, w1⟩ := open_string_arg Tryd.underlying9 (hval 1 9 v1 rfl rfl) h1
  obtain ⟨now, rfl, rfl, rfl, w2⟩ := open_int Tryd.underlying3 (hval 2 3 v2 rfl rfl) h2
  obtain ⟨later, rfl, rfl, rfl, w3⟩ := open_int Tryd.underlying42 (hval 3 42 v3 rfl rfl) h3
  obtain ⟨half, rfl, rfl, rfl, w4⟩ := open_int Tryd.underlying3 (hval 4 3 v4 rfl rfl) h4
  obtain ⟨cs5, rfl, hs5, hf5⟩ := open_plain_struct Tryd.underlying24 (by kernel_rfl) (by kernel_rfl) (hval 5 24 v5 rfl rfl) h5
  obtain ⟨c5_0, y5_0, n5_0, e5_0, t5_0⟩ := hf5 0 _ rfl
  obtain ⟨cid, rfl, w5_0⟩ := field_int Tryd.underlying22 t5_0
  obtain ⟨c5_1, y5_1, n5_1, e5_1, t5_1⟩ := hf5 1 _ rfl
  obtain ⟨ca, rfl, w5_1⟩ := field_string Tryd.underlying9 t5_1
  obtain ⟨c5_2, y5_2, n5_2, e5_2, t5_2⟩ := hf5 2 _ rfl
  obtain ⟨cw, rfl, w5_2⟩ := field_int Tryd.underlying3 t5_2
  obtain ⟨c5_3, y5_3, n5_3, e5_3, t5_3⟩ := hf5 3 _ rfl
  obtain ⟨cs, rfl, w5_3⟩ := field_int Tryd.underlying3 t5_3
  obtain ⟨c5_4, y5_4, n5_4, e5_4, t5_4⟩ := hf5 4 _ rfl
  obtain ⟨ch, rfl, w5_4⟩ := field_int Tryd.underlying3 t5_4
  obtain ⟨c5_5, y5_5, n5_5, e5_5, t5_5⟩ := hf5 5 _ rfl
  obtain ⟨cx, rfl, w5_5⟩ := field_int Tryd.underlying3 t5_5
  obtain rfl : cs5 = #[.int .u32 cid, .string ca, .int .i64 cw, .int .i64 cs, .int .i64 ch, .int .i64 cx] := arr_of cs5 [.int .u32 cid, .string ca, .int .i64 cw, .int .i64 cs, .int .i64 ch, .int .i64 cx] hs5 (fun j hj => by match j, hj with | 0, _ => exact e5_0 | 1, _ => exact e5_1 | 2, _ => exact e5_2 | 3, _ => exact e5_3 | 4, _ => exact e5_4 | 5, _ => exact e5_5 | j + 6, hj => exact absurd hj (by simp))
  clear hA0 hval0
  refine (walk v0 l account now later half cid ca cw cs ch cx W hE w0 w1 w2 w3 w4 w5_0 w5_1 w5_2 w5_3 w5_4 w5_5).mono fun e W' ⟨he, hb⟩ => ?_
  subst he
  exact ⟨_, rfl, law_post (by kernel_rfl) (by kernel_rfl) rfl Tryd.underlying4 rfl hW' rfl hb⟩

theorem over : Rows.bookFallsRow.holds Tryd.pinned (OpenSpec.ofChange Rows.bookFallsSpec) :=
  OpenClaim.holds_of_wide 6 Tryd.f6 rfl rfl rfl rfl rfl rfl rfl ⟨rfl, rfl, rfl, rfl, rfl⟩ rfl rfl rfl rfl rfl (by kernel_rfl) Tryd.func6 (by kernel_rfl)
    (of_decide_eq_true (by kernel_rfl)) (by unfold Func.isWrapper; first | (rw [if_pos (by decide +kernel)]; kernel_rfl) | (rw [if_neg (by decide +kernel)]; exact ⟨rfl, rfl⟩))
    (fun os started H enc _ => lifted os started H enc)

theorem proved : Rows.BookFallsCardSaid :=
  Claim7.holds_tied_plain_at .later [] _ true _ false over (fun _ h => by cases h) (by kernel_rfl) (fun _ h => by cases h) bookFalls_row_tie rfl ⟨rfl, rfl⟩ (by kernel_rfl) rfl
    (fun f fn hf hfn => by
      obtain rfl : f = 6 := Option.some.inj ((show Tryd.prog.funcNamed "ganger/gangerlaw20.BookFalls" = some 6 by kernel_rfl).symm.trans hf) |>.symm
      obtain rfl : fn = Tryd.f6 := (Option.some.inj (Tryd.func6.symm.trans hfn)).symm
      exact ⟨by kernel_rfl, fun j t ht => by
        rw [Tryd.params6] at ht
        have hm : t ∈ [32, 9, 3, 42, 3, 24] := by simpa using Array.mem_of_getElem? ht
        have hall : ([32, 9, 3, 42, 3, 24].all fun u => !Tryd.prog.wantsStandIn u) = true := by kernel_rfl
        exact (show Tryd.prog.wantsStandIn t = false by simpa using List.all_eq_true.1 hall t hm)⟩)
    (by kernel_rfl)
#print axioms proved
end Go.Proofs.YtlafjjdponeeeaaDoor.bookFalls
