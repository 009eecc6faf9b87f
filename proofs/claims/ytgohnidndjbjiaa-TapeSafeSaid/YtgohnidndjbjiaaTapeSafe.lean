/-
  TapeSafe: behind a crash at any act there are all records that were answered with OK, and at most the one that was being laid, whatever the records: so the law returns true for every input.
-/
import Derived.Test.YtgohnidndjbjiaaTapeJ
import Derived.Test.YtgohnidndjbjiaaOpen
import Derived.Test.YtgohnidndjbjiaaRows
import Derived.Test.YtgohnidndjbjiaaArgs2
namespace Go.Proofs.Ytgohnidndjbjiaa.tapeSafe
open Go.ChangeShapes Go.WideShapes Go.ChangeAt Go.RowKit
set_option linter.unusedVariables false

theorem own : ownKnob Try.prog.godebug = none := by kernel_rfl

open Go.Lib
set_option maxRecDepth 100000 in
set_option maxHeartbeats 2000000 in
theorem walk (vl : Value) (l : List (List UInt8)) (after keep : Int) (w : World) (hl : RowOf w 1 (fun cs (xs : List UInt8) => ∃ v, cs = [v] ∧ Rd w (· < w.heap.size) v (bts xs)) vl l) (wa : (Lit.int .i64 after).wf = true) (wk : (Lit.int .i64 keep).wf = true) :
    Calls Try.prog 4 #[vl, .int .i64 after, .int .i64 keep] w fun e w' => e = .returned (.bool true) ∧ Below w.heap.size w w' := by
  obtain ⟨i0, hi, hz0, hz1, hz2⟩ := info_parts Try.infoL
  have HL := Lib.hid hl
  have hka := wf_i64' wk
  obtain ⟨hka1, hka2⟩ := hka
  obtain ⟨A, c, rfl, hc1, hc2⟩ := (RdL.of_row hl).form
  unfold maxLen at hc2
  have u2 := u64_bd after
  obtain ⟨kk, hkk⟩ := Int.eq_ofNat_of_zero_le (a := IntKind.u64.wrap after % 60) (Int.emod_nonneg _ (by omega))
  have lkk : kk < 60 := by have := Int.emod_lt_of_pos (IntKind.u64.wrap after) (show (0 : Int) < 60 by omega); omega
  have HOp := Lib.hid (opened_any 60000 w (by decide) (by decide))
  clear hl wa wk
  go_enter Try.func4, Try.ntmps4
  go_wp2_with fail
  refine HOp.out.mono ?_; rintro e w1 ⟨pb, sb, tb, mb, rb, N1, M1, rfl, hp1⟩
  have P1 := Lib.hid hp1
  clear hp1 HOp
  go_wp2_with fail
  go_loop [8, 9] (SzLp l) (fun _ i => l.length - (RowKit.intOf i).toNat)
  case atStart => exact ⟨0, 0, Nat.zero_le _, Nat.zero_le _, Nat.zero_le _, rfl, rfl⟩
  case round =>
    obtain ⟨k, n, hk1, hk2, hn, rfl, rfl⟩ := hrel
    by_cases hlt : k < l.length
    · have t1 : decide (k < l.length) = true := decide_eq_true hlt
      have t1' : (k : Int) < l.length := by omega
      obtain ⟨b, off, v, rfl, cv, hR, _⟩ := rowl_at HL.out P1.out.below hlt
      obtain ⟨B, d, rfl, _⟩ := rd_form hR
      obtain ⟨m, hm⟩ : ∃ m, m = (l[k]).length := ⟨_, rfl⟩
      rw [← hm] at cv
      obtain ⟨q, hq, hq2⟩ : ∃ q : Nat, min (m : Int) 30000 = (q : Int) ∧ q ≤ 30000 := ⟨min m 30000, by omega, by omega⟩
      clear hR hm
      obtain ⟨n2, hn2⟩ : ∃ n2 : Nat, n2 = n + q := ⟨_, rfl⟩
      have hn2' : (n : Int) + (q : Int) = (n2 : Int) := by omega
      by_cases hk : 20000 < n2 ∨ 60 < k
      · have HKn := Lib.hid (known19_any w1)
        by_cases h1 : 20000 < n2
        · have t2 : decide ((n2 : Int) > 20000) = true := decide_eq_true (by omega)
          clear hk hn2
          go_wp2_with fail
          refine HKn.out.mono ?_; rintro e w2 ⟨rfl, hb2⟩
          go_wp2_with fail
          go_returns
          exact ⟨rfl, P1.out.below.trans (hb2.mono P1.out.below.size)⟩
        · have h2 : 60 < k := by omega
          have t2 : decide ((n2 : Int) > 20000) = false := decide_eq_false (by omega)
          have t3 : decide ((k : Int) > 60) = true := decide_eq_true (by omega)
          clear hk hn2
          go_wp2_with fail
          refine HKn.out.mono ?_; rintro e w2 ⟨rfl, hb2⟩
          go_wp2_with fail
          go_returns
          exact ⟨rfl, P1.out.below.trans (hb2.mono P1.out.below.size)⟩
      · have t2 : decide ((n2 : Int) > 20000) = false := decide_eq_false (by omega)
        have t3 : decide ((k : Int) > 60) = false := decide_eq_false (by omega)
        have b1 : k + 1 ≤ 61 := by omega
        have b2 : n2 ≤ 20000 := by omega
        clear hk hn2
        go_wp2_with fail
        go_round
        case rel => exact ⟨k + 1, n2, hlt, b1, b2, rfl, by go_num⟩
        case measure => simp [RowKit.intOf]; omega
    · have t1 : decide (k < l.length) = false := decide_eq_false hlt
      have hl61 : l.length ≤ 61 := by omega
      have y0 := P1.out.blk.cell 0
      have y1 := P1.out.blk.cell 1
      have y2 := P1.out.blk.cell 2
      have y3 := P1.out.blk.cell 3
      simp at y0 y1 y2 y3
      have OF : Hid (Calls Try.prog 18 #[.pointer (some ⟨sb, 0, none⟩), .int .i64 kk] w1 fun e w' => e = .returned (.tuple #[]) ∧ TkTo w1 w.heap.size N1 sb tb ⟨offS (t00 60000).s kk, [], false⟩ w') :=
        P1.out.tk.spool (Nat.zero_le _) fun M hM hN => off_at rfl (by omega) hM
      clear hlt hk1 hk2 hn
      go_wp2_with fail
      refine OF.out.mono ?_; rintro e w2 ⟨rfl, h2⟩
      obtain ⟨N2, hp2, f2, _⟩ := P1.out.toT h2
      have P2 := Lib.hid hp2
      have z2 := hp2.blk.cell 2
      simp at z2
      have OF2 : Hid (Calls Try.prog 19 #[.pointer (some ⟨mb, 0, none⟩), .int .i64 kk] w2 fun e w' => e = .returned (.tuple #[]) ∧ RkTo w2 w.heap.size M1 mb rb ⟨offS (t00 60000).s kk, [], false⟩ w') :=
        hp2.rk.spool (Nat.zero_le _) fun M hM hN => refOff_any kk (by omega) hM
      clear h2 hp2 f2 y0 y1 y2 y3
      go_wp2_with fail
      refine OF2.out.mono ?_; rintro e w3 ⟨rfl, h3⟩
      obtain ⟨M3, hp3, f3, _⟩ := P2.out.toR h3
      have MD : Hid (Mid w l pb sb mb 0 [] (.slice none 0 0) (.slice none 0 0) w3) :=
        ⟨[], _, tb, rb, N2, M3, Nat.le_refl _, hp3, rfl, ⟨⟨[], rfl, World.ownsRow_nil _ _ _ _, fun i u x hu => by simp at hu⟩, fun g hg => by cases hg⟩, Rd.nil _ _⟩
      clear h3 hp3 f3 z2 OF OF2 P1 P2
      go_upto_block 2 with fail
      go_cut [11, 12] (fun sv nv wx => SfTo w l pb sb mb sv nv wx)
      case first =>
        go_wp2_with fail
        go_loopw [11, 12, 13] (SfLp w l pb sb mb) (fun _ _ i _ => l.length - (RowKit.intOf i).toNat)
        case atStart => exact ⟨0, Nat.zero_le _, rfl, rfl, MD.out⟩
        case round =>
          obtain ⟨i, hil, rfl, rfl, S, t, tb, rb, N, M, hSi, hp, hroom, hsu, _⟩ := hrel
          have P := Lib.hid hp
          obtain ⟨As, cs, rfl⟩ : ∃ As cs, _ = Value.slice As S.length cs := by obtain ⟨⟨gs, _, ho, _⟩, _⟩ := hsu; exact owned_slice ho
          have SU := Lib.hid hsu
          have RM := Lib.hid hroom
          clear hp hsu hroom MD
          by_cases hlt : i < l.length
          · have t1 : decide (i < l.length) = true := decide_eq_true hlt
            have t1' : (i : Int) < l.length := by omega
            obtain ⟨b, off, v, rfl, cv, hR, hbw⟩ := rowl_at HL.out P.out.below hlt
            obtain ⟨B, d, rfl, _⟩ := rd_form hR
            generalize l[i] = x at *
            obtain ⟨m, hm⟩ : ∃ m, m = x.length := ⟨_, rfl⟩
            have HMx := Lib.hid hm
            rw [← hm] at cv hR
            have HR := Lib.hid hR
            clear hR hm
            by_cases h8 : 8000 < m
            · have t2 : decide ((m : Int) > 8000) = true := decide_eq_true (by omega)
              go_wp2_with fail
              go_roundw
              case rel => exact ⟨i + 1, hlt, by go_num, rfl, S, t, tb, rb, N, M, by omega, P.out, RM.out, SU.out, Rd.nil _ _⟩
              case measure => simp [RowKit.intOf]; omega
            · have t2 : decide ((m : Int) > 8000) = false := decide_eq_false (by omega)
              have y1 := P.out.blk.cell 1
              simp at y1
              obtain ⟨t1', r1, hadd⟩ : ∃ t1 r1, addT t x = (t1, r1) := ⟨_, _, rfl⟩
              have RM1 : Hid (t1'.s.room = 60000) := by have := addT_room t x; rw [hadd, RM.out] at this; exact this
              have HAD := Lib.hid hadd
              have PD : Hid (PO w pb sb tb mb rb N M t t wr.drew) := P.out.kept (Below.refl _ _).drew
              have SD : Hid (Sure w wr.drew pb N M (.slice As S.length cs) S) := SU.out.kept (Below.refl _ _).drew
              have RD : Hid (Rd wr.drew (· < w.heap.size) (.slice B m d) (bts x)) := HR.out.kept (Below.refl _ _).drew
              have BW := P.out.below
              have cl : ∀ {W : World}, Below w.heap.size wr W → W.cell? ⟨b, off + i, none⟩ = some (.slice B m d) := fun {W} f => by rw [World.cell?_of_block (w := wr) (f.block b hbw)]; exact cv
              have CL := Lib.hid (fun W => @cl W)
              clear hadd cl
              go_wp2_with fail
              go_still_tail 8, (by kernel_rfl)
              change wpList _ _ _ _ _ wr.drew
              have HWD : Hid (Below w.heap.size wr wr.drew) := (Below.refl _ _).drew
              generalize wr.drew = W at *
              go_wp2_with fail
              refine (tAdd_at HAD.out PD.out.tk RD.out (fun b hb h => by have := (PD.out.tk.lt b h).1; omega)).mono ?_; rintro e w4 ⟨rfl, h4⟩
              obtain ⟨N4, hp4, f4, n4⟩ := PD.out.toT h4
              have f4' : Below w.heap.size W w4 := f4.below PD.out.below.size fun b hb => (PD.out.tk.lt b hb).1
              have P4 := Lib.hid hp4
              have S4 : Hid (Sure w w4 pb N4 M (.slice As S.length cs) S) := SD.out.fr f4 (fun g hg => (SD.out.apart g hg).1) (fun b hb hn => by have := (PD.out.tk.lt b hn).1; omega) n4 fun _ _ h => h
              have R4 : Hid (Rd w4 (· < w.heap.size) (.slice B m d) (bts x)) := RD.out.fr f4 fun b hb _ hn => by have := (PD.out.tk.lt b hn).1; omega
              have c4 := CL.out w4 (HWD.out.trans f4')
              have y3 := hp4.blk.cell 3
              simp at y3
              have HW4 : Hid (Below w.heap.size wr w4) := HWD.out.trans f4'
              clear h4 hp4 f4 n4 f4' y1 cv PD SD RD HWD
              go_wp2_with fail
              have P5 : Hid (PO w pb sb tb mb rb N4 M t1' t w4.drew) := P4.out.kept (Below.refl _ _).drew
              have S5 : Hid (Sure w w4.drew pb N4 M (.slice As S.length cs) S) := S4.out.kept (Below.refl _ _).drew
              have R5 : Hid (Rd w4.drew (· < w.heap.size) (.slice B m d) (bts x)) := R4.out.kept (Below.refl _ _).drew
              have HW5 : Hid (Below w.heap.size wr w4.drew) := HW4.out.trans (Below.refl _ _).drew
              go_still_tail 8, (by kernel_rfl)
              change wpList _ _ _ _ _ w4.drew
              generalize w4.drew = W5 at *
              clear P4 S4 R4 c4 y3 HW4
              go_wp2_with fail
              refine (refTAdd_at HAD.out P5.out.rk R5.out (fun b hb h => by have := (P5.out.rk.lt b h).1; omega)).mono ?_; rintro e w6 ⟨rfl, h6⟩
              obtain ⟨M6, hp6, f6, m6⟩ := P5.out.toR h6
              have f6' : Below w.heap.size W5 w6 := f6.below P5.out.below.size fun b hb => (P5.out.rk.lt b hb).1
              have P6 := Lib.hid hp6
              have S6 : Hid (Sure w w6 pb N4 M6 (.slice As S.length cs) S) := S5.out.fr f6 (fun g hg => (S5.out.apart g hg).2.1) (fun b hb hn => by have := (P5.out.rk.lt b hn).1; omega) (fun _ _ h => h) m6
              have R6 : Hid (Rd w6 (· < w.heap.size) (.slice B m d) (bts x)) := R5.out.fr f6 fun b hb _ hn => by have := (P5.out.rk.lt b hn).1; omega
              have HW6 : Hid (Below w.heap.size wr w6) := HW5.out.trans f6'
              have c6 := CL.out w6 HW6.out
              have tr : (r1 != r1) = false := by simp
              clear h6 hp6 f6 m6 f6' P5 S5 R5 HW5
              by_cases hr0 : r1 = 0
              · subst hr0
                obtain ⟨⟨gs, hgl, ho6, hge⟩, hap⟩ := S6.out
                have HG := Lib.hid hgl
                have HGE := Lib.hid hge
                have HAP := Lib.hid hap
                have O6 := Lib.hid ho6
                have hSb : S.length ≤ 61 := by omega
                have P7 : Hid (∀ w', Fr (fun b => (Value.slice As S.length cs).ownBlock = some b) w6 w' → PO w pb sb tb mb rb N4 M6 t1' t1' w') := fun w' f => P6.out.fr f fun b hb _ => ⟨(HAP.out b hb).1, (HAP.out b hb).2.1, (HAP.out b hb).2.2, owns_base O6.out hb⟩
                clear hgl ho6 hge hap S6
                go_wp2_with (at_builtin; refine wpList_append_own_at _ rfl _ _ 38 rfl w.heap.size 37 i0 _ 1 24 Try.underlying38 hi hz0 hz1 hz2 rfl (by decide) _ S.length gs rfl ?q6 ⟨w6.heap.size, 0, none⟩ 1 1 [.slice B m d] rfl rfl ?q1 ?q0 ?q2 ?q3 ?q4 ?_)
                case q6 => exact owns_alloc O6.out _
                case q1 => exact news_alloc w6 [.slice B m d] 37
                case q0 => exact one_slice _ _ _
                case q2 => unfold maxLen; omega
                case q3 => omega
                case q4 => have h1 := P6.out.below.size; simp; omega
                intro v7 w7 ho7 hg7 _ hb7
                have F7 : Hid (Fr (fun b => (Value.slice As S.length cs).ownBlock = some b) w6 w7) := ((Fr.refl _ w6).alloc _).grown hg7 fun b h => .inl h
                have S7 : Hid (Sure w w7 pb N4 M6 v7 (S ++ [x])) := sure_push HG.out HGE.out HAP.out R6.out ho7 hg7 hb7 (fun g hg => owns_base O6.out hg) (fun b hb => (P6.out.tk.lt b hb).2) (fun b hb => (P6.out.rk.lt b hb).2) P6.out.blk.lt
                have P7' := Lib.hid (P7.out w7 F7.out)
                clear ho7 hg7 hb7 P7 F7
                go_wp2_with fail
                go_roundw
                case rel => exact ⟨i + 1, hlt, by go_num, rfl, S ++ [x], t1', tb, rb, N4, M6, by simp; omega, P7'.out, RM1.out, S7.out, Rd.nil _ _⟩
                case measure => simp [RowKit.intOf]; omega
              · have tr0 : (r1 != 0) = true := bne_iff_ne.2 hr0
                clear hr0
                go_wp2_with fail
                go_meet
                exact ⟨x, S, t1', tb, rb, N4, M6, by omega, P6.out, RM1.out, S6.out, R6.out⟩
          · have t1 : decide (i < l.length) = false := decide_eq_false hlt
            go_wp2_with fail
            go_meet
            exact ⟨[], S, t, tb, rb, N, M, by omega, P.out, RM.out, SU.out, Rd.nil _ _⟩
      case rest =>
        obtain ⟨nx, S, t, tb, rb, N, M, hS, hp, hroom, hsu, hnx⟩ := hcut
        obtain ⟨As, cs, rfl⟩ : ∃ As cs, _ = Value.slice As S.length cs := by obtain ⟨⟨gs, _, ho, _⟩, _⟩ := hsu; exact owned_slice ho
        obtain ⟨Bn, dn, rfl, _⟩ := rd_form hnx
        have hSb : S.length ≤ 61 := by omega
        obtain ⟨N0, M0, hpc⟩ := hp.close
        have hOk := hpc.sp.1.1
        obtain ⟨e1, e2, e3, e4⟩ := crash_sure t.s keep hOk
        obtain ⟨s2, hs2⟩ : ∃ s2, crashS t.s keep = s2 := ⟨_, rfl⟩
        rw [hs2] at e1 e2 e3 e4
        obtain ⟨o1, o2, o3, o4, o5, o6⟩ := openS_ok s2 e2 e3
        have E6 := Lib.hid (o6 e1)
        have E4 : Hid (s2.room = 60000) := by rw [← hroom]; exact e4
        have O1 := Lib.hid o1
        have O2 := Lib.hid o2
        have HS2 := Lib.hid hs2
        have PC0 := Lib.hid hpc
        have PP := Lib.hid hp
        have SU := Lib.hid hsu
        have NX := Lib.hid hnx
        have y0 := hpc.blk.cell 0
        have y2 := hpc.blk.cell 2
        simp at y0 y2
        obtain ⟨N9, M9, hpc9, hsub, hsub2⟩ := hp.close2
        have PC1 := Lib.hid hpc9
        have SU1 : Hid (Sure w wc pb N9 M9 (.slice As S.length cs) S) := ⟨hsu.own, fun g hg => ⟨fun h => (hsu.apart g hg).1 (hsub g h), fun h => (hsu.apart g hg).2.1 (hsub2 g h), (hsu.apart g hg).2.2⟩⟩
        have CR : Hid (Calls Try.prog 22 #[.pointer (some ⟨sb, 0, none⟩), .int .i64 keep] wc fun e w' => e = .returned (.tuple #[]) ∧ SpTo wc w.heap.size N9 sb s2 w') := crash_at hs2 hpc9.sp
        clear hp hroom hsu hnx hpc hOk e1 e2 e3 e4 hs2 o1 o2 o3 o4 o5 o6 hpc9 hsub hsub2 PC0 MD SU PP
        go_wp2_with fail
        refine CR.out.mono ?_; rintro e w5 ⟨rfl, h5⟩
        obtain ⟨N5, hp5, f5, n5⟩ := PC1.out.toS h5
        have PC5 := Lib.hid hp5
        have SU5 : Hid (Sure w w5 pb N5 M9 (.slice As S.length cs) S) := SU1.out.fr f5 (fun g hg => (SU1.out.apart g hg).1) (fun b hb hn => by have := (PC1.out.sp.2.1 b hn).1; omega) n5 fun _ _ h => h
        have NX5 : Hid (Rd w5 (· < w.heap.size) (.slice Bn nx.length dn) (bts nx)) := NX.out.fr f5 fun b hb _ hn => by have := (PC1.out.sp.2.1 b hn).1; omega
        have z2 := hp5.blk.cell 2
        simp at z2
        have CR2 : Hid (Calls Try.prog 23 #[.pointer (some ⟨mb, 0, none⟩), .int .i64 keep] w5 fun e w' => e = .returned (.tuple #[]) ∧ RfTo w5 w.heap.size M9 mb s2 w') := by
          have := refCrash_any keep hp5.rf
          rw [HS2.out] at this; exact this
        clear h5 hp5 f5 n5 y0 y2 CR PC1 SU1 NX
        go_wp2_with fail
        refine CR2.out.mono ?_; rintro e w6 ⟨rfl, h6⟩
        obtain ⟨M6, hp6, f6, m6⟩ := PC5.out.toR h6
        have PC6 := Lib.hid hp6
        have SU6 : Hid (Sure w w6 pb N5 M6 (.slice As S.length cs) S) := SU5.out.fr f6 (fun g hg => (SU5.out.apart g hg).2.1) (fun b hb hn => by have := (PC5.out.rf.lt b hn).1; omega) (fun _ _ h => h) m6
        have NX6 : Hid (Rd w6 (· < w.heap.size) (.slice Bn nx.length dn) (bts nx)) := NX5.out.fr f6 fun b hb _ hn => by have := (PC5.out.rf.lt b hn).1; omega
        have hx6 : s2.xs.length ≤ 1000000 := by have := hp6.sp.1.2.1; rw [E4.out] at this; omega
        have RE := Lib.hid (reopen_any hp6 hx6)
        clear h6 hp6 f6 m6 z2 CR2 PC5 SU5 NX5
        go_wp2_with fail
        refine RE.out.mono ?_
        intro e w7 ho
        obtain ⟨rfl, hre, hfr⟩ := ho
        rcases hre with ⟨_, tc, rc, N7, M7, hp7⟩ | ⟨hne, _⟩
        case inr => exact absurd O1.out hne
        have SU7 : Hid (Sure w w7 pb (fun _ => False) (fun _ => False) (.slice As S.length cs) S) := SU6.out.fr hfr (fun g hg hk => by
            rcases hk with hk | hk | hk
            · exact (SU6.out.apart g hg).1 hk
            · exact (SU6.out.apart g hg).2.1 hk
            · exact (SU6.out.apart g hg).2.2 hk) (fun b hb hk => by
            rcases hk with hk | hk | hk
            · have := (PC6.out.sp.2.1 b hk).1; omega
            · have := (PC6.out.rf.lt b hk).1; omega
            · have := PC6.out.le; omega) (fun _ _ _ h => h) fun _ _ _ h => h
        have NX7 : Hid (Rd w7 (· < w.heap.size) (.slice Bn nx.length dn) (bts nx)) := NX6.out.fr hfr fun b hb _ hk => by
            rcases hk with hk | hk | hk
            · have := (PC6.out.sp.2.1 b hk).1; omega
            · have := (PC6.out.rf.lt b hk).1; omega
            · have := PC6.out.le; omega
        obtain ⟨R, hR⟩ : ∃ R, R = rowsB s2.xs := ⟨_, rfl⟩
        obtain ⟨s3, hs3⟩ : ∃ s3, s3 = (openS s2).1 := ⟨_, rfl⟩
        rw [← hR, ← hs3] at hp7
        have HR := Lib.hid hR
        have HS3 := Lib.hid hs3
        have P7 := Lib.hid hp7
        have x1 := hp7.blk.cell 1
        have x3 := hp7.blk.cell 3
        simp at x1 x3
        obtain ⟨⟨gs, hgl, ho7, hge⟩, _⟩ := SU7.out
        have HG := Lib.hid hgl
        have HGE := Lib.hid hge
        have O7 := Lib.hid ho7
        have SR7 : Hid (Src w7 1 (.slice As S.length cs) S.length gs) := by
          have := rd_src (Rd.of_owns (K := fun _ => True) (by rw [hgl]; exact ho7) fun _ _ => trivial)
          rw [hgl] at this; exact this
        clear hfr hp7 hR hs3 hgl ho7 hge RE PC6 SU6 NX6 hx6
        go_wp2_with (at_builtin; refine wpList_app rfl _ _ 38 rfl w7.heap.size 37 i0 _ 1 24 Try.underlying38 hi hz0 hz1 hz2 rfl (by decide) _ 0 _ rfl (World.ownsRow_nil _ _ _ _) _ S.length gs rfl SR7.out (Sure.one HG.out HGE.out) (by unfold maxLen; omega) (by omega) (Nat.le_refl _) ?_)
        intro v8 w8 ho8 hg8 _
        have B8 : Hid (Below w7.heap.size w7 w8) := (Below.refl _ w7).grown hg8 (Nat.le_refl _) fun k hk => by cases hk
        have O8 := Lib.hid ho8
        obtain ⟨A8, c8, rfl⟩ := owned_slice ho8
        have hz8 : pb < w8.heap.size := Nat.lt_of_lt_of_le P7.out.blk.lt B8.out.size
        clear ho8 hg8 SR7 x1 x3
        go_wp2_with (at_builtin; refine wpList_append_own_at _ rfl _ _ 38 rfl w7.heap.size 37 i0 _ 1 24 Try.underlying38 hi hz0 hz1 hz2 rfl (by decide) _ S.length gs rfl ?q6 ⟨w8.heap.size, 0, none⟩ 1 1 [.slice Bn nx.length dn] rfl rfl ?q1 ?q0 ?q2 ?q3 ?q4 ?_)
        case q6 => exact owns_alloc O8.out _
        case q1 => exact news_alloc w8 [.slice Bn nx.length dn] 37
        case q0 => exact one_slice _ _ _
        case q2 => unfold maxLen; omega
        case q3 => omega
        case q4 => have h1 := B8.out.size; simp; omega
        intro v9 w9 ho9 hg9 _ hb9
        have h7 : w.heap.size ≤ w7.heap.size := P7.out.below.size
        have S9 : Hid (Sure w w9 pb (fun _ => False) (fun _ => False) v9 (S ++ [nx])) :=
          sure_push HG.out (fun i u x hu hx => (HGE.out i u x hu hx).kept B8.out) (fun g hg => ⟨fun h => h, fun h => h, fun e => by have := owns_base O8.out hg; have := P7.out.blk.lt; omega⟩) (NX7.out.kept B8.out) (owns_mono ho9 h7) hg9 hb9 (fun g hg => by have := owns_base O8.out hg; omega) (fun _ h => h.elim) (fun _ h => h.elim) hz8
        have B9 : Hid (Below w7.heap.size w7 w9) := B8.out.trans ((((Fr.refl (fun b => (Value.slice A8 S.length c8).ownBlock = some b) w8).alloc _).grown hg9 fun b h => .inl h).below B8.out.size fun b hb => owns_base O8.out hb)
        have MR := Lib.hid S9.out.rdl
        have P9 := Lib.hid (P7.out.kept B9.out)
        have SU9 := Lib.hid (SU7.out.kept B9.out)
        have x3 := P9.out.blk.cell 3
        simp at x3
        clear ho9 hg9 hb9 SU7 NX7 O7 O8 HGE HG S9
        go_wp2_with fail
        refine (refRecords_any P9.out.rk).mono ?_; rintro e w9 ⟨v10, rfl, hv10, rfl⟩
        have V10 := Lib.hid hv10
        obtain ⟨b1, hb1⟩ : ∃ b1, begB (S ++ [nx]) R = b1 := ⟨_, rfl⟩
        have BG : Hid (Calls Try.prog 25 #[v9, v10] w9 fun e w' => e = .returned (.bool b1) ∧ ∃ n, w' = w9.drewN n) := by
          have := begins_any MR.out hv10; dsimp only at this; rw [hb1] at this; exact this
        have HB1 := Lib.hid hb1
        clear hv10 hb1
        go_wp2_with fail
        refine BG.out.mono ?_; rintro e w11 ⟨rfl, n1, hw11⟩
        have B11 : Hid (Below w9.heap.size w9 w11) := by rw [hw11]; exact below_drewn _ _
        have P11 := Lib.hid (P9.out.kept B11.out)
        have SU11 := Lib.hid (SU9.out.kept B11.out)
        have MR11 := Lib.hid (MR.out.kept B11.out)
        have x3' := P11.out.blk.cell 3
        simp at x3'
        clear hw11 BG x3 P9 SU9 MR V10
        cases b1 with
        | false =>
          go_wp2_with fail
          refine (known19_any _).mono ?_; rintro e w12 ⟨rfl, hb12⟩
          go_wp2_with fail
          go_returns
          exact ⟨rfl, P11.out.below.trans (hb12.mono P11.out.below.size)⟩
        | true =>
          go_wp2_with fail
          refine (refRecords_any P11.out.rk).mono ?_; rintro e w11 ⟨v12, rfl, hv12, rfl⟩
          obtain ⟨b2, hb2⟩ : ∃ b2, begB R S = b2 := ⟨_, rfl⟩
          have BG : Hid (Calls Try.prog 25 #[v12, .slice As S.length cs] w11 fun e w' => e = .returned (.bool b2) ∧ ∃ n, w' = w11.drewN n) := by
            have := begins_any hv12 SU11.out.rdl; dsimp only at this; rw [hb2] at this; exact this
          have HB2 := Lib.hid hb2
          clear hv12 hb2
          go_wp2_with fail
          refine BG.out.mono ?_; rintro e w13 ⟨rfl, n2, hw13⟩
          have B13 : Hid (Below w11.heap.size w11 w13) := by rw [hw13]; exact below_drewn _ _
          have P13 := Lib.hid (P11.out.kept B13.out)
          have SU13 := Lib.hid (SU11.out.kept B13.out)
          have MR13 := Lib.hid (MR11.out.kept B13.out)
          have x1 := P13.out.blk.cell 1
          simp at x1
          clear hw13 BG x3' P11 SU11 MR11
          cases b2 with
          | false =>
            go_wp2_with fail
            refine (known19_any _).mono ?_; rintro e w14 ⟨rfl, hb14⟩
            go_wp2_with fail
            go_returns
            exact ⟨rfl, P13.out.below.trans (hb14.mono P13.out.below.size)⟩
          | true =>
            go_wp2_with fail
            refine (records_any P13.out.tk).mono ?_; rintro e w14 ⟨av, avs, rfl, hao, had, hab⟩
            dsimp only at had
            have RA : Hid (RdL w14 av R) := RdL.of_bods hao had
            have AO := Lib.hid hao
            have AD := Lib.hid had
            have P14 := Lib.hid (P13.out.kept hab)
            have SU14 := Lib.hid (SU13.out.kept hab)
            have MR14 := Lib.hid (MR13.out.kept hab)
            have ASZ : Hid (w13.heap.size ≤ w14.heap.size ∧ pb < w13.heap.size) := ⟨hab.size, P13.out.blk.lt⟩
            have BG1 : Hid (Calls Try.prog 25 #[v9, av] w14 fun e w' => e = .returned (.bool true) ∧ ∃ n, w' = w14.drewN n) := by
              have := begins_any MR14.out RA.out; rw [HB1.out] at this; exact this
            clear hao had hab x1
            go_wp2_with fail
            refine BG1.out.mono ?_; rintro e w15 ⟨rfl, n3, hw15⟩
            have B15 : Hid (Below w14.heap.size w14 w15) := by rw [hw15]; exact below_drewn _ _
            have BG2 : Hid (Calls Try.prog 25 #[av, .slice As S.length cs] w15 fun e w' => e = .returned (.bool true) ∧ ∃ n, w' = w15.drewN n) := by
              have := begins_any (RA.out.kept B15.out) (SU14.out.kept B15.out).rdl; rw [HB2.out] at this; exact this
            clear hw15 BG1
            go_wp2_with fail
            refine BG2.out.mono ?_; rintro e w16 ⟨rfl, n4, hw16⟩
            have B16 : Hid (Below w14.heap.size w14 w16) := by rw [hw16]; exact B15.out.trans ((below_drewn _ _).mono B15.out.size)
            have P16 := Lib.hid (P14.out.kept B16.out)
            have NB : Hid (∀ b, w13.heap.size ≤ b → ¬ N7 b) := fun b hb hn => by have := (P13.out.tk.lt b hn).2; omega
            obtain ⟨N17, M17, hpc, hsub, _⟩ := P16.out.close2
            have PC16 := Lib.hid hpc
            have NB17 : Hid (∀ b, w13.heap.size ≤ b → ¬ N17 b) := fun b hb hn => NB.out b hb (hsub b hn)
            have x0 := hpc.blk.cell 0
            simp at x0
            obtain ⟨s4, hs4⟩ : ∃ s4, crashS s3 0 = s4 := ⟨_, rfl⟩
            obtain ⟨q1, q2, q3⟩ := crash_still s3 (by rw [HS3.out]; exact E6.out)
            rw [hs4] at q1 q2 q3
            have Q1 := Lib.hid q1
            obtain ⟨o1, o2, _⟩ := openS_ok s4 q2 q3
            have O41 := Lib.hid o1
            have HR4 : Hid (rowsB s4.xs = R) := by unfold Hid; rw [q1, HS3.out, O2.out, HR.out]
            have CR : Hid (Calls Try.prog 22 #[.pointer (some ⟨sb, 0, none⟩), .int .i64 0] w16 fun e w' => e = .returned (.tuple #[]) ∧ SpTo w16 w.heap.size N17 sb s4 w') := crash_at hs4 hpc.sp
            have RM3 : Hid (s4.room = s3.room) := by unfold Hid; rw [← hs4]; rfl
            have AO16 : Hid (w16.ownsRow w13.heap.size 37 1 av avs.length avs) := owns_next AO.out B16.out
            have AD16 : Hid (Bods w16 w13.heap.size avs R) := AD.out.kept B16.out
            clear hw16 hpc hsub hs4 q1 q2 q3 o1 o2 BG2 P14 SU14 MR14 AO AD P13 SU13 MR13 RA
            go_wp2_with fail
            refine CR.out.mono ?_; rintro e w17 ⟨rfl, h17⟩
            obtain ⟨N18, hp18, f18, n18⟩ := PC16.out.toS h17
            have PC18 := Lib.hid hp18
            have AO18 : Hid (w17.ownsRow w13.heap.size 37 1 av avs.length avs) := owns_fr AO16.out f18 fun g hg => NB17.out g (owns_base AO16.out hg)
            have AD18 : Hid (Bods w17 w13.heap.size avs R) := AD16.out.fr f18 fun i v g hv hg => by
              obtain ⟨x, _, ho⟩ := AD16.out.at_ hv
              exact NB17.out g (owns_base ho hg)
            have NB18 : Hid (∀ b, w13.heap.size ≤ b → b < w16.heap.size → ¬ N18 b) := fun b hb hl => n18 b hl (NB17.out b hb)
            have z0 := hp18.blk.cell 0
            simp at z0
            have RO : Hid (Calls Try.prog 26 #[.pointer (some ⟨sb, 0, none⟩)] w17 (OpenTo w17 w.heap.size N18 sb s4)) := open_any hp18.sp (by
              have h1 := hp18.sp.1.2.1
              have h2 : s3.room = 60000 := by rw [HS3.out]; exact (open_room s2).trans E4.out
              rw [RM3.out, h2] at h1; omega)
            clear h17 hp18 f18 n18 x0 CR PC16
            go_wp2_with fail
            refine RO.out.mono ?_
            intro e w19 ho
            rcases ho with ⟨_, td, N19, rfl, k19, n19, f19⟩ | ⟨hne, _⟩
            case inr => exact absurd O41.out hne
            rw [HR4.out] at k19
            have K19 := Lib.hid k19
            have AO19 : Hid (w19.ownsRow w13.heap.size 37 1 av avs.length avs) := owns_fr AO18.out f19 fun g hg => NB18.out g (owns_base AO18.out hg) (owns_lt AO16.out hg)
            have AD19 : Hid (Bods w19 w13.heap.size avs R) := AD18.out.fr f19 fun i v g hv hg => by
              obtain ⟨x, _, ho⟩ := AD16.out.at_ hv
              exact NB18.out g (owns_base ho hg) (owns_lt ho hg)
            have B19 : Hid (Below w.heap.size w w19) := PC18.out.below.trans (PC18.out.sp.below f19)
            clear k19 n19 f19 z0 RO
            go_wp2_with fail
            refine (records_any K19.out).mono ?_; rintro e w20 ⟨cv, cs', rfl, hco, hcd, hcb⟩
            dsimp only at hcd
            have SM : Hid (Calls Try.prog 14 #[cv, av] w20 fun e w' => e = .returned (.bool true) ∧ ∃ n, w' = w20.drewN n) := by
              have := sameLists_any (RdL.of_bods hco hcd) ((RdL.of_bods AO19.out AD19.out).kept hcb)
              rw [beq_self_eq_true] at this; exact this
            have B20 : Hid (Below w.heap.size w w20) := B19.out.trans (hcb.mono B19.out.size)
            clear hco hcd hcb
            go_wp2_with fail
            refine SM.out.mono ?_; rintro e w21 ⟨rfl, n5, hw21⟩
            have B21 : Hid (Below w.heap.size w w21) := by rw [hw21]; exact B20.out.trans ((below_drewn _ _).mono B20.out.size)
            clear hw21
            go_wp2_with fail
            refine (known19_any _).mono ?_; rintro e w22 ⟨rfl, hb22⟩
            go_wp2_with fail
            go_returns
            exact ⟨rfl, B21.out.trans (hb22.mono B21.out.size)⟩


set_option maxRecDepth 100000 in
theorem lifted (os : Os) (started : os.Started) (H : Type) (enc : TypeId × Value → H) :
    ReturnsInHanded {} Try.checked os 4 .any (Rows.tapeSafeSpec.pre6 enc Try.prog Try.f4 Rows.tapeSafeRow.domain false) (Rows.tapeSafeSpec.post enc Try.prog Try.f4 false true false false) := by
  refine returnsInHanded_of_change (C := Try.checked) own started (by kernel_rfl) Try.func4
    (ChangeSpec.witness6 (enc := enc) (C := Try.checked) false ⟨#[], #[.slice none 0 0, .int .i64 0, .int .i64 0], []⟩ 8 (by kernel_rfl) (by kernel_rfl) (by kernel_rfl) (by kernel_rfl)) ?_
  intro W base args ds gs before hval0 hW _ _
  have hval : ∀ (j : Nat) t v, Try.f4.params[j]? = some t → args[j]? = some v → Value.okWide Try.prog W .any base t v := hval0
  have hW' := hW
  obtain ⟨p, q, hA0, hV, rfl, hfz, hnd⟩ := hW
  have hA : DataW.TrodAll enc Try.prog W 0 (fun _ => true) true Try.f4.params.toList args.toList ds p := hA0
  rw [Try.params4] at hA hval
  obtain ⟨v0, vs0, d0, ds0, p0, q0, hargs, rfl, rfl, h0, r0⟩ := trodAll_cons hA
  obtain ⟨v1, vs1, d1, ds1, p1, q1, rfl, rfl, rfl, h1, r1⟩ := trodAll_cons r0
  obtain ⟨v2, vs2, d2, ds2, p2, q2, rfl, rfl, rfl, h2, r2⟩ := trodAll_cons r1
  obtain ⟨rfl, rfl, rfl⟩ := trodAll_nil r2
  obtain rfl : args = #[v0, v1, v2] := by cases args; simp_all
  obtain ⟨l, w0⟩ := open_reader (reader_slice (size := 1) Try.underlying38 (by kernel_rfl) (by decide) (reader_bytes Try.underlying37 Try.underlying5 (by kernel_rfl))) h0 (okWide_slice Try.underlying38 (hval 0 38 v0 rfl rfl))
  obtain ⟨after, rfl, rfl, rfl, w1⟩ := open_int Try.underlying3 (hval 1 3 v1 rfl rfl) h1
  obtain ⟨keep, rfl, rfl, rfl, w2⟩ := open_int Try.underlying3 (hval 2 3 v2 rfl rfl) h2
  clear hA0 hval0
  refine (walk v0 l after keep W w0 w1 w2).mono fun e W' ⟨he, hb⟩ => ?_
  subst he
  exact ⟨_, rfl, law_post (by kernel_rfl) (by kernel_rfl) rfl Try.underlying4 rfl hW' rfl hb⟩

theorem over : Rows.tapeSafeRow.holds Try.pinned (OpenSpec.ofChange Rows.tapeSafeSpec) :=
  OpenClaim.holds_of_wide 4 Try.f4 rfl rfl rfl rfl rfl rfl rfl ⟨rfl, rfl, rfl, rfl, rfl⟩ rfl rfl rfl rfl rfl (by kernel_rfl) Try.func4 (by kernel_rfl)
    (of_decide_eq_true (by kernel_rfl)) (by unfold Func.isWrapper; first | (rw [if_pos (by decide +kernel)]; kernel_rfl) | (rw [if_neg (by decide +kernel)]; exact ⟨rfl, rfl⟩))
    (fun os started H enc _ => lifted os started H enc)

theorem proved : Rows.TapeSafeSaid :=
  over
#print axioms proved
end Go.Proofs.Ytgohnidndjbjiaa.tapeSafe
