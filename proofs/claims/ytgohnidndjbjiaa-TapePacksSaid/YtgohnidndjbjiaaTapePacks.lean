/-
  TapePacks: packed, there are just the records that were handed in, and what is added then stands behind them, whatever the records: so the law returns true for every input.
-/
import Derived.Test.YtgohnidndjbjiaaTapeS
import Derived.Test.YtgohnidndjbjiaaOpen
import Derived.Test.YtgohnidndjbjiaaRows
import Derived.Test.YtgohnidndjbjiaaArgs2
namespace Go.Proofs.Ytgohnidndjbjiaa.tapePacks
open Go.ChangeShapes Go.WideShapes Go.ChangeAt Go.RowKit
set_option linter.unusedVariables false

theorem own : ownKnob Try.prog.godebug = none := by kernel_rfl

open Go.Lib
/-- The sizes, one by one. -/
def S1 (a : List (List UInt8)) (n0 : Nat) (nv iv : Value) : Prop := ∃ k n : Nat, k ≤ a.length ∧ n0 ≤ n ∧ n ≤ n0 + 60020 ∧ (n0 ≤ 20000 → n ≤ 60000) ∧ nv = .int .i64 n ∧ iv = .int .i64 k
def S2 (b : List (List UInt8)) (n1 : Nat) (nv iv : Value) : Prop := ∃ k n : Nat, k ≤ b.length ∧ n = n1 + szL (b.take k) ∧ (n1 ≤ 20000 → n ≤ 60000) ∧ (20000 < n1 → k = 0) ∧ nv = .int .i64 n ∧ iv = .int .i64 k
/-- The first records, one by one. -/
def A3 (w : World) (a : List (List UInt8)) (pb sb tb mb rb : Nat) (iv : Value) (wr : World) : Prop :=
  ∃ (k : Nat) (t : TS) (N M : Nat → Prop), k ≤ a.length ∧ iv = .int .i64 k ∧ PO w pb sb tb mb rb N M t (t00 60000) wr ∧ GoodT t
set_option maxRecDepth 100000 in
set_option maxHeartbeats 2000000 in
theorem walk (va : Value) (a : List (List UInt8)) (vb : Value) (b : List (List UInt8)) (vr : Value) (r : List UInt8) (w : World) (ha : RowOf w 1 (fun cs (xs : List UInt8) => ∃ v, cs = [v] ∧ Rd w (· < w.heap.size) v (bts xs)) va a) (hb : RowOf w 1 (fun cs (xs : List UInt8) => ∃ v, cs = [v] ∧ Rd w (· < w.heap.size) v (bts xs)) vb b) (hr : Rd w (· < w.heap.size) vr (bts r)) :
    Calls Try.prog 5 #[va, vb, vr] w fun e w' => e = .returned (.bool true) ∧ Below w.heap.size w w' := by
  obtain ⟨i0, hi, hz0, hz1, hz2⟩ := info_parts Try.infoL
  have HA := Lib.hid (RdK.of_row ha)
  have HB := Lib.hid (RdK.of_row hb)
  have HR := Lib.hid hr
  obtain ⟨A, ca, rfl, ha1, ha2⟩ := HA.out.form
  obtain ⟨B, cb, rfl, hb1, hb2⟩ := HB.out.form
  obtain ⟨C, cr, rfl, hr2⟩ := rd_form hr
  obtain ⟨n0, hn0⟩ : ∃ n0, n0 = r.length := ⟨_, rfl⟩
  have HN0 := Lib.hid hn0
  unfold maxLen at ha2 hb2 hr2
  have HOp : Hid (∀ w', Below w.heap.size w w' → Calls Try.prog 10 #[.int .i64 60000] w fun e w' => ∃ pb sb tb mb rb N M, e = .returned (.pointer (some ⟨pb, 0, none⟩)) ∧ PO w pb sb tb mb rb N M (t00 60000) (t00 60000) w') := fun _ _ => opened_any 60000 w (by decide) (by decide)
  rw [← hn0] at HR hr2 ⊢
  clear ha hb hr hn0
  go_enter Try.func5, Try.ntmps5
  go_upto_block 0 with fail
  go_cut [7] (fun p wx => ∃ n1 : Nat, n0 ≤ n1 ∧ (n0 ≤ 20000 → n1 ≤ 60000) ∧ p = .int .i64 n1 ∧ Hid (w = wx))
  case first =>
    go_wp2_with fail
    go_loop [7, 8] (S1 a n0) (fun _ i => a.length - (RowKit.intOf i).toNat)
    case atStart => exact ⟨0, n0, Nat.zero_le _, Nat.le_refl _, by omega, by omega, rfl, rfl⟩
    case round =>
      obtain ⟨k, n, hk, hn1, hn2, hn3, rfl, rfl⟩ := hrel
      by_cases hlt : k < a.length ∧ n ≤ 20000
      · obtain ⟨hlt1, hlt2⟩ := hlt
        have t1 : decide (k < a.length) = true := decide_eq_true hlt1
        have t1' : (k : Int) < a.length := by omega
        have t2 : decide ((n : Int) ≤ 20000) = true := decide_eq_true (by omega)
        obtain ⟨b1, o1, u1, rfl, _, _, cu, hu⟩ := HA.out.at_ hlt1
        obtain ⟨B1, d1, rfl, _⟩ := rd_form hu
        obtain ⟨m, hm⟩ : ∃ m, m = (a[k]).length := ⟨_, rfl⟩
        rw [← hm] at cu
        obtain ⟨q, hq, hq2⟩ : ∃ q : Nat, min (m : Int) 30000 = (q : Int) ∧ q ≤ 30000 := ⟨min m 30000, by omega, by omega⟩
        clear hu hm
        go_wp2_with fail
        go_round
        case rel => exact ⟨k + 1, n + 10 + q, hlt1, by omega, by omega, by omega, by go_num, by go_num⟩
        case measure => simp [RowKit.intOf]; omega
      · by_cases h1 : k < a.length
        · have t1 : decide (k < a.length) = true := decide_eq_true h1
          have t1' : (k : Int) < a.length := by omega
          have t2 : decide ((n : Int) ≤ 20000) = false := decide_eq_false (by omega)
          go_wp2_with fail
          go_meet
          exact ⟨n, hn1, hn3, rfl, rfl⟩
        · have t1 : decide (k < a.length) = false := decide_eq_false h1
          go_wp2_with fail
          go_meet
          exact ⟨n, hn1, hn3, rfl, rfl⟩
  case rest =>
    obtain ⟨n1, hn1, hn3, rfl, hw⟩ := hcut
    obtain rfl := hw.out
    go_upto_block 2 with fail
    go_cut [7] (fun p wx => ∃ n2 : Nat, n1 ≤ n2 ∧ (n2 ≤ 20000 → n2 = n1 + szL b) ∧ p = .int .i64 n2 ∧ Hid (w = wx))
    case first =>
      go_wp2_with fail
      go_loop [7, 9] (S2 b n1) (fun _ i => b.length - (RowKit.intOf i).toNat)
      case atStart => exact ⟨0, n1, Nat.zero_le _, by simp [szL], by omega, fun _ => rfl, rfl, rfl⟩
      case round =>
        obtain ⟨k, n, hk, hn2, hn4, hn5, rfl, rfl⟩ := hrel
        by_cases hlt : k < b.length ∧ n ≤ 20000
        · obtain ⟨hlt1, hlt2⟩ := hlt
          have t1 : decide (k < b.length) = true := decide_eq_true hlt1
          have t1' : (k : Int) < b.length := by omega
          have t2 : decide ((n : Int) ≤ 20000) = true := decide_eq_true (by omega)
          obtain ⟨b1, o1, u1, rfl, _, _, cu, hu⟩ := HB.out.at_ hlt1
          obtain ⟨B1, d1, rfl, _⟩ := rd_form hu
          have hsz := szL_take hlt1
          obtain ⟨m, hm⟩ : ∃ m, m = (b[k]).length := ⟨_, rfl⟩
          rw [← hm] at cu hsz
          obtain ⟨q, hq, hq2, hq3⟩ : ∃ q : Nat, min (m : Int) 30000 = (q : Int) ∧ q ≤ 30000 ∧ min m 30000 = q := ⟨min m 30000, by omega, by omega, rfl⟩
          rw [hq3] at hsz
          have HSZ : Hid (n + 10 + q = n1 + szL (b.take (k + 1))) := by unfold Hid; rw [hsz, hn2]; omega
          have hn6 : n1 ≤ 20000 := by omega
          clear hu hm hsz hq3 hn2
          go_wp2_with fail
          go_round
          case rel => exact ⟨k + 1, n + 10 + q, hlt1, HSZ.out, by omega, by omega, by go_num, by go_num⟩
          case measure => simp [RowKit.intOf]; omega
        · have HN2 := Lib.hid hn2
          have hle : n1 ≤ n := by omega
          have hfin : Hid (n ≤ 20000 → n = n1 + szL b) := fun h => by
            have e : b.take k = b := List.take_of_length_le (by omega)
            have := HN2.out; rw [e] at this; exact this
          clear hn2
          by_cases h1 : k < b.length
          · have t1 : decide (k < b.length) = true := decide_eq_true h1
            have t1' : (k : Int) < b.length := by omega
            have t2 : decide ((n : Int) ≤ 20000) = false := decide_eq_false (by omega)
            go_wp2_with fail
            go_meet
            exact ⟨n, hle, hfin.out, rfl, rfl⟩
          · have t1 : decide (k < b.length) = false := decide_eq_false h1
            go_wp2_with fail
            go_meet
            exact ⟨n, hle, hfin.out, rfl, rfl⟩
    case rest =>
      obtain ⟨n2, hn2, hn4, rfl, hw⟩ := hcut
      obtain rfl := hw.out
      have HF := Lib.hid hn4
      clear hn4
      go_wp2_with fail
      refine (opened_any 60000 w (by decide) (by decide)).mono ?_; rintro e w1 ⟨pb, sb, tb, mb, rb, N1, M1, rfl, hp1⟩
      have P1 := Lib.hid hp1
      have y1 := hp1.blk.cell 1
      simp at y1
      clear hp1
      by_cases hbig : 20000 < n2
      · have t1 : decide ((n2 : Int) > 20000) = true := decide_eq_true (by omega)
        go_wp2_with fail
        refine (known19_any _).mono ?_; rintro e w2 ⟨rfl, hb2⟩
        go_wp2_with fail
        go_returns
        exact ⟨rfl, P1.out.below.trans (hb2.mono P1.out.below.size)⟩
      · have t1 : decide ((n2 : Int) > 20000) = false := decide_eq_false (by omega)
        have hfin := HF.out (by omega)
        obtain ⟨hz1', hz2'⟩ := szL_bd b (by omega)
        have hn020 : n0 ≤ 20000 := by omega
        have HZ : Hid (endL b + n0 ≤ 20000) := by unfold Hid; omega
        have hbl : b.length ≤ 2000 := by omega
        clear hfin hz1' hz2' HF hbig hn1 hn3 hn2
        go_wp2_with fail
        go_loopw [11] (A3 w a pb sb tb mb rb) (fun i _ => a.length - (RowKit.intOf i).toNat)
        case atStart => exact ⟨0, t00 60000, N1, M1, Nat.zero_le _, rfl, P1.out, ⟨rfl, rfl, by show (-1 : Int) < 0; decide, rfl⟩⟩
        case round =>
          obtain ⟨k, t, N, M, hk, rfl, hp, hg⟩ := hrel
          have P := Lib.hid hp
          have G := Lib.hid hg
          have x1 := hp.blk.cell 1
          simp at x1
          clear hp hg y1 t1
          by_cases hlt : k < a.length
          · have t1 : decide (k < a.length) = true := decide_eq_true hlt
            have t1' : (k : Int) < a.length := by omega
            obtain ⟨b1, o1, u1, rfl, _, hbb, cu, hu⟩ := (HA.out.kept (P.out.below)).at_ hlt
            generalize a[k] = x at *
            obtain ⟨B1, d1, rfl, _⟩ := rd_form hu
            obtain ⟨t', e', hadd⟩ : ∃ t' e', addT t x = (t', e') := ⟨_, _, rfl⟩
            have G' : Hid (GoodT t') := by have := G.out.add x; rw [hadd] at this; exact this
            have PD : Hid (PO w pb sb tb mb rb N M t (t00 60000) wr.drew) := P.out.kept (Below.refl _ _).drew
            have AD : Hid (Calls Try.prog 20 #[.pointer (some ⟨tb, 0, none⟩), .slice B1 x.length d1] wr.drew fun e w' => e = .returned (.int .i64 e') ∧ TkTo wr.drew w.heap.size N sb tb t' w') :=
              tAdd_at hadd PD.out.tk (hu.kept (Below.refl _ _).drew) (fun b hb h => by have := (PD.out.tk.lt b h).1; omega)
            clear hadd hu
            go_wp2_with fail
            go_still_tail 8, (by kernel_rfl)
            change wpList _ _ _ _ _ wr.drew
            generalize wr.drew = W at *
            clear P x1 cu hbb
            go_wp2_with fail
            refine AD.out.mono ?_; rintro e w4 ⟨rfl, h4⟩
            obtain ⟨N4, hp4, _, _⟩ := PD.out.toT h4
            have P4 := Lib.hid hp4
            clear h4 hp4 AD PD
            go_wp2_with fail
            go_roundw
            case rel => exact ⟨k + 1, t', N4, M, hlt, by go_num, P4.out, G'.out⟩
            case measure => simp [RowKit.intOf]; omega
          · have t1 : decide (k < a.length) = false := decide_eq_false hlt
            have tr : decide ((n0 : Int) > 8000) = decide (8000 < n0) := by
              by_cases h : 8000 < n0
              · rw [decide_eq_true h]; exact decide_eq_true (by omega)
              · rw [decide_eq_false h]; exact decide_eq_false (by omega)
            go_wp2_with fail
            refine (records_any P.out.tk).mono ?_; rintro e w2 ⟨wv, ws, rfl, hwo, hwd, hwb⟩
            have WO := Lib.hid hwo
            have WD := Lib.hid hwd
            have P2 := Lib.hid (P.out.kept hwb)
            have SZ2 : Hid (wr.heap.size ≤ w2.heap.size) := hwb.size
            clear hwo hwd hwb x1
            go_wp2_with fail
            go_loop [13, 14] (fun f i => ∃ (j : Nat) (F : Bool), j ≤ b.length ∧ f = .bool F ∧ i = .int .i64 j ∧ Hid (F = (decide (8000 < n0) || longL (b.take j)))) (fun _ i => b.length - (RowKit.intOf i).toNat)
            case atStart => exact ⟨0, _, Nat.zero_le _, rfl, rfl, by unfold Hid longL; simp⟩
            case round =>
              obtain ⟨j, F, hj, rfl, rfl, hF⟩ := hrel
              clear tr
              by_cases hlt : j < b.length
              · have t3 : decide (j < b.length) = true := decide_eq_true hlt
                have t3' : (j : Int) < b.length := by omega
                obtain ⟨b1, o1, u1, rfl, _, hbb, cu, hu⟩ := (HB.out.kept P2.out.below).at_ hlt
                obtain ⟨B1, d1, rfl, _⟩ := rd_form hu
                have hsn := longL_snoc hlt
                obtain ⟨m, hm⟩ : ∃ m, m = (b[j]).length := ⟨_, rfl⟩
                rw [← hm] at cu hsn
                have t4 : decide ((m : Int) > 8000) = decide (8000 < m) := by
                  by_cases h : 8000 < m
                  · rw [decide_eq_true h]; exact decide_eq_true (by omega)
                  · rw [decide_eq_false h]; exact decide_eq_false (by omega)
                have HF2 : Hid ((F || decide (8000 < m)) = (decide (8000 < n0) || longL (b.take (j + 1)))) := by unfold Hid; rw [hF.out, hsn, Bool.or_assoc]
                clear hu hm hsn hF
                cases F with
                | true =>
                  go_wp2_with fail
                  go_round
                  case rel => exact ⟨j + 1, true, hlt, rfl, by go_num, HF2.out⟩
                  case measure => simp [RowKit.intOf]; omega
                | false =>
                  go_wp2_with fail
                  go_round
                  case rel => exact ⟨j + 1, decide (8000 < m), hlt, rfl, by go_num, HF2.out⟩
                  case measure => simp [RowKit.intOf]; omega
              · have t3 : decide (j < b.length) = false := decide_eq_false hlt
                have HF : Hid (F = (decide (8000 < n0) || longL b)) := by
                  have e : b.take j = b := List.take_of_length_le (by omega)
                  have := hF.out; rw [e] at this; exact this
                have x1 := P2.out.blk.cell 1
                simp at x1
                obtain ⟨t', e', hpk⟩ : ∃ t' e', packT t b = (t', e') := ⟨_, _, rfl⟩
                have PK : Hid (Calls Try.prog 27 #[.pointer (some ⟨tb, 0, none⟩), .slice B b.length cb] w2 fun e w' => e = .returned (.int .i64 e') ∧ TkTo w2 w.heap.size N sb tb t' w') := by
                  have := tapePack_any P2.out.tk (HB.out.kept P2.out.below) (fun b hb h => by have := (P2.out.tk.lt b h).1; omega) (fun b hb => Nat.lt_of_lt_of_le hb P2.out.below.size) (by omega)
                  rw [hpk] at this; exact this
                have HPK := Lib.hid hpk
                clear hF hpk hlt hj
                go_wp2_with fail
                refine PK.out.mono ?_; rintro e w4 ⟨rfl, h4⟩
                obtain ⟨N4, hp4, f4, n4⟩ := P2.out.toT h4
                have P4 := Lib.hid hp4
                have F4 := Lib.hid f4
                have x4 := hp4.blk.cell 1
                simp at x4
                have NW : Hid (∀ b, wr.heap.size ≤ b → ¬ N b) := fun b hb h => by have := (P.out.tk.lt b h).2; omega
                have WO4 : Hid (w4.ownsRow wr.heap.size 37 1 wv ws.length ws) := owns_fr WO.out f4 fun g hg => NW.out g (owns_base WO.out hg)
                have WD4 : Hid (Bods w4 wr.heap.size ws t.l) := WD.out.fr f4 fun i v g hv hg => by
                  obtain ⟨x, _, ho⟩ := WD.out.at_ hv
                  exact NW.out g (owns_base ho hg)
                clear h4 hp4 f4 n4 x1 PK t3
                cases F with
                | true =>
                  cases hLb : longL b with
                  | true =>
                    have e : (t', e') = (t, 3) := by rw [← HPK.out]; unfold packT; rw [G.out.lost, hLb]; rfl
                    obtain ⟨rfl, rfl⟩ : t' = t ∧ e' = 3 := by injection e with h1 h2; exact ⟨h1, h2⟩
                    clear e hLb
                    go_wp2_with fail
                    refine (records_any P4.out.tk).mono ?_; rintro e w5 ⟨cv, cs, rfl, hco, hcd, hcb⟩
                    have SM : Hid (Calls Try.prog 14 #[cv, wv] w5 fun e w' => e = .returned (.bool true) ∧ ∃ n, w' = w5.drewN n) := by
                      have := sameLists_any (RdL.of_bods hco hcd) ((RdL.of_bods WO4.out WD4.out).kept hcb)
                      rw [beq_self_eq_true] at this; exact this
                    have B5 : Hid (Below w.heap.size w w5) := P4.out.below.trans (hcb.mono P4.out.below.size)
                    clear hco hcd hcb
                    go_wp2_with fail
                    refine SM.out.mono ?_; rintro e w6 ⟨rfl, n6, hw6⟩
                    have B6 : Hid (Below w.heap.size w w6) := by rw [hw6]; exact B5.out.trans ((below_drewn _ _).mono B5.out.size)
                    clear hw6
                    go_wp2_with fail
                    refine (known19_any _).mono ?_; rintro e w7 ⟨rfl, hb7⟩
                    go_wp2_with fail
                    go_returns
                    exact ⟨rfl, B6.out.trans (hb7.mono B6.out.size)⟩
                  | false =>
                    have hfit := pack_fit G.out b hLb (by have := HZ.out; omega)
                    rw [HPK.out] at hfit
                    have e0 : e' = 0 := by injection hfit
                    subst e0
                    clear hfit hLb
                    go_wp2_with fail
                    refine (known19_any _).mono ?_; rintro e w7 ⟨rfl, hb7⟩
                    go_wp2_with fail
                    go_returns
                    exact ⟨rfl, P4.out.below.trans (hb7.mono P4.out.below.size)⟩
                | false =>
                  obtain ⟨hn8, hLb⟩ : n0 ≤ 8000 ∧ longL b = false := by
                    have := HF.out
                    rw [eq_comm, Bool.or_eq_false_iff] at this
                    exact ⟨by have := this.1; simpa using this, this.2⟩
                  have hshort := short_of hLb
                  have hfit := pack_fit G.out b hLb (by have := HZ.out; omega)
                  rw [HPK.out] at hfit
                  obtain ⟨lf, hlf⟩ : ∃ lf, lf = t.s.left := ⟨_, rfl⟩
                  have hlf0 : lf < 0 := by rw [hlf]; exact G.out.left
                  rw [← hlf] at hfit
                  obtain ⟨rfl, rfl⟩ : t' = ⟨⟨60000, flatB b, endL b, lf, false⟩, b, false⟩ ∧ e' = 0 := by injection hfit with h1 h2; exact ⟨h1, h2⟩
                  have HADD : Hid (addT ⟨⟨60000, flatB b, endL b, lf, false⟩, b, false⟩ r = (⟨⟨60000, flatB b ++ putB r, (flatB b).length + (r.length + 7), lf, false⟩, b ++ [r], false⟩, 0)) := by
                    have h1 := HN0.out; have h2 := HZ.out
                    exact addT_ok _ _ rfl (by omega) rfl hlf0 (by dsimp only; rw [flatB_len]; omega)
                  have HFL : Hid (flatB b ++ putB r = flatB (b ++ [r])) := by unfold Hid; rw [flatB_snoc]
                  have HSH : Hid (∀ x ∈ b ++ [r], x.length ≤ 8000) := fun x hx => by
                    rcases List.mem_append.1 hx with h | h
                    · exact hshort x h
                    · rw [List.mem_singleton.1 h, ← HN0.out]; exact hn8
                  clear hfit hLb hshort hlf hn8 HF HPK
                  go_wp2_with fail
                  refine (records_any P4.out.tk).mono ?_; rintro e w5 ⟨cv, cs, rfl, hco, hcd, hcb⟩
                  dsimp only at hcd
                  have B45 : Hid (Below w.heap.size w w5) := P4.out.below.trans (hcb.mono P4.out.below.size)
                  have SM : Hid (Calls Try.prog 14 #[cv, .slice B b.length cb] w5 fun e w' => e = .returned (.bool true) ∧ ∃ n, w' = w5.drewN n) := by
                    have := sameLists_any (RdL.of_bods hco hcd) (HB.out.kept B45.out).rdl
                    rw [beq_self_eq_true] at this; exact this
                  have P5 := Lib.hid (P4.out.kept hcb)
                  clear hco hcd hcb
                  go_wp2_with fail
                  refine SM.out.mono ?_; rintro e w6 ⟨rfl, n6, hw6⟩
                  have P6 : Hid (PO w pb sb tb mb rb N4 M ⟨⟨60000, flatB b, endL b, lf, false⟩, b, false⟩ (t00 60000) w6) := by rw [hw6]; exact P5.out.kept (below_drewn _ _)
                  have x6 := P6.out.blk.cell 1
                  simp at x6
                  clear hw6 x4 P5 SM P4
                  go_wp2_with fail
                  refine (tAdd_at HADD.out P6.out.tk (HR.out.kept P6.out.below) (fun b hb h => by have := (P6.out.tk.lt b h).1; omega)).mono ?_; rintro e w7 ⟨rfl, h7⟩
                  obtain ⟨N7, hp7, f7, _⟩ := P6.out.toT h7
                  obtain ⟨N8, M8, hpc, _, _⟩ := hp7.close2
                  have PC7 := Lib.hid hpc
                  have x0 := hpc.blk.cell 0
                  simp at x0
                  obtain ⟨s4, hs4⟩ : ∃ s4, crashS (⟨60000, flatB b ++ putB r, (flatB b).length + (r.length + 7), lf, false⟩ : St) 0 = s4 := ⟨_, rfl⟩
                  obtain ⟨q1, q2, q3⟩ := crash_still ⟨60000, flatB b ++ putB r, (flatB b).length + (r.length + 7), lf, false⟩ (by dsimp only; rw [List.length_append, putB_len])
                  rw [hs4] at q1 q2 q3
                  dsimp only at q1
                  obtain ⟨o1, o2, _⟩ := openS_ok s4 q2 q3
                  have O1 := Lib.hid o1
                  have HR4 : Hid (rowsB s4.xs = b ++ [r]) := by
                    unfold Hid
                    have := rows_flat (b ++ [r]) [] HSH.out
                    rw [List.append_nil, rowsB_no isB_nil, List.append_nil] at this
                    rw [q1, HFL.out, this]
                  have CR : Hid (Calls Try.prog 22 #[.pointer (some ⟨sb, 0, none⟩), .int .i64 0] w7 fun e w' => e = .returned (.tuple #[]) ∧ SpTo w7 w.heap.size N8 sb s4 w') := crash_at hs4 hpc.sp
                  have RM4 : Hid (s4.room = 60000) := by unfold Hid; rw [← hs4]; rfl
                  clear h7 hp7 f7 hpc hs4 q1 q2 q3 o1 o2 x6 P6
                  go_wp2_with fail
                  refine CR.out.mono ?_; rintro e w9 ⟨rfl, h9⟩
                  obtain ⟨N9, hp9, _, _⟩ := PC7.out.toS h9
                  have PC9 := Lib.hid hp9
                  have z0 := hp9.blk.cell 0
                  simp at z0
                  have RO : Hid (Calls Try.prog 26 #[.pointer (some ⟨sb, 0, none⟩)] w9 (OpenTo w9 w.heap.size N9 sb s4)) := open_any hp9.sp (by
                    have h1 := hp9.sp.1.2.1
                    rw [RM4.out] at h1; omega)
                  clear h9 hp9 x0 CR PC7
                  go_wp2_with fail
                  refine RO.out.mono ?_
                  intro e w10 ho
                  rcases ho with ⟨_, td, N10, rfl, k10, n10, f10⟩ | ⟨hne, _⟩
                  case inr => exact absurd O1.out hne
                  rw [HR4.out] at k10
                  have K10 := Lib.hid k10
                  have B10 : Hid (Below w.heap.size w w10) := PC9.out.below.trans (PC9.out.sp.below f10)
                  obtain ⟨gs, hgl, hgr, hge⟩ := HB.out.kept B10.out
                  have HG := Lib.hid hgl
                  have HGE : Hid (∀ (i : Nat) (u : Value) (x : List UInt8), gs[i]? = some u → b[i]? = some x → Rd w10 (· < w.heap.size) u (bts x)) := hge
                  have SR : Hid (Src w10 1 (.slice B b.length cb) b.length gs) := by
                    have := rd_src hgr
                    rw [hgl] at this; exact this
                  clear k10 n10 f10 z0 RO hgl hgr hge
                  go_wp2_with (at_builtin; refine wpList_app rfl _ _ 38 rfl w10.heap.size 37 i0 _ 1 24 Try.underlying38 hi hz0 hz1 hz2 rfl (by decide) _ 0 _ rfl (World.ownsRow_nil _ _ _ _) _ b.length gs rfl SR.out (Sure.one HG.out HGE.out) (by unfold maxLen; omega) (by omega) (Nat.le_refl _) ?_)
                  intro v8 w8 ho8 hg8 _
                  have B8 : Hid (Below w10.heap.size w10 w8) := (Below.refl _ w10).grown hg8 (Nat.le_refl _) fun k hk => by cases hk
                  have O8 := Lib.hid ho8
                  obtain ⟨A8, c8, rfl⟩ := owned_slice ho8
                  clear ho8 hg8 SR
                  go_wp2_with (at_builtin; refine wpList_append_own_at _ rfl _ _ 38 rfl w10.heap.size 37 i0 _ 1 24 Try.underlying38 hi hz0 hz1 hz2 rfl (by decide) _ b.length gs rfl ?q6 ⟨w8.heap.size, 0, none⟩ 1 1 [.slice C n0 cr] rfl rfl ?q1 ?q0 ?q2 ?q3 ?q4 ?_)
                  case q6 => exact owns_alloc O8.out _
                  case q1 => exact news_alloc w8 [.slice C n0 cr] 37
                  case q0 => exact one_slice _ _ _
                  case q2 => unfold maxLen; omega
                  case q3 => omega
                  case q4 => have h1 := B8.out.size; simp; omega
                  intro v9 w11 ho9 hg9 _ hb9
                  have h10 : w.heap.size ≤ w10.heap.size := B10.out.size
                  have S9 : Hid (Sure w w11 w11.heap.size (fun _ => False) (fun _ => False) v9 (b ++ [r])) := by
                    have hR8 : Rd w8 (· < w.heap.size) (.slice C n0 cr) (bts r) := (HR.out.kept B10.out).kept B8.out
                    have := sure_push (pb := 0) (N := fun _ => False) (M := fun _ => False) HG.out (fun i u x hu hx => (HGE.out i u x hu hx).kept B8.out) (fun g hg => ⟨fun h => h, fun h => h, fun e => by have := owns_base O8.out hg; have := (K10.out.lt td K10.out.mem).2; omega⟩) hR8 (owns_mono ho9 h10) hg9 hb9 (fun g hg => by have := owns_base O8.out hg; omega) (fun _ h => h.elim) (fun _ h => h.elim) (by have := B8.out.size; have := PC9.out.blk.lt; have := B10.out.size; have := K10.out.lt td K10.out.mem; omega)
                    exact ⟨this.own, fun g hg => ⟨fun h => h, fun h => h, fun e => by obtain ⟨gs', _, ho, _⟩ := this.own; have := owns_lt ho hg; omega⟩⟩
                  have B11 : Hid (Below w10.heap.size w10 w11) := B8.out.trans ((((Fr.refl (fun b' => (Value.slice A8 b.length c8).ownBlock = some b') w8).alloc _).grown hg9 fun b h => .inl h).below B8.out.size fun b hb => owns_base O8.out hb)
                  have MR := Lib.hid S9.out.rdl
                  have K11 := Lib.hid (K10.out.kept B11.out)
                  clear ho9 hg9 hb9 HGE HG O8 S9
                  go_wp2_with fail
                  refine (records_any K11.out).mono ?_; rintro e w12 ⟨dv, ds, rfl, hdo, hdd, hdb⟩
                  dsimp only at hdd
                  have SM2 : Hid (Calls Try.prog 14 #[dv, v9] w12 fun e w' => e = .returned (.bool true) ∧ ∃ n, w' = w12.drewN n) := by
                    have := sameLists_any (RdL.of_bods hdo hdd) (MR.out.kept hdb)
                    rw [beq_self_eq_true] at this; exact this
                  have B12 : Hid (Below w.heap.size w w12) := (B10.out.trans (B11.out.mono B10.out.size)).trans (hdb.mono (Nat.le_trans B10.out.size B11.out.size))
                  have K12 := Lib.hid (K11.out.kept hdb)
                  clear hdo hdd hdb
                  go_wp2_with fail
                  refine SM2.out.mono ?_; rintro e w13 ⟨rfl, n7, hw13⟩
                  have B13 : Hid (Below w.heap.size w w13) := by rw [hw13]; exact B12.out.trans ((below_drewn _ _).mono B12.out.size)
                  have LN : Hid (Calls Try.prog 16 #[.pointer (some ⟨td, 0, none⟩)] w13 fun e w' => e = .returned (.int .i64 ((b.length : Int) + 1)) ∧ w' = w13) := by
                    have := tapeLen_any (K12.out.kept (w' := w13) (by rw [hw13]; exact below_drewn _ _))
                    dsimp only at this
                    rw [List.length_append, List.length_singleton] at this
                    exact this
                  clear hw13
                  go_wp2_with fail
                  refine LN.out.mono ?_; rintro e w13 ⟨rfl, rfl⟩
                  go_wp2_with fail
                  refine (known19_any _).mono ?_; rintro e w14 ⟨rfl, hb14⟩
                  go_wp2_with fail
                  go_returns
                  exact ⟨rfl, B13.out.trans (hb14.mono B13.out.size)⟩


set_option maxRecDepth 100000 in
theorem lifted (os : Os) (started : os.Started) (H : Type) (enc : TypeId × Value → H) :
    ReturnsInHanded {} Try.checked os 5 .any (Rows.tapePacksSpec.pre6 enc Try.prog Try.f5 Rows.tapePacksRow.domain false) (Rows.tapePacksSpec.post enc Try.prog Try.f5 false true false false) := by
  refine returnsInHanded_of_change (C := Try.checked) own started (by kernel_rfl) Try.func5
    (ChangeSpec.witness6 (enc := enc) (C := Try.checked) false ⟨#[], #[.slice none 0 0, .slice none 0 0, .slice none 0 0], []⟩ 8 (by kernel_rfl) (by kernel_rfl) (by kernel_rfl) (by kernel_rfl)) ?_
  intro W base args ds gs before hval0 hW _ _
  have hval : ∀ (j : Nat) t v, Try.f5.params[j]? = some t → args[j]? = some v → Value.okWide Try.prog W .any base t v := hval0
  have hW' := hW
  obtain ⟨p, q, hA0, hV, rfl, hfz, hnd⟩ := hW
  have hA : DataW.TrodAll enc Try.prog W 0 (fun _ => true) true Try.f5.params.toList args.toList ds p := hA0
  rw [Try.params5] at hA hval
  obtain ⟨v0, vs0, d0, ds0, p0, q0, hargs, rfl, rfl, h0, r0⟩ := trodAll_cons hA
  obtain ⟨v1, vs1, d1, ds1, p1, q1, rfl, rfl, rfl, h1, r1⟩ := trodAll_cons r0
  obtain ⟨v2, vs2, d2, ds2, p2, q2, rfl, rfl, rfl, h2, r2⟩ := trodAll_cons r1
  obtain ⟨rfl, rfl, rfl⟩ := trodAll_nil r2
  obtain rfl : args = #[v0, v1, v2] := by cases args; simp_all
  obtain ⟨a, w0⟩ := open_reader (reader_slice (size := 1) Try.underlying38 (by kernel_rfl) (by decide) (reader_bytes Try.underlying37 Try.underlying5 (by kernel_rfl))) h0 (okWide_slice Try.underlying38 (hval 0 38 v0 rfl rfl))
  obtain ⟨b, w1⟩ := open_reader (reader_slice (size := 1) Try.underlying38 (by kernel_rfl) (by decide) (reader_bytes Try.underlying37 Try.underlying5 (by kernel_rfl))) h1 (okWide_slice Try.underlying38 (hval 1 38 v1 rfl rfl))
  obtain ⟨r, w2⟩ := open_reader (reader_bytes Try.underlying37 Try.underlying5 (by kernel_rfl)) h2 (okWide_slice Try.underlying37 (hval 2 37 v2 rfl rfl))
  clear hA0 hval0
  refine (walk v0 a v1 b v2 r W w0 w1 w2).mono fun e W' ⟨he, hb⟩ => ?_
  subst he
  exact ⟨_, rfl, law_post (by kernel_rfl) (by kernel_rfl) rfl Try.underlying4 rfl hW' rfl hb⟩

theorem over : Rows.tapePacksRow.holds Try.pinned (OpenSpec.ofChange Rows.tapePacksSpec) :=
  OpenClaim.holds_of_wide 5 Try.f5 rfl rfl rfl rfl rfl rfl rfl ⟨rfl, rfl, rfl, rfl, rfl⟩ rfl rfl rfl rfl rfl (by kernel_rfl) Try.func5 (by kernel_rfl)
    (of_decide_eq_true (by kernel_rfl)) (by unfold Func.isWrapper; first | (rw [if_pos (by decide +kernel)]; kernel_rfl) | (rw [if_neg (by decide +kernel)]; exact ⟨rfl, rfl⟩))
    (fun os started H enc _ => lifted os started H enc)

theorem proved : Rows.TapePacksSaid :=
  over
#print axioms proved
end Go.Proofs.Ytgohnidndjbjiaa.tapePacks
