/-
  DependStays: while jobs go on, what a dependency says ready or never it says ever after: so the law returns true for every input, the listed tables of Go's library reading as the program's text lays them.
-/
import Derived.Test.YtpobghdiecfoaaaDoorDeW8
import Derived.Test.YtpobghdiecfoaaaDoorDeAr
import Derived.Test.YtpobghdiecfoaaaDoorLaw
import Derived.Test.YtpobghdiecfoaaaDoorDeSt
import Derived.Test.YtpobghdiecfoaaaDoorRows
import Derived.Test.YtpobghdiecfoaaaDoorArgs2
import Derived.Test.YtpobghdiecfoaaaDoorLaid
import Derived.Test.YtpobghdiecfoaaaDoorCards
import Derived.Test.YtpobghdiecfoaaaDoorTie
import Derived.MakeChecks
import Derived.SevenTiedAt
namespace Go.Proofs.YtpobghdiecfoaaaDoor.dependStays
open Go.ChangeShapes Go.WideShapes Go.ChangeAt Go.RowKit
set_option linter.unusedVariables false

theorem own : ownKnob Tryd.prog.godebug = none := by kernel_rfl

open Go Go.RowKit Go.Lib
set_option maxRecDepth 100000 in
set_option maxHeartbeats 8000000 in
theorem walk (any : Bool) (dv : Value) (dl : List NdM) (wv : Value) (wl : List Wh) (ov : Value) (on : List Int) (alone : Bool) (w : World) (hE : Env8 w) (hd : NRx w dv dl) (hw : WhArg w wv wl) (ho : IntsArg w .u8 ov on) :
    Calls Tryd.prog 7 #[.agg #[.bool any, dv], wv, ov, .bool alone] w fun e w' => e = .returned (.bool true) ∧ Below w.heap.size w w' := by
  have K : Hid (∀ w1, Below w.heap.size w w1 → Calls Tryd.prog 11 #[] w1 fun e w' => e = .returned (.bool true) ∧ Below w1.heap.size w1 w') := fun w1 hb => known8_any w1 (hE.next hb)
  have HD := Lib.hid hd
  have HW := Lib.hid hw
  have hos : ∃ oa oc, ov = .slice oa on.length oc := by
    rcases ho with ⟨rfl, a, c, rfl⟩ | ⟨b, off, c, rfl, _⟩
    · exact ⟨a, c, rfl⟩
    · exact ⟨_, c, rfl⟩
  obtain ⟨oa, oc, rfl⟩ := hos
  have HO : Hid (∀ i (h : i < on.length), ∃ (b off z : Nat), oa = some ⟨b, off, none⟩ ∧ z < 256 ∧ ∀ w', Below w.heap.size w w' → w'.cell? ⟨b, off + i, none⟩ = some (.int .u8 (z : Int))) := fun i h => by
    rcases ho with ⟨e, _⟩ | ⟨b, off, c, e, h0, _, hb, hc, hwf⟩
    · rw [e] at h; simp at h
    · injection e with e1 _ e3
      have hz := hwf (on[i]) (List.getElem_mem h)
      have hz2 : 0 ≤ on[i] ∧ on[i] ≤ 255 := by simpa [Lit.wf, IntKind.min, IntKind.max, IntKind.bits, IntKind.signed] using hz
      obtain ⟨z, hze⟩ := Int.eq_ofNat_of_zero_le hz2.1
      refine ⟨b, off, z, e1, by omega, fun w' hb' => ?_⟩
      have h2 := hc i h
      rw [List.getD_eq_getElem?_getD, List.getElem?_eq_getElem h] at h2
      simp only [Option.getD_some] at h2
      rw [hze] at h2
      exact cell_next hb' h2
  obtain ⟨da, dc, rfl⟩ := hd.row.slice
  obtain ⟨la, lc, rfl⟩ := hw.1.slice
  obtain ⟨LD, hLD⟩ : ∃ n, n = dl.length := ⟨_, rfl⟩
  obtain ⟨LW, hLW⟩ : ∃ n, n = wl.length := ⟨_, rfl⟩
  obtain ⟨LO, hLO⟩ : ∃ n, n = on.length := ⟨_, rfl⟩
  have HLE : Hid (LD = dl.length ∧ LW = wl.length ∧ LO = on.length) := ⟨hLD, hLW, hLO⟩
  rw [← hLD] at HD ⊢
  rw [← hLW] at HW ⊢
  rw [← hLO] at HO ⊢
  have MN : Hid (∀ w1, Below w.heap.size w w1 → Calls Tryd.prog 10 #[.agg #[.bool any, .slice da LD dc], .slice la LW lc] w1 fun e w' => ManyTo (dl.length + LW + lensOf dl) e ∧ Below w1.heap.size w1 w') := fun w1 hb => many_any any (.slice da LD dc) dl la LW lc w1 (HD.out.kept hb) (by rw [hLW]; exact HW.out.2.1)
  obtain ⟨g4, hg4⟩ : ∃ g, g = w.heap.size := ⟨_, rfl⟩
  obtain ⟨X, hX⟩ : ∃ X, X = w.alloc (.cells #[.bool any, .slice da LD dc] 24) := ⟨_, rfl⟩
  have HBX : Hid (Below w.heap.size w X) := by unfold Hid; rw [hX]; exact (Below.refl _ _).alloc (Nat.le_refl _) _
  have hbk : Blk X g4 #[.bool any, .slice da LD dc] 24 := by rw [hX, hg4]; exact Blk.new w _ _
  have x0 := hbk.cell 0
  have x1 := hbk.cell 1
  simp at x0 x1
  have HXX := Lib.hid hX
  have HG4 := Lib.hid hg4
  have HG4X : Hid (w.heap.size ≤ g4 ∧ g4 < X.heap.size) := ⟨Nat.le_of_eq hg4.symm, hbk.lt⟩
  clear hE hd hw ho hLD hLW hLO hX hg4 hbk
  go_enter Tryd.func7, Tryd.ntmps7
  go_upto_region 1 with fail
  rw [← HG4.out, ← HXX.out]
  go_wp2_with fail
  refine (MN.out X HBX.out).mono ?_; rintro e w1 ⟨⟨β, rfl, hβ⟩, b1⟩
  have HB1 := Lib.hid (below_next b1 HBX.out)
  have HX1 := Lib.hid b1
  have c0 := cell_next b1 x0
  have c1 := cell_next b1 x1
  have HBB := Lib.hid hβ
  clear b1 MN hβ
  cases β with
  | true =>
    go_wp2_with fail
    refine (K.out w1 HB1.out).mono ?_; rintro e w2 ⟨rfl, b2⟩
    have HB2 := below_next b2 HB1.out
    clear b2
    go_wp2_with fail
    go_returns
    exact ⟨rfl, HB2⟩
  | false =>
  have hsm := HBB.out rfl
  have HN : Hid (NRw w (.slice da LD dc) dl) := HD.out.few (by omega)
  have hLWb : LW ≤ 1000 := by omega
  have HLWE : Hid (LW = wl.length) := HLE.out.2.1
  have HLOE : Hid (LO = on.length) := HLE.out.2.2
  have HWR : Hid (RowG 2 whV w (.slice la LW lc) wl) := HW.out.1
  have CK := Lib.hid (check_any any (.slice da LD dc) dl w1 (HN.out.kept HB1.out))
  clear hsm HBB HD HW HLE
  by_cases hok : okD any (ndsOf dl)
  case neg =>
    have hc : chkD any (ndsOf dl) = 2 := if_neg hok
    rw [hc] at CK
    clear hc hok
    go_wp2_with fail
    refine CK.out.mono ?_; rintro e w2 ⟨rfl, b2⟩
    have HB2 := Lib.hid (below_next b2 HB1.out)
    clear b2 CK
    go_wp2_with fail
    refine (K.out w2 HB2.out).mono ?_; rintro e w3 ⟨rfl, b3⟩
    have HB3 := below_next b3 HB2.out
    clear b3
    go_wp2_with fail
    go_returns
    exact ⟨rfl, HB3⟩
  have hc : chkD any (ndsOf dl) = 0 := if_pos hok
  rw [hc] at CK
  have HOK := Lib.hid hok
  clear hc hok
  go_wp2_with fail
  refine CK.out.mono ?_; rintro e w2 ⟨rfl, b2⟩
  have HB2 := Lib.hid (below_next b2 HB1.out)
  have HX2 := Lib.hid (below_next b2 HX1.out)
  clear b2 CK c0 c1 HB1 HX1
  obtain ⟨i0, hi0, hz0, hz1, hz2⟩ := info_parts Tryd.infoWh
  have HI := Lib.hid (And.intro hi0 (And.intro hz0 (And.intro hz1 hz2)))
  clear hi0 hz0 hz1 hz2
  obtain ⟨BW, hBW⟩ : ∃ b, b = w2.heap.size := ⟨_, rfl⟩
  have HBW := Lib.hid hBW
  clear hBW
  go_wp2_with fail
  go_loopw [9, 10] (fun sv iv wr => ∃ i : Nat, iv = .int .i64 (i : Nat) ∧ i ≤ LW ∧ Hid (wr.ownsRow BW 54 2 sv i ((nowW (wl.take i)).flatMap whV)) ∧ Hid (Below w2.heap.size w2 wr)) (fun _ iv _ => LW - (RowKit.intOf iv).toNat)
  case atStart => exact ⟨0, rfl, Nat.zero_le _, ⟨rfl, .inl ⟨rfl, rfl⟩⟩, Below.refl _ _⟩
  case round =>
    obtain ⟨i, rfl, hi, HOW, HB⟩ := hrel
    by_cases hlt : i < LW
    · have d1 : decide ((i : Int) < (LW : Int)) = true := decide_eq_true (by omega)
      have d1' : decide (i < LW) = true := decide_eq_true hlt
      have hii : (i : Int) < (LW : Int) := by omega
      have hik : i < wl.length := by rw [← HLWE.out]; exact hlt
      obtain ⟨bb, off, e, hcc⟩ := RowG.at (HWR.out.kept (below_next HB.out HB2.out)) hik
      subst e
      have u0 := hcc wr (Below.refl _ _) 0 _ rfl
      have u1 := hcc wr (Below.refl _ _) 1 _ rfl
      have HTK := Lib.hid (nowW_take wl hik)
      obtain ⟨p, hp⟩ : ∃ p, p = wl[i] := ⟨_, rfl⟩
      rw [← hp] at u0 u1 HTK
      obtain ⟨j, h⟩ := p
      dsimp only at u0 u1 HTK
      simp only [Nat.add_zero] at u0
      have hm := modW_eq h
      have hml := modW_le h
      obtain ⟨M, hM⟩ : ∃ M, M = modW h := ⟨_, rfl⟩
      rw [← hM] at hm hml HTK
      clear hcc hp hM
      obtain ⟨sa, sc, rfl⟩ := own_slice HOW.out
      have HOd : wr.drew.ownsRow BW 54 2 (.slice sa i sc) i ((nowW (wl.take i)).flatMap whV) := HOW.out
      have hBWr : BW ≤ wr.heap.size := by rw [HBW.out]; exact HB.out.size
      have HEQ : Hid ((IntKind.i64.wrap (1 + IntKind.i64.wrap ((IntKind.u64.wrap h).tmod 4))) = (M : Int)) := by
        have e1 : IntKind.i64.wrap ((IntKind.u64.wrap h).tmod 4) = (IntKind.u64.wrap h).tmod 4 := by rw [IntKind.wrap_i64]; omega
        unfold Hid
        rw [e1, hm, IntKind.wrap_i64]; omega
      have HNX : Hid (∀ w9 o, wr.grownBy w9 (Value.slice sa i sc).ownBlock ∨ (wr.alloc o).grownBy w9 (Value.slice sa i sc).ownBlock ∨ (wr.alloc o).drew.grownBy w9 (Value.slice sa i sc).ownBlock ∨ (wr.drew.alloc o).grownBy w9 (Value.slice sa i sc).ownBlock → Below w2.heap.size w2 w9) := fun w9 o hg => by
        have hb : ∀ q, (Value.slice sa i sc).ownBlock = some q → w2.heap.size ≤ q := fun q hq => by have := (HOW.out.lt q hq).1; have := HBW.out; omega
        rcases hg with hg | hg | hg | hg
        · exact HB.out.grown hg HB.out.size hb
        · exact (HB.out.alloc HB.out.size o).grown hg (by have := HB.out.size; simp; omega) hb
        · exact (HB.out.alloc HB.out.size o).drew.grown hg (by have := HB.out.size; simp; omega) hb
        · exact (HB.out.drew.alloc HB.out.size o).grown hg (by have := HB.out.size; simp; omega) hb
      obtain ⟨hi0, hz0, hz1, hz2⟩ := HI.out
      clear hm hml
      go_wp2_with fail
      go_region_law (first
        | (refine step_append_lies _ (by rfl) _ _ 48 (by rfl) BW 54 i0 _ 2 16 Tryd.underlying48 hi0 hz0 hz1 hz2 rfl (by decide) _ i _ (by rfl) (World.ownsRow.alloc HOd _) ⟨wr.heap.size, 0, none⟩ 1 1 [.int .u32 (j : Nat), .int .i64 (IntKind.i64.wrap (1 + IntKind.i64.wrap ((IntKind.u64.wrap h).tmod 4)))] (by rfl) (by rfl) (news_alloc wr.drew [.int .u32 (j : Nat), .int .i64 (IntKind.i64.wrap (1 + IntKind.i64.wrap ((IntKind.u64.wrap h).tmod 4)))] _) (by simp [Value.oneCell']) (by decide) (by unfold maxLen; omega) (by omega) (by simp; omega) (wr.heap.size + 1) (by simp) ?_; intro g9 cap9 w9 hown9 hgrow9 hat9 _)
        | (refine step_append_lies _ (by rfl) _ _ 48 (by rfl) BW 54 i0 _ 2 16 Tryd.underlying48 hi0 hz0 hz1 hz2 rfl (by decide) _ i _ (by rfl) (World.ownsRow.alloc HOW.out _) ⟨wr.heap.size, 0, none⟩ 1 1 [.int .u32 (j : Nat), .int .i64 (IntKind.i64.wrap (1 + IntKind.i64.wrap ((IntKind.u64.wrap h).tmod 4)))] (by rfl) (by rfl) (news_alloc wr [.int .u32 (j : Nat), .int .i64 (IntKind.i64.wrap (1 + IntKind.i64.wrap ((IntKind.u64.wrap h).tmod 4)))] _) (by simp [Value.oneCell']) (by decide) (by unfold maxLen; omega) (by omega) (by simp; omega) (wr.heap.size + 1) (by simp) ?_; intro g9 cap9 w9 hown9 hgrow9 hat9 _))
      all_goals
        have HB9 := Lib.hid (HNX.out w9 _ (.inr (.inr (.inl hgrow9))))
        rw [HEQ.out] at hown9
        have HO9 : Hid (w9.ownsRow BW 54 2 (.slice (some ⟨g9, 0, none⟩) (i + 1) cap9) (i + 1) ((nowW (wl.take (i + 1))).flatMap whV)) := by
          unfold Hid
          rw [HTK.out, List.flatMap_append]
          exact hown9
        clear hown9 hgrow9 hat9 HNX HEQ HOd
        go_wp2_with fail
        go_roundw
        case rel => exact ⟨i + 1, by go_num, hlt, HO9.out, HB9.out⟩
        case measure => simp [RowKit.intOf]; omega
    · have d1 : decide ((i : Int) < (LW : Int)) = false := decide_eq_false (by omega)
      have d1' : decide (i < LW) = false := decide_eq_false hlt
      obtain rfl : i = LW := by omega
      have hwt : wl.take i = wl := by rw [HLWE.out]; exact List.take_length
      rw [hwt] at HOW
      have HNL : Hid ((nowW wl).length = i) := by unfold Hid; rw [nowW_len]; exact HLWE.out.symm
      have HHW : Hid (∀ p ∈ nowW wl, 1 ≤ p.2 ∧ p.2 ≤ 4) := fun p hp => nowW_how hp
      have HXr := Lib.hid (below_next HB.out HX2.out)
      have HBr := Lib.hid (below_next HB.out HB2.out)
      have hBWr : BW ≤ wr.heap.size := by rw [HBW.out]; exact HB.out.size
      have HGB : Hid (w.heap.size ≤ BW ∧ g4 < BW ∧ X.heap.size ≤ BW) := by
        have h1 := HB2.out.size
        have h2 := HX2.out.size
        have := HBW.out
        have := HG4X.out
        unfold Hid; omega
      have SAY : Hid (∀ w1 v nl, Below w.heap.size w w1 → nl.length = i → w1.ownsRow BW 54 2 v i (nl.flatMap whV) → Calls Tryd.prog 23 #[.agg #[.bool any, .slice da LD dc], v, .bool alone] w1 fun e w' => e = .returned (.int .i64 (sayD any alone nl (ndsOf dl))) ∧ Below w1.heap.size w1 w') := fun w1 v nl hb hl ho => by
        have hr : RowG 2 whV w1 v nl := by
          rw [← hl] at ho
          exact rowG_of_own whV_len ho
        have h := say_any any (.slice da LD dc) dl v nl alone w1 (HN.out.kept hb) hr (by omega)
        rw [show sayB any alone nl (ndsOf dl) = sayD any alone nl (ndsOf dl) from if_pos HOK.out] at h
        exact h
      obtain ⟨nl0, hnl0⟩ : ∃ l, l = nowW wl := ⟨_, rfl⟩
      rw [← hnl0] at HOW HNL HHW
      have k0 := cell_next HXr.out x0
      have k1 := cell_next HXr.out x1
      obtain ⟨sa, sc, rfl⟩ := own_slice HOW.out
      have S0 := Lib.hid (SAY.out wr _ nl0 HBr.out HNL.out HOW.out)
      obtain ⟨L0, hL0⟩ : ∃ x, x = sayD any alone nl0 (ndsOf dl) := ⟨_, rfl⟩
      rw [← hL0] at S0
      have HL0 := Lib.hid hL0
      clear hwt HB hnl0 HWR HN HX2 HB2 HI hL0 HLWE
      go_wp2_with fail
      refine S0.out.mono ?_; rintro e w3 ⟨rfl, b3⟩
      have HX3 := Lib.hid (below_next b3 HXr.out)
      have HB3 := Lib.hid (below_next b3 HBr.out)
      have HO3 := Lib.hid (own_older HOW.out b3)
      have hBW3 : BW ≤ w3.heap.size := Nat.le_trans hBWr b3.size
      have HK3 : Hid (∀ w1, Below X.heap.size X w1 → w1.cell? ⟨g4, 0, none⟩ = some (.bool any) ∧ w1.cell? ⟨g4, 1, none⟩ = some (.slice da LD dc)) := fun w1 h => ⟨cell_next h x0, cell_next h x1⟩
      clear b3 S0 HOW HXr HBr hBWr k0 k1 x0 x1
      go_wp2_with fail
      go_loopw [11, 12] (fun lv iv wr => ∃ (t : Nat) (nl : List Wh) (S : Int), iv = .int .i64 (t : Nat) ∧ lv = .int .i64 S ∧ t ≤ LO ∧ t ≤ 40 ∧ Hid (S = sayD any alone nl (ndsOf dl)) ∧ Hid (nl.length = i) ∧ Hid (∀ p ∈ nl, 1 ≤ p.2 ∧ p.2 ≤ 4) ∧ Hid (wr.ownsRow BW 54 2 (.slice sa i sc) i (nl.flatMap whV)) ∧ Hid (Below X.heap.size X wr) ∧ Hid (Below w.heap.size w wr) ∧ BW ≤ wr.heap.size) (fun _ iv _ => 40 - (RowKit.intOf iv).toNat)
      case atStart => exact ⟨0, nl0, L0, rfl, rfl, Nat.zero_le _, by omega, HL0.out, HNL.out, HHW.out, HO3.out, HX3.out, HB3.out, hBW3⟩
      case round =>
        clear HNL HHW HO3 HX3 HB3 hBW3 HL0
        obtain ⟨t, nl, S, rfl, rfl, htL, ht40, HS, HNL, HHW, HOW, HXr, HBr, hBWr⟩ := hrel
        obtain ⟨k0, k1⟩ := HK3.out wr HXr.out
        obtain ⟨w9, hw9⟩ : ∃ x, x = wr := ⟨_, rfl⟩
        subst hw9
        go_upto_region 10 with fail
        go_cut [66] from 54 to 66 (fun bv wx => ∃ β : Bool, bv = .bool β ∧ Hid (β = true → t < LO ∧ t < 40 ∧ 0 < i) ∧ Hid (w9 = wx))
        case first =>
          by_cases h1 : t < LO
          · have p1 : decide ((t : Int) < (LO : Int)) = true := decide_eq_true (by omega)
            have p1' : decide (t < LO) = true := decide_eq_true h1
            by_cases h2 : t < 40
            · have p2 : decide ((t : Int) < 40) = true := decide_eq_true (by omega)
              have p2' : decide (t < 40) = true := decide_eq_true h2
              by_cases h3 : 0 < i
              · have p3 : decide ((i : Int) > 0) = true := decide_eq_true (by omega)
                have p3' : decide (0 < i) = true := decide_eq_true h3
                have HF : Hid (t < LO ∧ t < 40 ∧ 0 < i) := ⟨h1, h2, h3⟩
                clear h1 h2 h3
                go_wp2_with fail
                go_meet
                exact ⟨true, rfl, fun _ => HF.out, rfl⟩
              · have p3 : decide ((i : Int) > 0) = false := decide_eq_false (by omega)
                have p3' : decide (0 < i) = false := decide_eq_false h3
                clear h1 h2 h3
                go_wp2_with fail
                go_meet
                exact ⟨false, rfl, (fun h => nomatch h), rfl⟩
            · have p2 : decide ((t : Int) < 40) = false := decide_eq_false (by omega)
              have p2' : decide (t < 40) = false := decide_eq_false h2
              clear h1 h2
              go_wp2_with fail
              go_meet
              exact ⟨false, rfl, (fun h => nomatch h), rfl⟩
          · have p1 : decide ((t : Int) < (LO : Int)) = false := decide_eq_false (by omega)
            have p1' : decide (t < LO) = false := decide_eq_false h1
            clear h1
            go_wp2_with fail
            go_meet
            exact ⟨false, rfl, (fun h => nomatch h), rfl⟩
        case rest =>
        obtain ⟨β, rfl, HF, hw⟩ := hcut
        replace hw := hw.out
        subst hw
        cases β with
        | true =>
          obtain ⟨h1, h2, h3⟩ := HF.out rfl
          have ht1 : (t : Int) < (LO : Int) := by omega
          obtain ⟨bo, oo, z, rfl, hz, hzc⟩ := HO.out t h1
          have o0 := hzc w9 HBr.out
          have HKL : Hid (z % i < nl.length) := by unfold Hid; rw [HNL.out]; exact Nat.mod_lt _ h3
          have hz1 : ((z : Int)).tmod (i : Int) = ((z % i : Nat) : Int) := by rw [Int.tmod_eq_emod_of_nonneg (by omega)]; omega
          have hz2 : ((z : Int)) % (i : Int) = ((z % i : Nat) : Int) := by omega
          have HK0 : Hid (∃ k, k = z % i) := ⟨_, rfl⟩
          obtain ⟨k, hk⟩ := HK0.out
          rw [← hk] at hz1 hz2 HKL
          have hki : k < i := by rw [hk]; exact Nat.mod_lt _ h3
          have hkii : (k : Int) < (i : Int) := by omega
          have hi0 : ((i : Int) == 0) = false := by simp; omega
          have hi0' : ¬ i = 0 := by omega
          clear hk HK0 HF hzc
          obtain ⟨G, rfl⟩ : ∃ G, sa = some ⟨G, 0, none⟩ := by
            obtain ⟨_, ⟨e, h0⟩ | ⟨G, cap, cur, e, _⟩⟩ := HOW.out
            · omega
            · injection e with e1 _ _; exact ⟨G, e1⟩
          have hkl := HKL.out
          have hkh := HHW.out _ (List.getElem_mem hkl)
          have hcell : w9.cell? ⟨G, k * 2 + 1, none⟩ = some (.int .i64 nl[k].2) := by
            have h1 := World.ownsRow.cells HOW.out (g := G) rfl _ _ (flatW_get hkl).2
            rwa [Addr.add_lit, Nat.zero_add] at h1
          have HGW : Hid (BW ≤ G ∧ G < w9.heap.size) := HOW.out.lt G rfl
          have HPUT : Hid (∀ h' : Int, 1 ≤ h' ∧ h' ≤ 4 → Adv nl[k].2 h' → (w9.frozen? ⟨G, k * 2 + 1, none⟩ = false) ∧ ∃ nl', Hid (nl'.length = i) ∧ Hid (∀ p ∈ nl', 1 ≤ p.2 ∧ p.2 ≤ 4) ∧ Hid (AdvL nl nl') ∧ Hid ((w9.setCell ⟨G, k * 2 + 1, none⟩ (.int .i64 h')).ownsRow BW 54 2 (.slice (some ⟨G, 0, none⟩) i sc) i (nl'.flatMap whV)) ∧ Hid (Below X.heap.size X (w9.setCell ⟨G, k * 2 + 1, none⟩ (.int .i64 h'))) ∧ Hid (Below w.heap.size w (w9.setCell ⟨G, k * 2 + 1, none⟩ (.int .i64 h'))) ∧ BW ≤ (w9.setCell ⟨G, k * 2 + 1, none⟩ (.int .i64 h')).heap.size) := fun h' hh ha => by
            obtain ⟨_, hfz, hro, hch⟩ := owns_put8 HOW.out (show k * 2 + 1 < i * 2 by omega) (.int .i64 h')
            refine ⟨hfz, nl.set k (nl[k].1, h'), ?_, set_how HHW.out hh, advL_set hkl hkh hh ha, ?_, ?_, ?_, Nat.le_trans hBWr hch.size⟩
            · unfold Hid; rw [List.length_set]; exact HNL.out
            · unfold Hid; rw [← flat_set nl k hkl h']; exact hro
            · exact HXr.out.trans (hch.to_below HXr.out.size fun q hq e => by have : q = G := e; have := HGW.out; have := HGB.out; omega)
            · exact HBr.out.trans (hch.to_below HBr.out.size fun q hq e => by have : q = G := e; have := HGW.out; have := HGB.out; omega)
          have HSAME : Hid (AdvL nl nl) := fun j => .inl rfl
          obtain ⟨h, hh⟩ : ∃ h, h = nl[k].2 := ⟨_, rfl⟩
          rw [← hh] at hkh hcell HPUT
          have HZ : Hid (z / 128 = 0 ∨ z / 128 = 1) := by unfold Hid; omega
          have hq1 : ((z : Int)).tdiv 128 = ((z / 128 : Nat) : Int) := by rw [Int.tdiv_eq_ediv_of_nonneg (by omega)]; omega
          have hq2 : ((z : Int)) / 128 = ((z / 128 : Nat) : Int) := by omega
          clear hh hkl
          go_upto_block 4 with fail
          go_cut [] (fun wx => ∃ nl', Hid (nl'.length = i) ∧ Hid (∀ p ∈ nl', 1 ≤ p.2 ∧ p.2 ≤ 4) ∧ Hid (AdvL nl nl') ∧ Hid (wx.ownsRow BW 54 2 (.slice (some ⟨G, 0, none⟩) i sc) i (nl'.flatMap whV)) ∧ Hid (Below X.heap.size X wx) ∧ Hid (Below w.heap.size w wx) ∧ BW ≤ wx.heap.size)
          case first =>
            by_cases e1 : h = 1
            · have p1 : (h == 1) = true := by simp [e1]
              obtain ⟨hfz, hN⟩ := HPUT.out 2 (by decide) (.inr (.inl ⟨e1, rfl⟩))
              have HNN := Lib.hid hN
              clear HPUT HSAME e1 hN
              go_wp2_with fail
              go_meet
              exact HNN.out
            · have p1 : (h == 1) = false := by simpa using e1
              by_cases e2 : h = 2
              · have p2 : (h == 2) = true := by simp [e2]
                obtain ⟨q, hq⟩ : ∃ q, q = z / 128 := ⟨_, rfl⟩
                rw [← hq] at HZ hq1 hq2
                have hq01 := HZ.out
                obtain ⟨hfz, hN⟩ := HPUT.out (3 + (q : Int)) (by omega) (.inr (.inr ⟨e2, by omega⟩))
                have HNN := Lib.hid hN
                clear HPUT HSAME e1 e2 hN hq
                go_wp2_with fail
                go_meet
                exact HNN.out
              · have p2 : (h == 2) = false := by simpa using e2
                clear HPUT e1 e2
                go_wp2_with fail
                go_meet
                exact ⟨nl, HNL.out, HHW.out, HSAME.out, HOW.out, HXr.out, HBr.out, hBWr⟩
          case rest =>
          clear HPUT HSAME HOW HXr HBr hBWr HHW HNL HKL hcell hq1 hq2 hz1 hz2 k0 k1 o0 hkh hkii
          obtain ⟨nl', HNL, HHW, HADV, HOW, HXr, HBr, hBWr⟩ := hcut
          obtain ⟨k0, k1⟩ := HK3.out wc HXr.out
          have SY := Lib.hid (SAY.out wc _ nl' HBr.out HNL.out HOW.out)
          have HSS : Hid (S = 1 ∨ sayD any alone nl' (ndsOf dl) = S) := by
            have h := sayD_adv HADV.out any alone (ndsOf dl)
            rw [← HS.out] at h
            exact h
          obtain ⟨S', hS'⟩ : ∃ x, x = sayD any alone nl' (ndsOf dl) := ⟨_, rfl⟩
          rw [← hS'] at SY HSS
          have HS2 := Lib.hid hS'
          clear hS'
          go_wp2_with fail
          refine SY.out.mono ?_; rintro e w5 ⟨rfl, b5⟩
          have HX5 := Lib.hid (below_next b5 HXr.out)
          have HB5 := Lib.hid (below_next b5 HBr.out)
          have HO5 := Lib.hid (own_older HOW.out b5)
          have hBW5 : BW ≤ w5.heap.size := Nat.le_trans hBWr b5.size
          clear b5 SY HOW HXr HBr k0 k1
          by_cases hs1 : S = 1
          · have p1 : (S != 1) = false := by simp [hs1]
            clear hs1 HSS
            go_wp2_with fail
            go_roundw
            case rel => exact ⟨t + 1, nl', S', by go_num, rfl, h1, h2, HS2.out, HNL.out, HHW.out, HO5.out, HX5.out, HB5.out, hBW5⟩
            case measure => simp [RowKit.intOf]; omega
          · have p1 : (S != 1) = true := by simpa using hs1
            have p2 : (S' != S) = false := by
              rcases HSS.out with h | h
              · exact absurd h hs1
              · simp [h]
            clear hs1 HSS
            go_wp2_with fail
            go_roundw
            case rel => exact ⟨t + 1, nl', S', by go_num, rfl, h1, h2, HS2.out, HNL.out, HHW.out, HO5.out, HX5.out, HB5.out, hBW5⟩
            case measure => simp [RowKit.intOf]; omega
        | false =>
          clear HF k0 k1
          have HGS : Hid (∀ q (h : q < nl.length), ∃ G, sa = some ⟨G, 0, none⟩ ∧ w9.cell? ⟨G, q * 2 + 1, none⟩ = some (.int .i64 nl[q].2)) := fun q h => by
            have hi := HNL.out
            obtain ⟨G, rfl⟩ : ∃ G, sa = some ⟨G, 0, none⟩ := by
              obtain ⟨_, ⟨e, h0⟩ | ⟨G, cap, cur, e, _⟩⟩ := HOW.out
              · omega
              · injection e with e1 _ _; exact ⟨G, e1⟩
            refine ⟨G, rfl, ?_⟩
            have h1 := World.ownsRow.cells HOW.out (g := G) rfl _ _ (flatW_get h).2
            rwa [Addr.add_lit, Nat.zero_add] at h1
          have HKN := Lib.hid (K.out w9 HBr.out)
          have HHW4 := HHW
          clear HOW HXr hBWr HHW
          go_wp2_with fail
          go_loopw [15, 16] (fun bv iv wr => ∃ (q : Nat) (β : Bool), iv = .int .i64 (q : Nat) ∧ bv = .bool β ∧ q ≤ i ∧ Hid (β = true → ∀ p ∈ nl.take q, 3 ≤ p.2) ∧ wr = w9) (fun _ iv _ => i - (RowKit.intOf iv).toNat)
          case atStart => exact ⟨0, true, rfl, rfl, Nat.zero_le _, fun _ p hp => by simp at hp, rfl⟩
          case round =>
            obtain ⟨q, β, rfl, rfl, hqi, HE3, rfl⟩ := hrel
            by_cases hq : q < i
            · have p1 : decide ((q : Int) < (i : Int)) = true := decide_eq_true (by omega)
              have p1' : decide (q < i) = true := decide_eq_true hq
              have hqii : (q : Int) < (i : Int) := by omega
              obtain ⟨G, rfl, hc⟩ := HGS.out q (by rw [HNL.out]; exact hq)
              have HTQ : Hid (∀ b : Bool, (b = true → (∀ p ∈ nl.take q, 3 ≤ p.2) ∧ 3 ≤ (nl[q]'(by rw [HNL.out]; exact hq)).2) → b = true → ∀ p ∈ nl.take (q + 1), 3 ≤ p.2) := fun b hb hbt p hp => by
                obtain ⟨h1, h2⟩ := hb hbt
                rw [List.take_add_one, List.getElem?_eq_getElem (by rw [HNL.out]; exact hq)] at hp
                rcases List.mem_append.1 hp with hp | hp
                · exact h1 p hp
                · simp at hp; rw [hp]; exact h2
              obtain ⟨h, hh⟩ : ∃ h, h = (nl[q]'(by rw [HNL.out]; exact hq)).2 := ⟨_, rfl⟩
              rw [← hh] at hc HTQ
              clear hh
              cases β with
              | true =>
                by_cases h3 : 3 ≤ h
                · have p2 : decide (h ≥ 3) = true := decide_eq_true h3
                  have p2' : decide (3 ≤ h) = true := decide_eq_true h3
                  have HN3 := Lib.hid (HTQ.out true (fun _ => ⟨HE3.out rfl, h3⟩))
                  clear HTQ h3
                  go_wp2_with fail
                  go_roundw
                  case rel => exact ⟨q + 1, true, by go_num, rfl, hq, HN3.out, trivial⟩
                  case measure => simp [RowKit.intOf]; omega
                · have p2 : decide (h ≥ 3) = false := decide_eq_false h3
                  have p2' : decide (3 ≤ h) = false := decide_eq_false h3
                  clear HTQ h3
                  go_wp2_with fail
                  go_roundw
                  case rel => exact ⟨q + 1, false, by go_num, rfl, hq, (fun h => nomatch h), trivial⟩
                  case measure => simp [RowKit.intOf]; omega
              | false =>
                clear HTQ
                go_wp2_with fail
                go_roundw
                case rel => exact ⟨q + 1, false, by go_num, rfl, hq, (fun h => nomatch h), trivial⟩
                case measure => simp [RowKit.intOf]; omega
            · have p1 : decide ((q : Int) < (i : Int)) = false := decide_eq_false (by omega)
              have p1' : decide (q < i) = false := decide_eq_false hq
              have HFIN : Hid (β = true → alone = true → S ≠ 1) := fun hb ha => by
                have h3 := HE3.out hb
                rw [List.take_of_length_le (by have := HNL.out; omega)] at h3
                have h4 := HHW4.out
                rw [HS.out, ha]
                exact sayD_end (fun p hp => ⟨h3 p hp, (h4 p hp).2⟩) any (ndsOf dl)
              clear HGS HE3 HS
              cases β with
              | true =>
                cases alone with
                | true =>
                  have p2 : (S != 1) = true := by simpa using HFIN.out rfl rfl
                  clear HFIN
                  go_wp2_with fail
                  refine HKN.out.mono ?_; rintro e w5 ⟨rfl, b5⟩
                  have HB5 := Lib.hid (below_next b5 HBr.out)
                  clear b5
                  go_wp2_with fail
                  go_returns
                  exact ⟨rfl, HB5.out⟩
                | false =>
                  clear HFIN
                  go_wp2_with fail
                  refine HKN.out.mono ?_; rintro e w5 ⟨rfl, b5⟩
                  have HB5 := Lib.hid (below_next b5 HBr.out)
                  clear b5
                  go_wp2_with fail
                  go_returns
                  exact ⟨rfl, HB5.out⟩
              | false =>
                clear HFIN
                go_wp2_with fail
                refine HKN.out.mono ?_; rintro e w5 ⟨rfl, b5⟩
                have HB5 := Lib.hid (below_next b5 HBr.out)
                clear b5
                go_wp2_with fail
                go_returns
                exact ⟨rfl, HB5.out⟩


set_option maxRecDepth 100000 in
theorem lifted (os : Os) (started : os.Started) (H : Type) (enc : TypeId × Value → H) :
    ReturnsInHanded {} Tryd.checked os 7 .any (fun w args => (Rows.dependStaysSpec.pre enc Tryd.prog Tryd.f7 Rows.dependStaysRow.domain false w args ∧ laidMetH Tryd.prog laid8 w) ∧ sizedMet enc Tryd.prog Tryd.f7 (OpenSpec.ofChange Rows.dependStaysSpec) false w args) (Rows.dependStaysSpec.post enc Tryd.prog Tryd.f7 false true false false) := by
  refine laid_lift (C := Tryd.checked) (X := fun w _ => laidMetH Tryd.prog laid8 w) (fun _ _ _ hh h => h.of_heap hh) own started (by kernel_rfl) Tryd.func7
    (ChangeSpec.witness_shaped (enc := enc) (C := Tryd.checked) (os := os) (X := fun w _ => laidMetH Tryd.prog laid8 w) false (World.laidAll Tryd.prog os laid8) #[.agg #[.bool false, .slice none 0 0], .slice none 0 0, .slice none 0 0, .bool false] 8 (World.laidAll_os _ _ _)
      (World.shaped_of_ZipB (by kernel_rfl) (by kernel_rfl)) (by kernel_rfl) (by kernel_rfl) (by kernel_rfl)
      (by rw [MakeChecks.laidMetH_plain _ _ _ (by kernel_rfl)]; exact laidMet_laidAll _ (by kernel_rfl) (by kernel_rfl))) ?_
  intro W base args ds gs before hval0 hW hsz0 hL hS
  have hE := env8_of hL hS
  have hval : ∀ (j : Nat) t v, Tryd.f7.params[j]? = some t → args[j]? = some v → Value.okWide Tryd.prog W .any base t v := hval0
  have hW' := hW
  obtain ⟨p, q, hA0, hV, rfl, hfz, hnd⟩ := hW
  have hA : DataW.TrodAll enc Tryd.prog W 0 (fun _ => true) true Tryd.f7.params.toList args.toList ds p := hA0
  rw [Tryd.params7] at hA hval
  obtain ⟨v0, vs0, d0, ds0, p0, q0, hargs, rfl, rfl, h0, r0⟩ := trodAll_cons hA
  obtain ⟨v1, vs1, d1, ds1, p1, q1, rfl, rfl, rfl, h1, r1⟩ := trodAll_cons r0
  obtain ⟨v2, vs2, d2, ds2, p2, q2, rfl, rfl, rfl, h2, r2⟩ := trodAll_cons r1
  obtain ⟨v3, vs3, d3, ds3, p3, q3, rfl, rfl, rfl, h3, r3⟩ := trodAll_cons r2
  obtain ⟨rfl, rfl, rfl⟩ := trodAll_nil r3
  obtain rfl : args = #[v0, v1, v2, v3] := by cases args; simp_all
  have hz0 : ∀ k ∈ d0.weights Tryd.prog 24, k ≤ reachBytes := fun k hk => by
    have := List.all_eq_true.1 hsz0 k (DataW.weights_mem_each (j := 0) (t := 24) (d := d0) rfl rfl k hk)
    simpa using this
  obtain ⟨cs0, rfl, hs0, hf0⟩ := open_structZ Tryd.underlying24 (by kernel_rfl) (by kernel_rfl) (hval 0 24 v0 rfl rfl) hz0 h0
  obtain ⟨c0_0, y0_0, n0_0, e0_0, t0_0, z0_0⟩ := hf0 0 _ rfl
  obtain ⟨any, rfl⟩ := field_bool Tryd.underlying4 t0_0
  obtain ⟨c0_1, y0_1, n0_1, e0_1, t0_1, z0_1⟩ := hf0 1 _ rfl
  obtain ⟨dl, w0_1⟩ := field_needs t0_1 z0_1
  obtain rfl : cs0 = #[.bool any, c0_1] := arr_of cs0 [.bool any, c0_1] hs0 (fun j hj => by match j, hj with | 0, _ => exact e0_0 | 1, _ => exact e0_1 | j + 2, hj => exact absurd hj (by simp))
  have hz1 : ∀ k ∈ d1.weights Tryd.prog 48, k ≤ reachBytes := fun k hk => by
    have := List.all_eq_true.1 hsz0 k (DataW.weights_mem_each (j := 1) (t := 48) (d := d1) rfl rfl k hk)
    simpa using this
  obtain ⟨wl, w1⟩ := open_wheres hz1 h1 (okWide_slice Tryd.underlying48 (hval 1 48 v1 rfl rfl))
  obtain ⟨on, w2⟩ := open_ints_arg Tryd.underlying52 Tryd.underlying5 (by kernel_rfl) h2 (okWide_slice Tryd.underlying52 (hval 2 52 v2 rfl rfl))
  obtain ⟨alone, rfl, rfl, rfl⟩ := open_bool Tryd.underlying4 (hval 3 4 v3 rfl rfl) h3
  clear hA0 hval0
  refine (walk any c0_1 dl v1 wl v2 on alone W hE w0_1 w1 w2).mono fun e W' ⟨he, hb⟩ => ?_
  subst he
  exact ⟨_, rfl, law_post (by kernel_rfl) (by kernel_rfl) rfl Tryd.underlying4 rfl hW' rfl hb⟩

theorem over : Rows.dependStaysRow.holds Tryd.pinned (OpenSpec.ofChange Rows.dependStaysSpec) :=
  OpenClaim.holds_of_wide 7 Tryd.f7 rfl rfl rfl rfl rfl rfl rfl ⟨rfl, rfl, rfl, rfl, rfl⟩ rfl rfl rfl rfl rfl (by kernel_rfl) Tryd.func7 (by kernel_rfl)
    (of_decide_eq_true (by kernel_rfl)) (by unfold Func.isWrapper; first | (rw [if_pos (by decide +kernel)]; kernel_rfl) | (rw [if_neg (by decide +kernel)]; exact ⟨rfl, rfl⟩))
    (fun os started H enc _ => lifted os started H enc)

theorem proved : Rows.DependStaysCardSaid :=
  Claim7.holds_tied_plain_at .later [] _ true _ false over (fun _ h => by cases h) (by kernel_rfl) (fun _ h => by cases h) dependStays_row_tie rfl ⟨rfl, rfl⟩ (by kernel_rfl) rfl
    (fun f fn hf hfn => by
      obtain rfl : f = 7 := Option.some.inj ((show Tryd.prog.funcNamed "ganger/gangerlaw08.DependStays" = some 7 by kernel_rfl).symm.trans hf) |>.symm
      obtain rfl : fn = Tryd.f7 := (Option.some.inj (Tryd.func7.symm.trans hfn)).symm
      exact ⟨by kernel_rfl, fun j t ht => by
        rw [Tryd.params7] at ht
        have hm : t ∈ [24, 48, 52, 4] := by simpa using Array.mem_of_getElem? ht
        have hall : ([24, 48, 52, 4].all fun u => !Tryd.prog.wantsStandIn u) = true := by kernel_rfl
        exact (show Tryd.prog.wantsStandIn t = false by simpa using List.all_eq_true.1 hall t hm)⟩)
    (by kernel_rfl)
#print axioms proved
end Go.Proofs.YtpobghdiecfoaaaDoor.dependStays
