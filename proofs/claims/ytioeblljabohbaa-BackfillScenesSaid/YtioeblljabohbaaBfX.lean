/-
  backfill's board.earliest.
-/
import Derived.Test.YtioeblljabohbaaBfTU
import Derived.Test.YtioeblljabohbaaBfW
import Derived.Test.YtioeblljabohbaaBfY
namespace Go.Proofs.Ytioeblljabohbaa
open Go Go.RowKit Go.Lib Go.Sort
set_option linter.unusedVariables false

/-- Does the next one enter, leave? -/
def InF (F : List HeT) (X e : Nat) (β : Bool) : Prop := (β = true → ∃ h : e < F.length, F[e].2.2.1 < X) ∧ (β = false → DoneF F X e)
def InT (T : List HeT) (x l : Nat) (β : Bool) : Prop := (β = true → ∃ h : l < T.length, T[l].2.2.2 ≤ x) ∧ (β = false → DoneT T x l)
theorem inF_at {F : List HeT} {X e : Nat} (hs : SortedF F) (h : ∀ i (h : i < F.length), i < e → F[i].2.2.1 < X) (he : e < F.length) : InF F X e (decide (F[e].2.2.1 < X)) :=
  ⟨fun h1 => ⟨he, of_decide_eq_true h1⟩, fun h1 => ⟨h, fun i hi hei => Nat.le_trans (Nat.le_of_not_lt (of_decide_eq_false h1)) (sortedF_at hs hei hi)⟩⟩
theorem inF_end {F : List HeT} {X e : Nat} (h : ∀ i (h : i < F.length), i < e → F[i].2.2.1 < X) (he : ¬ e < F.length) : InF F X e false :=
  ⟨(fun h1 => by cases h1), fun _ => ⟨h, fun i hi hei => by omega⟩⟩
theorem inT_at {T : List HeT} {x l : Nat} (hs : SortedT T) (h : ∀ i (h : i < T.length), i < l → T[i].2.2.2 ≤ x) (hl : l < T.length) : InT T x l (decide (T[l].2.2.2 ≤ x)) :=
  ⟨fun h1 => ⟨hl, of_decide_eq_true h1⟩, fun h1 => ⟨h, fun i hi hei => Nat.lt_of_lt_of_le (Nat.lt_of_not_le (of_decide_eq_false h1)) (sortedT_at hs hei hi)⟩⟩
theorem inT_end {T : List HeT} {x l : Nat} (h : ∀ i (h : i < T.length), i < l → T[i].2.2.2 ≤ x) (hl : ¬ l < T.length) : InT T x l false :=
  ⟨(fun h1 => by cases h1), fun _ => ⟨h, fun i hi hei => by omega⟩⟩
theorem InF.next {F : List HeT} {X e : Nat} (k : InF F X e true) (h : ∀ i (h : i < F.length), i < e → F[i].2.2.1 < X) : ∀ i (h : i < F.length), i < e + 1 → F[i].2.2.1 < X := fun i hi hl => by
  obtain ⟨_, h2⟩ := k.1 rfl
  rcases Nat.lt_or_ge i e with h3 | h3
  · exact h i hi h3
  · obtain rfl : i = e := by omega
    exact h2
theorem InT.next {T : List HeT} {x l : Nat} (k : InT T x l true) (h : ∀ i (h : i < T.length), i < l → T[i].2.2.2 ≤ x) : ∀ i (h : i < T.length), i < l + 1 → T[i].2.2.2 ≤ x := fun i hi hl => by
  obtain ⟨_, h2⟩ := k.1 rfl
  rcases Nat.lt_or_ge i l with h3 | h3
  · exact h i hi h3
  · obtain rfl : i = l := by omega
    exact h2
set_option maxRecDepth 100000 in
set_option maxHeartbeats 8000000 in
theorem earliest_any (bd B0 n q a len : Nat) (fl : List Nat) (F T : List HeT) (w : World) (hb : BdI w bd B0 n fl F T) (hn : n ≤ 10) (hq : q ≤ n) (hfl : ∀ x ∈ fl, x < 2 ^ n) (hfn : fl.length ≤ 1024) (hF : ∀ h ∈ F, heOk2 n h) (hFl : F.length ≤ 1023) (hp : T.Perm F) (sF : SortedF F) (sT : SortedT T) (ha : a ≤ 4398046511104) (hle : len ≤ 4398046511104) :
    Calls Try.prog 40 #[.pointer (some ⟨bd, 0, none⟩), .int .i64 (q : Nat), .int .i64 (a : Nat), .int .i64 (len : Nat)] w fun e w' => e = .returned (.tuple #[.int .i64 (earlyV ⟨n, fl, F⟩ q len (tks (endsB T) a)).1, .int .i64 (earlyV ⟨n, fl, F⟩ q len (tks (endsB T) a)).2.1, .bool (earlyV ⟨n, fl, F⟩ q len (tks (endsB T) a)).2.2]) ∧ Below w.heap.size w w' := by
  have hTl : T.length = F.length := hp.length_eq
  have NM := Lib.hid (newMarks_any bd B0 n q fl F T w hb hn hq hfl hfn)
  have TKC : Hid (∀ w', Below w.heap.size w w' → _) := fun w' hb' => ticks_any bd B0 n a fl F T w' (hb.kept hb') (by omega)
  obtain ⟨vf, vF, vT, h1, h2, h3, h4, h5, h6, h7, h8⟩ := hb
  have HATV : Hid (∀ e l C t, Mk fl F T q e l C → DoneF F (t + len) e → DoneT T t l → firstV q (2 ^ (n - q)) C = atV ⟨n, fl, F⟩ q t (t + len)) := fun e l C t k1 k2 k3 => k1.at k2 k3 hp fun h hh => (hF h hh).2.1
  have HROOM : Hid (∀ e l t, DoneF F (t + len) e → (∀ i (h : i < T.length), i < l → T[i].2.2.2 ≤ t) → ∀ i, cF T q l i ≤ cF F q e i) := fun e l t k1 k2 => Mk.room k1 k2 hp fun h hh => (hF h hh).2.1
  obtain ⟨N, hN⟩ : ∃ N, N = 2 ^ (n - q) := ⟨_, rfl⟩
  rw [← hN] at NM HATV
  have hNq : N * 2 ^ q = 2 ^ n := by rw [hN, ← Nat.pow_add]; congr 1; omega
  have hp10 := pow_1024 hn
  have hN1 : N ≤ 1024 := Nat.le_trans (Nat.le_mul_of_pos_right N (two_pos q)) (by rw [hNq]; exact hp10)
  have HHE : Hid (∀ h ∈ F, h.2.1 ≤ 10 ∧ h.1 < 4096 ∧ (h.1 + 2 ^ h.2.1 - 1) / 2 ^ q < N) := fun h hh => by
    obtain ⟨⟨e1, e2, e3⟩, _⟩ := hF h hh
    refine ⟨by omega, by have := two_pos h.2.1; omega, ?_⟩
    rw [hN]; exact hit_lt hq e3
  have HHT : Hid (∀ h ∈ T, h.2.1 ≤ 10 ∧ h.1 < 4096 ∧ (h.1 + 2 ^ h.2.1 - 1) / 2 ^ q < N) := fun h hh => HHE.out h (hp.mem_iff.1 hh)
  have HTB : Hid (∀ x ∈ tks (endsB T) a, x ≤ 4503599627370496) := tks_bound (show a ≤ 4503599627370496 by omega) fun x hx => by
    obtain ⟨h, hh, rfl⟩ := List.mem_map.1 hx
    exact (hF h (hp.mem_iff.1 hh)).2.2
  have HTI := Lib.hid (tks_inc (endsB T) a)
  have HTN : Hid ((tks (endsB T) a).length ≤ 1024) := by
    have := tks_len (endsB T) a
    unfold endsB at this ⊢
    rw [List.length_map] at this
    unfold Hid; omega
  have HRF := Lib.hid (hrow_of_own h4)
  have HRT := Lib.hid (hrow_of_own h5)
  obtain ⟨fa, fc, rfl⟩ := own_slice h4
  obtain ⟨ta, tc, rfl⟩ := own_slice h5
  have HB := Lib.hid h1
  obtain ⟨LF, hLF⟩ : ∃ x, x = F.length := ⟨_, rfl⟩
  obtain ⟨LT, hLT⟩ : ∃ x, x = T.length := ⟨_, rfl⟩
  rw [← hLF] at HRF HB hFl hTl
  rw [← hLT] at HRT HB hTl
  have HLF := Lib.hid hLF
  have HLT := Lib.hid hLT
  have HFN := Lib.hid hfn
  have HNQ : Hid (N * 2 ^ q ≤ 1024) := by unfold Hid; omega
  have hq10 : q ≤ 10 := by omega
  obtain ⟨TK, hTK⟩ : ∃ x, x = tks (endsB T) a := ⟨_, rfl⟩
  rw [← hTK] at HTB HTI HTN TKC ⊢
  obtain ⟨LK, hLK⟩ : ∃ x, x = TK.length := ⟨_, rfl⟩
  have HLK := Lib.hid hLK
  have hLK1 : LK ≤ 1024 := by rw [hLK]; exact HTN.out
  have hT1 : LT ≤ 1023 := by omega
  have SF := Lib.hid sF
  have ST := Lib.hid sT
  clear h1 h2 h3 h4 h5 h6 h7 h8 hF hfl hN hNq hp10 hLF hLT hfn hTK hLK HTN sF sT hp hTl
  go_enter Try.func40, Try.ntmps40
  go_wp2_with fail
  refine NM.out.mono ?_; rintro e w1 ⟨m, rfl, hm1, hb1⟩
  have HM1 := Lib.hid hm1
  have HB1 := Lib.hid hb1
  have TC := Lib.hid (TKC.out w1 hb1)
  clear hm1 hb1 NM TKC
  go_wp2_with fail
  refine TC.out.mono ?_; rintro e w2 ⟨vt, rfl, hot, hb2⟩
  obtain ⟨ka, kc, rfl⟩ := own_slice hot
  have hl2 : (nsI TK).length = LK := by rw [nsI_len, HLK.out]
  have hot2 : w2.ownsRow w1.heap.size 3 1 (.slice ka LK kc) LK (numsL (nsI TK)) := by
    have h := hot
    unfold NOwn at h
    rw [hl2] at h; exact h
  obtain ⟨OW, hOW⟩ : ∃ OW : Nat → Prop, OW = fun k => w.heap.size ≤ k ∧ k < w1.heap.size := ⟨_, rfl⟩
  have HM2 : Hid (MIo OW w2 m w.heap.size q N (markK fl q fl.length)) := by rw [hOW]; exact HM1.out.mio.kept hb2
  have HB1s := HB1.out.size
  have HOWN : Hid (∀ wr, Chg OW w2 wr → Below w.heap.size w wr ∧ wr.ownsRow w1.heap.size 3 1 (.slice ka LK kc) LK (numsL (nsI TK))) := fun wr hc => by
    refine ⟨(HB1.out.trans (hb2.mono HB1s)).trans (hc.to_below (by have := hb2.size; omega) fun k hk ho => by rw [hOW] at ho; omega), own_chg hot2 hc fun k hk ho => ?_⟩
    rw [hOW] at ho
    have := own_ge hot2 hk
    omega
  have HL2 := Lib.hid hl2
  rw [hl2]
  clear hot hot2 hl2 hb2 HM1 TC hOW HB1s
  have hm := (HB.out.kept (HOWN.out w2 (Chg.refl _ _)).1).cell 2
  go_wp2_with fail
  clear hm
  go_loopw [12, 13, 25] (fun ev lv jv wr => ∃ (e l j : Nat) (C : Nat → Nat), j ≤ LK ∧ e ≤ LF ∧ l ≤ LT ∧ ev = .int .i64 e ∧ lv = .int .i64 l ∧ jv = .int .i64 j ∧ Hid (Mk fl F T q e l C) ∧ Hid (MIo OW wr m w.heap.size q N C) ∧ Hid (∀ x ∈ TK.drop j, (∀ i (h : i < F.length), i < e → F[i].2.2.1 < x + len) ∧ (∀ i (h : i < T.length), i < l → T[i].2.2.2 ≤ x)) ∧ Hid (earlyL ⟨n, fl, F⟩ q len TK = earlyL ⟨n, fl, F⟩ q len (TK.drop j)) ∧ Hid (Chg OW w2 wr)) (fun _ _ jv _ => LK - (RowKit.intOf jv).toNat)
  case atStart => exact ⟨0, 0, 0, _, Nat.zero_le _, Nat.zero_le _, Nat.zero_le _, rfl, rfl, rfl, Mk.start _ _ _ _, HM2, fun x hx => ⟨fun i h h' => absurd h' (Nat.not_lt_zero _), fun i h h' => absurd h' (Nat.not_lt_zero _)⟩, rfl, Chg.refl _ _⟩
  case round =>
    obtain ⟨e, l, j, C, hj, he, hl, rfl, rfl, rfl, HK, HM, HIN, HE, HC⟩ := hrel
    by_cases hlt : j < LK
    · have hd : decide (j < LK) = true := decide_eq_true hlt
      have hji : (j : Int) < (LK : Int) := by omega
      have hjk : j < TK.length := by rw [← HLK.out]; exact hlt
      have HDR := Lib.hid (List.drop_eq_getElem_cons hjk)
      obtain ⟨xt, hxt⟩ : ∃ x, x = TK[j] := ⟨_, rfl⟩
      rw [← hxt] at HDR
      have hx42 : xt ≤ 4503599627370496 := by rw [hxt]; exact HTB.out _ (List.getElem_mem hjk)
      obtain ⟨hBr, hOr⟩ := HOWN.out wr HC.out
      obtain ⟨gk, hka, cj⟩ : ∃ gk, ka = some ⟨gk, 0, none⟩ ∧ wr.cell? ⟨gk, j, none⟩ = some (.int .i64 (xt : Nat)) := by
        obtain ⟨LK', rfl⟩ : ∃ y, LK = y + 1 := ⟨LK - 1, by omega⟩
        obtain ⟨g, c, hv⟩ := own_some hOr
        injection hv with h1 h2 h3
        subst h1
        refine ⟨g, rfl, ?_⟩
        have hn : NOwn wr w1.heap.size (.slice (some ⟨g, 0, none⟩) (LK' + 1) kc) (nsI TK) := by
          unfold NOwn; rw [HL2.out]; exact hOr
        have := (nown_cell hn (k := j) (by rw [HL2.out]; exact hlt)).1
        rw [nsI_at hjk, ← hxt] at this
        exact this
      subst hka
      have HBr := Lib.hid hBr
      have HXF : Hid (∀ i (h : i < F.length), i < e → F[i].2.2.1 < xt + len) := (HIN.out xt (by rw [HDR.out]; exact List.mem_cons_self ..)).1
      have HXT : Hid (∀ i (h : i < T.length), i < l → T[i].2.2.2 ≤ xt) := (HIN.out xt (by rw [HDR.out]; exact List.mem_cons_self ..)).2
      have HINC : Hid (∀ x ∈ TK.drop (j + 1), xt < x) := fun x hx => by
        obtain ⟨i, hi, rfl⟩ := List.mem_iff_getElem.1 hx
        rw [List.length_drop] at hi
        rw [List.getElem_drop, hxt]
        exact List.pairwise_iff_getElem.1 HTI.out j (j + 1 + i) hjk (by omega) (by omega)
      clear hxt hjk hBr hOr
      go_upto_region 6 with fail
      clear cj
      obtain ⟨X, hX⟩ : ∃ X, X = xt + len := ⟨_, rfl⟩
      have hXi : (xt : Int) + (len : Int) = (X : Int) := by omega
      have hX43 : X ≤ 4507997673881600 := by omega
      have HXE := Lib.hid hX
      rw [← hX] at HXF
      clear hX
      obtain ⟨w9, hw9⟩ : ∃ w9, w9 = wr := ⟨_, rfl⟩
      subst hw9
      go_loopw [12] (fun ev wr => ∃ (e : Nat) (C : Nat → Nat), e ≤ LF ∧ ev = .int .i64 e ∧ Hid (Mk fl F T q e l C) ∧ Hid (MIo OW wr m w.heap.size q N C) ∧ Hid (∀ i (h : i < F.length), i < e → F[i].2.2.1 < X) ∧ Hid (Chg OW w2 wr)) (fun ev _ => LF - (RowKit.intOf ev).toNat)
      case atStart => exact ⟨e, C, he, rfl, HK, HM, HXF, HC⟩
      case round =>
        clear HK HM HC HXF HBr HIN
        obtain ⟨e, C, he, rfl, HK, HM, HXF, HC⟩ := hrel
        have HBr := Lib.hid (HOWN.out wr HC.out).1
        have m2 := (HB.out.kept HBr.out).cell 2
        simp at m2
        go_upto_region 6 with fail
        go_cut [49] from 29 to 61 (fun c wx => ∃ β : Bool, c = .bool β ∧ Hid (InF F X e β) ∧ Hid (wr = wx))
        case first =>
          by_cases hlt1 : e < LF
          · have hd1 : decide (e < LF) = true := decide_eq_true hlt1
            have hei : (e : Int) < (LF : Int) := by omega
            have hel : e < F.length := by rw [← HLF.out]; exact hlt1
            cases fa with
            | none => have := hrow_none HRF.out; rw [this] at hel; simp at hel
            | some A =>
            obtain ⟨bb, off, rfl⟩ := hrow_some HRF.out (by omega)
            obtain ⟨c0, c1, c2, c3⟩ := he_cells HRF.out hel HBr.out
            have HIY := Lib.hid (inF_at SF.out HXF.out hel)
            obtain ⟨y, hy⟩ : ∃ y, y = F[e] := ⟨_, rfl⟩
            rw [← hy] at c0 c1 c2 c3 HIY
            obtain ⟨s, o, f, t⟩ := y
            dsimp only at c0 c1 c2 c3 HIY
            clear hy hel
            by_cases hf : f < X
            · have hfi : (f : Int) < (X : Int) := by omega
              have hdf : decide (f < X) = true := decide_eq_true hf
              rw [hdf] at HIY
              go_wp2_with fail
              go_meet
              exact ⟨true, rfl, HIY, rfl⟩
            · have hfi : ¬ (f : Int) < (X : Int) := by omega
              have hdf : decide (f < X) = false := decide_eq_false hf
              rw [hdf] at HIY
              go_wp2_with fail
              go_meet
              exact ⟨false, rfl, HIY, rfl⟩
          · have hd1 : decide (e < LF) = false := decide_eq_false hlt1
            have hei : ¬ (e : Int) < (LF : Int) := by omega
            have HIY := Lib.hid (inF_end HXF.out (show ¬ e < F.length by rw [← HLF.out]; exact hlt1))
            go_wp2_with fail
            go_meet
            exact ⟨false, rfl, HIY, rfl⟩
        case rest =>
          obtain ⟨β, rfl, HIB, hw⟩ := hcut
          obtain rfl := hw.out
          cases β with
          | true =>
            have hel : e < F.length := by obtain ⟨h, _⟩ := HIB.out.1 rfl; exact h
            have hlt1 : e < LF := by rw [HLF.out]; exact hel
            have hei : (e : Int) < (LF : Int) := by omega
            have hd1 : decide (e < LF) = true := decide_eq_true hlt1
            cases fa with
            | none => have := hrow_none HRF.out; rw [this] at hel; simp at hel
            | some A =>
            obtain ⟨bb, off, rfl⟩ := hrow_some HRF.out (by omega)
            obtain ⟨c0, c1, c2, c3⟩ := he_cells HRF.out hel HBr.out
            have HX1 := Lib.hid (HIB.out.next HXF.out)
            have HK1 := Lib.hid (HK.out.hit hel)
            have HXX := HHE.out _ (List.getElem_mem hel)
            have hCC : ∀ i, i < N → C i ≤ 100000 := fun i _ => by have := HK.out.le i; have := HFN.out; have := HLF.out; omega
            obtain ⟨y, hy⟩ : ∃ y, y = F[e] := ⟨_, rfl⟩
            rw [← hy] at c0 c1 c2 c3 HXX HK1
            obtain ⟨s, o, f, t⟩ := y
            dsimp only at c0 c1 c2 c3 HXX HK1
            have AH := Lib.hid (add_hitC OW m w.heap.size q N s o C wr HM.out hq10 HXX.1 HXX.2.1 hCC HXX.2.2 hN1)
            clear hy hel HXX hCC 
            go_wp2_with fail
            refine AH.out.mono ?_; rintro e5 w5 ⟨rfl, hm5, b5⟩
            have HM5 := Lib.hid hm5
            have HC5 : Hid (Chg OW w2 w5) := HC.out.trans b5
            clear hm5 b5 AH
            go_wp2_with fail
            go_roundw
            case rel => exact ⟨e + 1, _, hlt1, by go_num, HK1, HM5, HX1, HC5⟩
            case measure => simp [RowKit.intOf]; omega
          | false =>
            have HDF := Lib.hid (HIB.out.2 rfl)
            clear HIB hw
            obtain ⟨w9, hw9⟩ : ∃ w9, w9 = wr := ⟨_, rfl⟩
            subst hw9
            go_upto_region 9 with fail
            go_loopw [13] (fun lv wr => ∃ (l : Nat) (C : Nat → Nat), l ≤ LT ∧ lv = .int .i64 l ∧ Hid (Mk fl F T q e l C) ∧ Hid (MIo OW wr m w.heap.size q N C) ∧ Hid (∀ i (h : i < T.length), i < l → T[i].2.2.2 ≤ xt) ∧ Hid (Chg OW w2 wr)) (fun lv _ => LT - (RowKit.intOf lv).toNat)
            case atStart => exact ⟨l, C, hl, rfl, HK, HM, HXT, HC⟩
            case round =>
              clear HK HM HC HXT HBr
              obtain ⟨l, C, hl, rfl, HK, HM, HXT, HC⟩ := hrel
              have HBr := Lib.hid (HOWN.out wr HC.out).1
              have m3 := (HB.out.kept HBr.out).cell 3
              simp at m3
              go_upto_region 9 with fail
              go_cut [80] from 62 to 92 (fun c wx => ∃ β : Bool, c = .bool β ∧ Hid (InT T xt l β) ∧ Hid (wr = wx))
              case first =>
                by_cases hlt1 : l < LT
                · have hd1 : decide (l < LT) = true := decide_eq_true hlt1
                  have hei : (l : Int) < (LT : Int) := by omega
                  have hel : l < T.length := by rw [← HLT.out]; exact hlt1
                  cases ta with
                  | none => have := hrow_none HRT.out; rw [this] at hel; simp at hel
                  | some A =>
                  obtain ⟨bb, off, rfl⟩ := hrow_some HRT.out (by omega)
                  obtain ⟨c0, c1, c2, c3⟩ := he_cells HRT.out hel HBr.out
                  have HIY := Lib.hid (inT_at ST.out HXT.out hel)
                  obtain ⟨y, hy⟩ : ∃ y, y = T[l] := ⟨_, rfl⟩
                  rw [← hy] at c0 c1 c2 c3 HIY
                  obtain ⟨s, o, f, t⟩ := y
                  dsimp only at c0 c1 c2 c3 HIY
                  clear hy hel
                  by_cases hf : t ≤ xt
                  · have hfi : (t : Int) ≤ (xt : Int) := by omega
                    have hdf : decide (t ≤ xt) = true := decide_eq_true hf
                    rw [hdf] at HIY
                    go_wp2_with fail
                    go_meet
                    exact ⟨true, rfl, HIY, rfl⟩
                  · have hfi : ¬ (t : Int) ≤ (xt : Int) := by omega
                    have hdf : decide (t ≤ xt) = false := decide_eq_false hf
                    rw [hdf] at HIY
                    go_wp2_with fail
                    go_meet
                    exact ⟨false, rfl, HIY, rfl⟩
                · have hd1 : decide (l < LT) = false := decide_eq_false hlt1
                  have hei : ¬ (l : Int) < (LT : Int) := by omega
                  have HIY := Lib.hid (inT_end HXT.out (show ¬ l < T.length by rw [← HLT.out]; exact hlt1))
                  go_wp2_with fail
                  go_meet
                  exact ⟨false, rfl, HIY, rfl⟩
              case rest =>
                obtain ⟨β, rfl, HIB, hw⟩ := hcut
                obtain rfl := hw.out
                cases β with
                | true =>
                  have hel : l < T.length := by obtain ⟨h, _⟩ := HIB.out.1 rfl; exact h
                  have hlt1 : l < LT := by rw [HLT.out]; exact hel
                  have hei : (l : Int) < (LT : Int) := by omega
                  have hd1 : decide (l < LT) = true := decide_eq_true hlt1
                  cases ta with
                  | none => have := hrow_none HRT.out; rw [this] at hel; simp at hel
                  | some A =>
                  obtain ⟨bb, off, rfl⟩ := hrow_some HRT.out (by omega)
                  obtain ⟨c0, c1, c2, c3⟩ := he_cells HRT.out hel HBr.out
                  have HX1 := Lib.hid (HIB.out.next HXT.out)
                  have hmm := HK.out.miss hel (HROOM.out e (l + 1) xt (by rw [← HXE.out]; exact HDF.out) HX1.out)
                  have HK1 := Lib.hid hmm.1
                  have hgt := hmm.2
                  clear hmm
                  have HXX := HHT.out _ (List.getElem_mem hel)
                  have hCC : ∀ i, i < N → C i ≤ 100000 := fun i _ => by have := HK.out.le i; have := HFN.out; have := HLF.out; omega
                  obtain ⟨y, hy⟩ : ∃ y, y = T[l] := ⟨_, rfl⟩
                  rw [← hy] at c0 c1 c2 c3 HXX HK1 hgt
                  obtain ⟨s, o, f, t⟩ := y
                  dsimp only at c0 c1 c2 c3 HXX HK1 hgt
                  have AH := Lib.hid (add_missC OW m w.heap.size q N s o C wr HM.out hq10 HXX.1 HXX.2.1 hCC (fun i _ => hgt i) HXX.2.2 hN1)
                  clear hy hel HXX hCC hgt
                  go_wp2_with fail
                  refine AH.out.mono ?_; rintro e5 w5 ⟨rfl, hm5, b5⟩
                  have HM5 := Lib.hid hm5
                  have HC5 : Hid (Chg OW w2 w5) := HC.out.trans b5
                  clear hm5 b5 AH
                  go_wp2_with fail
                  go_roundw
                  case rel => exact ⟨l + 1, _, hlt1, by go_num, HK1, HM5, HX1, HC5⟩
                  case measure => simp [RowKit.intOf]; omega
                | false =>
                  have HDT := Lib.hid (HIB.out.2 rfl)
                  clear HIB hw
                  have FI := Lib.hid (first_any m w.heap.size q N C wr HM.out.mi hq10 HNQ.out)
                  have hv := HATV.out e l C xt HK.out (by rw [← HXE.out]; exact HDF.out) HDT.out
                  rw [hv] at FI
                  clear hv
                  cases hfb : firstB ⟨n, fl, F⟩ q xt (xt + len) with
                  | some sb =>
                    have hav : atV ⟨n, fl, F⟩ q xt (xt + len) = ((sb : Int), true) := by unfold atV; rw [hfb]
                    rw [hav] at FI
                    dsimp only at FI
                    have HEV : Hid (earlyV ⟨n, fl, F⟩ q len TK = ((xt : Int), (sb : Int), true)) := by
                      have h := HE.out
                      rw [HDR.out, earlyL_hit hfb] at h
                      unfold Hid earlyV
                      rw [h]
                    clear hav hfb
                    go_wp2_with fail
                    refine FI.out.mono ?_; rintro e5 w5 ⟨rfl, b5⟩
                    have HB5 : Hid (Below w.heap.size w w5) := HBr.out.trans (b5.mono HBr.out.size)
                    clear b5 FI
                    go_wp2_with fail
                    go_ret3
                    exact ⟨by rw [HEV.out]; rfl, HB5.out⟩
                  | none =>
                    have hav : atV ⟨n, fl, F⟩ q xt (xt + len) = (0, false) := by unfold atV; rw [hfb]
                    rw [hav] at FI
                    dsimp only at FI
                    have HEN : Hid (earlyL ⟨n, fl, F⟩ q len TK = earlyL ⟨n, fl, F⟩ q len (TK.drop (j + 1))) := by
                      have h := HE.out
                      rw [HDR.out, earlyL_miss hfb] at h
                      exact h
                    clear hav hfb
                    go_wp2_with fail
                    refine FI.out.mono ?_; rintro e5 w5 ⟨rfl, b5⟩
                    have HM5 := Lib.hid (HM.out.kept b5)
                    have HC5 : Hid (Chg OW w2 w5) := HC.out.more b5
                    clear b5 FI
                    go_wp2_with fail
                    go_roundw
                    case rel =>
                      refine ⟨e, l, j + 1, C, hlt, he, hl, rfl, rfl, by go_num, HK, HM5, fun x hx => ⟨fun i h hi => ?_, fun i h hi => ?_⟩, HEN, HC5⟩
                      · have h1 := HXF.out i h hi
                        have h2 := HINC.out x hx
                        have h3 := HXE.out
                        omega
                      · have h1 := HXT.out i h hi
                        have h2 := HINC.out x hx
                        omega
                    case measure => simp [RowKit.intOf]; omega
    · have hd : decide (j < LK) = false := decide_eq_false hlt
      have hji : ¬ (j : Int) < (LK : Int) := by omega
      have HEV : Hid (earlyV ⟨n, fl, F⟩ q len TK = (0, 0, false)) := by
        have hjl : TK.drop j = [] := by rw [List.drop_eq_nil_iff, ← HLK.out]; omega
        have h := HE.out
        rw [hjl] at h
        unfold Hid earlyV
        rw [h]; rfl
      have HBr := Lib.hid (HOWN.out wr HC.out).1
      clear hlt hj
      go_wp2_with fail
      go_ret3
      exact ⟨by rw [HEV.out]; rfl, HBr.out⟩
end Go.Proofs.Ytioeblljabohbaa
