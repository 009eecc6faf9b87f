/-
  WaitsEnds: when all others have ended, a job that waits, and is not held, is ready at its time, or never; it says the same however else the others are called: so the law returns true for every input.
-/
import Derived.Test.YtfabjlhepadkpaaWtNO
import Derived.Test.YtfabjlhepadkpaaWtP
import Derived.Test.YtfabjlhepadkpaaLaw
import Derived.Test.YtfabjlhepadkpaaWtS
import Derived.Test.YtfabjlhepadkpaaRows
import Derived.Test.YtfabjlhepadkpaaArgs2
namespace Go.Proofs.Ytfabjlhepadkpaa.waitsEnds
open Go.ChangeShapes Go.WideShapes Go.ChangeAt Go.RowKit
set_option linter.unusedVariables false

theorem own : ownKnob Try.prog.godebug = none := by kernel_rfl

open Go Go.ChangeShapes Go.WideShapes Go.ChangeAt Go.RowKit Go.Lib
/-- x: a row of as many jobs, its own, right; those before i, but k, have ended. -/
structure XE (w : World) (l : List Jb) (L : List Jb) (i : Nat) : Prop where
  len : L.length = l.length
  ok : okJs L = true
  orig : Orig w L
  done : ∀ m (hm : m < L.length), m < i → 5 ≤ L[m].how ∧ L[m].how ≤ 9
set_option maxRecDepth 100000 in
set_option maxHeartbeats 8000000 in
theorem walk (v : Value) (l : List Jb) (idz : Int) (ov : Value) (on : List Int) (w : World) (h : JArg w v l) (hidz : (Lit.int .u32 idz).wf = true) (ho : IntsArg w .u8 ov on) :
    Calls Try.prog 8 #[v, .int .u32 idz, ov] w fun e w' => e = .returned (.bool true) ∧ Below w.heap.size w w' := by
  obtain ⟨u0, u1⟩ := u32_wfJ hidz
  obtain ⟨id, rfl⟩ := Int.eq_ofNat_of_zero_le u0
  have hid : id < 4294967296 := by omega
  clear hidz u0 u1
  have MN := Lib.hid (many14_any v l w h)
  have K : Hid (∀ w1, Calls Try.prog 11 #[] w1 fun e w' => e = .returned (.bool true) ∧ Below w1.heap.size w1 w') := known14_any
  have HL := Lib.hid h
  have hos : ∃ oa oc, ov = .slice oa on.length oc := by
    rcases ho with ⟨rfl, a, c, rfl⟩ | ⟨b, off, c, rfl, _⟩
    · exact ⟨a, c, rfl⟩
    · exact ⟨_, c, rfl⟩
  obtain ⟨oa, oc, rfl⟩ := hos
  have HO : Hid (∀ i (h : i < on.length), ∃ (b off z : Nat), oa = some ⟨b, off, none⟩ ∧ z < 256 ∧ ∀ w', Below w.heap.size w w' → w'.cell? ⟨b, off + i, none⟩ = some (.int .u8 (z : Int))) := fun i h => by
    rcases ho with ⟨e, _⟩ | ⟨b, off, c, e, h0, _, hb, hc, hwf⟩
    · rw [e] at h; simp at h
    · injection e with e1 _ e3
      have hz := hwf (on[i]) (List.getElem_mem h)
      have hz2 : 0 ≤ on[i] ∧ on[i] ≤ 255 := by simpa [Lit.wf, IntKind.min, IntKind.max, IntKind.bits, IntKind.signed] using hz
      obtain ⟨z, hze⟩ := Int.eq_ofNat_of_zero_le hz2.1
      refine ⟨b, off, z, e1, by omega, fun w' hb' => ?_⟩
      have h2 := hc i h
      rw [List.getD_eq_getElem?_getD, List.getElem?_eq_getElem h] at h2
      simp only [Option.getD_some] at h2
      rw [hze] at h2
      exact cell_next hb' h2
  obtain ⟨LO, hLO⟩ : ∃ n, n = on.length := ⟨_, rfl⟩
  rw [← hLO] at HO ⊢
  obtain ⟨a, c, rfl⟩ := h.row.slice
  obtain ⟨N, hN⟩ : ∃ N, N = l.length := ⟨_, rfl⟩
  rw [← hN] at MN ⊢
  have HN := Lib.hid hN
  have HID := Lib.hid hid
  have hidb : (id : Int) < 4294967296 := by omega
  clear h hN ho hLO
  go_enter Try.func8, Try.ntmps8
  go_wp2_with fail
  refine MN.out.mono ?_; rintro e w1 ⟨hm, b1⟩
  have HB1 := Lib.hid b1
  clear b1 MN
  rcases hm with rfl | ⟨rfl, hf⟩
  · go_wp2_with fail
    refine (K.out _).mono ?_; rintro e w2 ⟨rfl, b2⟩
    have HB2 := below_next b2 HB1.out
    clear b2
    go_wp2_with fail
    go_ret
    exact ⟨rfl, HB2⟩
  · have HJ := Lib.hid (HL.out.few hf)
    have hlen : N ≤ 60 := by rw [HN.out]; exact hf.1
    have CA : Hid (∀ w1, Below w.heap.size w w1 → Calls Try.prog 12 #[.slice a N c] w1 fun e w' => e = .returned (.int .i64 (chkJ l)) ∧ Below w1.heap.size w1 w') := fun w1 hb => by rw [HN.out]; exact wcheck_any _ l w1 (HJ.out.kept hb)
    cases hck : okJs l with
    | false =>
      rw [notJs_chk hck] at CA
      go_wp2_with fail
      refine (CA.out _ HB1.out).mono ?_; rintro e w2 ⟨rfl, b2⟩
      have HB2 := Lib.hid (below_next b2 HB1.out)
      clear b2
      go_wp2_with fail
      refine (K.out _).mono ?_; rintro e w3 ⟨rfl, b3⟩
      have HB3 := below_next b3 HB2.out
      clear b3
      go_wp2_with fail
      go_ret
      exact ⟨rfl, HB3⟩
    | true =>
      rw [okJs_chk hck] at CA
      have HX0 : Hid (XE w l l 0) := ⟨rfl, hck, orig_of HJ.out, fun m _ hm => absurd hm (by omega)⟩
      clear hck hf
      go_wp2_with fail
      refine (CA.out _ HB1.out).mono ?_; rintro e w2 ⟨rfl, b2⟩
      have HB2 := Lib.hid (below_next b2 HB1.out)
      clear b2 CA
      by_cases hz : id = 0 ∨ N < id
      · have q1 : ((id : Int) == 0 || decide ((id : Int) > (N : Int))) = true := by
          rcases hz with h | h <;> simp <;> omega
        by_cases hz0 : id = 0
        · have q2 : ((id : Int) == 0) = true := by simp; omega
          have q2' : (id == 0) = true := by simp [hz0]
          go_wp2_with fail
          refine (K.out _).mono ?_; rintro e w3 ⟨rfl, b3⟩
          have HB3 := below_next b3 HB2.out
          clear b3
          go_wp2_with fail
          go_ret
          exact ⟨rfl, HB3⟩
        · have q2 : ((id : Int) == 0) = false := by simp; omega
          have q2' : (id == 0) = false := by simp [hz0]
          have q3 : decide ((id : Int) > (N : Int)) = true := decide_eq_true (by omega)
          have q3' : decide (N < id) = true := decide_eq_true (by omega)
          have hgt : (id : Int) > (N : Int) := by omega
          go_wp2_with fail
          refine (K.out _).mono ?_; rintro e w3 ⟨rfl, b3⟩
          have HB3 := below_next b3 HB2.out
          clear b3
          go_wp2_with fail
          go_ret
          exact ⟨rfl, HB3⟩
      have q2 : ((id : Int) == 0) = false := by simp; omega
      have q2' : (id == 0) = false := by simp; omega
      have q3 : decide ((id : Int) > (N : Int)) = false := decide_eq_false (by omega)
      have q3' : decide (N < id) = false := decide_eq_false (by omega)
      have hid1 : 1 ≤ id ∧ id ≤ N := by omega
      clear hz
      have SRC : Hid (Src w2 26 (.slice a N c) l.length (l.flatMap jbV)) := by unfold Hid; rw [HN.out]; exact src_of_rowG jbV_len (by decide) (HJ.out.row.kept HB2.out)
      have HONE : Hid (∀ j ∈ l, JbS j) := fun j hj => HJ.out.one hj
      have hl60 : l.length ≤ 60 := by rw [← HN.out]; exact hlen
      go_wp2_with (first | (at_builtin; refine app_jobs rfl _ _ rfl w.heap.size (.slice none 0 0) 0 [] rfl (World.ownsRow_nil _ _ _ _) rfl _ l rfl SRC.out HONE.out (by omega) HB2.out.size ?_; intro v5 w5 hown5 hgrow5 hat5; have HB5 : Hid (Below w.heap.size w w5) := HB2.out.grown hgrow5 HB2.out.size (fun k hk => by cases hk); have HO5 : Hid (JOwn w5 w.heap.size v5 N l) := by (unfold Hid; rw [HN.out]; simpa using hown5)); clear hown5 hgrow5 hat5; obtain ⟨xa, xc, rfl⟩ := own_slice HO5.out)
      clear SRC HONE hl60
      go_wp2_with fail
      go_loopw [8, 9] (fun iv _ wr => ∃ (i : Nat) (L : List Jb), i ≤ N ∧ iv = .int .i64 (i : Nat) ∧ Hid (XE w l L i) ∧ Hid (JOwn wr w.heap.size (.slice xa N xc) N L) ∧ Hid (Below w.heap.size w wr)) (fun iv _ _ => N - (RowKit.intOf iv).toNat)
      case atStart => exact ⟨0, l, Nat.zero_le _, rfl, HX0.out, HO5.out, HB5.out⟩
      case round =>
        obtain ⟨i, L, hi, rfl, HX, HOW, HB⟩ := hrel
        have hLN : L.length = N := by rw [HX.out.len]; exact HN.out.symm
        by_cases hlt : i < N
        · have d1 : decide ((i : Int) < (N : Int)) = true := decide_eq_true (by omega)
          have d1' : decide (i < N) = true := decide_eq_true hlt
          have hii : (i : Int) < (N : Int) := by omega
          obtain ⟨gX, e, hgX1, _⟩ := own_some HOW.out (by omega)
          subst e
          obtain ⟨⟨u0, z0⟩, f0, _, _⟩ := own_how HOW.out hLN.symm hlt 0
          have HZ : Hid (∀ z : Int, 5 ≤ z → z ≤ 9 → XE w l (setH L i z) (i + 1) ∧ JOwn (wr.setCell ⟨gX, i * 26 + 19, none⟩ (.int .i64 z)) w.heap.size (.slice (some ⟨gX, 0, none⟩) N xc) N (setH L i z) ∧ Below w.heap.size w (wr.setCell ⟨gX, i * 26 + 19, none⟩ (.int .i64 z))) := fun z h1 h2 => by
            obtain ⟨_, _, ho8, hc8⟩ := own_how HOW.out hLN.symm hlt z
            refine ⟨⟨by rw [setH_len]; exact HX.out.len, setH_ok HX.out.ok (by unfold howJ; split; omega; split; omega; split; omega; split; omega; omega), HX.out.orig.set (by simp [Lit.wf, IntKind.min, IntKind.max, IntKind.bits, IntKind.signed]; omega), fun m hm hmi => ?_⟩, ho8, HB.out.trans (hc8.to_below HB.out.size (fun b hb e => by omega))⟩
            have hm' : m < L.length := by rw [setH_len] at hm; exact hm
            rw [setH_at L i z m hm']
            split
            · exact ⟨h1, h2⟩
            · exact HX.out.done m hm' (by omega)
          by_cases hlo : i < LO
          · have d2 : decide ((i : Int) < (LO : Int)) = true := decide_eq_true (by omega)
            have d2' : decide (i < LO) = true := decide_eq_true hlo
            have hlI : (i : Int) < (LO : Int) := by omega
            obtain ⟨bo, oo, zz, e, hzz, hcz⟩ := HO.out i hlo
            subst e
            have y0 := hcz wr HB.out
            clear hcz
            obtain ⟨x1, x2, x3⟩ := HZ.out (5 + (zz : Int) % 5) (by omega) (by omega)
            have HX8 := Lib.hid x1
            have HO8 := Lib.hid x2
            have HB8 := Lib.hid x3
            clear x1 x2 x3 HZ
            go_wp2_with fail
            go_roundw
            case rel => exact ⟨i + 1, setH L i _, hlt, by go_num, HX8.out, HO8.out, HB8.out⟩
            case measure => simp [RowKit.intOf]; omega
          · have d2 : decide ((i : Int) < (LO : Int)) = false := decide_eq_false (by omega)
            have d2' : decide (i < LO) = false := decide_eq_false hlo
            obtain ⟨x1, x2, x3⟩ := HZ.out 5 (by decide) (by decide)
            have HX8 := Lib.hid x1
            have HO8 := Lib.hid x2
            have HB8 := Lib.hid x3
            clear x1 x2 x3 HZ
            go_wp2_with fail
            go_roundw
            case rel => exact ⟨i + 1, setH L i 5, hlt, by go_num, HX8.out, HO8.out, HB8.out⟩
            case measure => simp [RowKit.intOf]; omega
        · have d1 : decide ((i : Int) < (N : Int)) = false := decide_eq_false (by omega)
          have d1' : decide (i < N) = false := decide_eq_false hlt
          have hiN : i = N := by omega
          obtain ⟨gX, e, hgX1, _⟩ := own_some HOW.out (by omega)
          subst e
          obtain ⟨k, hk⟩ : ∃ k, id = k + 1 := ⟨id - 1, by omega⟩
          have hkN : k < N := by omega
          have hkL : k < L.length := by omega
          obtain ⟨⟨u0, z0⟩, f0, ho8, hc8⟩ := own_how HOW.out hLN.symm hkN 1
          obtain ⟨W, hW⟩ : ∃ W, W = wr.setCell ⟨gX, k * 26 + 19, none⟩ (.int .i64 1) := ⟨_, rfl⟩
          have HB8 : Hid (Below w.heap.size w W) := by unfold Hid; rw [hW]; exact HB.out.trans (hc8.to_below HB.out.size (fun b hb e => by omega))
          rw [← hW] at ho8
          obtain ⟨L2, hL2⟩ : ∃ L2, L2 = setH L k 1 := ⟨_, rfl⟩
          rw [← hL2] at ho8
          have hlen2 : L2.length = N := by rw [hL2, setH_len]; exact hLN
          have hk2 : k < L2.length := by omega
          have HJ2 : Hid (JRw W (.slice (some ⟨gX, 0, none⟩) N xc) L2) := jrw_of_own ho8 hlen2.symm (by rw [hL2]; exact HX.out.orig.set (by decide)) HB8.out (by omega)
          have HE : Hid (Ended L2 k hk2) := by
            subst hL2
            refine ⟨setH_ok HX.out.ok (by decide), ?_, fun m hm hne => ?_⟩
            · rw [setH_at L k 1 k hkL, if_pos rfl]
            · have hm' : m < L.length := by rw [setH_len] at hm; exact hm
              rw [setH_at L k 1 m hm', if_neg hne]
              exact HX.out.done m hm' (by omega)
          have HND := Lib.hid (HJ2.out.nds _ (List.getElem_mem hk2))
          obtain ⟨bx, ox, e, hrg⟩ := JRw.at HJ2.out (Below.refl _ _) hk2
          injection e with e
          injection e with e1 e2 _
          subst e1 e2
          have x10 : W.cell? ⟨gX, k * 26 + 10, none⟩ = some (.int .i64 L2[k].most) := by have := hrg 10 _ rfl; simpa using this
          have x11 : W.cell? ⟨gX, k * 26 + 11, none⟩ = some (.bool L2[k].any) := by have := hrg 11 _ rfl; simpa using this
          have x12 : W.cell? ⟨gX, k * 26 + 12, none⟩ = some L2[k].dv := by have := hrg 12 _ rfl; simpa using this
          have x14 : W.cell? ⟨gX, k * 26 + 14, none⟩ = some (.int .i64 L2[k].beg) := by have := hrg 14 _ rfl; simpa using this
          have CS : Hid (∀ t w1, Below W.heap.size W w1 → Calls Try.prog 20 #[.slice (some ⟨gX, 0, none⟩) N xc, .int .u32 (id : Nat), .int .i64 t] w1 fun e w' => e = .returned (.int .i64 (SayJ L2 id t)) ∧ Below w1.heap.size w1 w') := fun t w1 hb => Say14_any _ L2 id t w1 (HJ2.out.kept hb) HID.out
          have HBAD : Hid (¬ okD L2[k].any (ndsOf L2[k].nd) → SayJ L2 id 0 = 0) := fun h => by rw [hk]; exact HE.out.bad h 0
          have HSAY : Hid (okD L2[k].any (ndsOf L2[k].nd) → (∀ p ∈ L2[k].nd, id ∉ p.2.2) → 0 ≤ L2[k].most → SayJ L2 id L2[k].beg = 2 ∨ SayJ L2 id L2[k].beg = 3) := fun h1 h2 h3 => by rw [hk] at h2 ⊢; exact HE.out.say h1 h2 h3
          obtain ⟨j, hj⟩ : ∃ j, j = L2[k] := ⟨_, rfl⟩
          rw [← hj] at x10 x11 x12 x14 HBAD HSAY HND
          obtain ⟨da, dc, edv⟩ := HND.out.row.slice
          obtain ⟨M, hM⟩ : ∃ M, M = j.nd.length := ⟨_, rfl⟩
          rw [← hM] at edv
          rw [edv] at x12 HND
          have HM := Lib.hid hM
          have y10 : W.cell? ⟨gX, k * 26 + 3 + 6 + 1, none⟩ = some (.int .i64 j.most) := x10
          have y11 : W.cell? ⟨gX, k * 26 + 3 + 8, none⟩ = some (.bool j.any) := x11
          have y12 : W.cell? ⟨gX, k * 26 + 3 + 8 + 1, none⟩ = some (.slice da M dc) := x12
          have y14 : W.cell? ⟨gX, k * 26 + 3 + 11, none⟩ = some (.int .i64 j.beg) := x14
          obtain ⟨any, hany⟩ : ∃ x, x = j.any := ⟨_, rfl⟩
          obtain ⟨most, hmost⟩ : ∃ x, x = j.most := ⟨_, rfl⟩
          obtain ⟨beg, hbeg⟩ : ∃ x, x = j.beg := ⟨_, rfl⟩
          obtain ⟨nd, hnd⟩ : ∃ x, x = j.nd := ⟨_, rfl⟩
          rw [← hany] at x11 y11 HBAD HSAY
          rw [← hmost] at x10 y10 HSAY
          rw [← hbeg] at x14 y14 HSAY
          rw [← hnd] at HND HM HBAD HSAY
          have CK : Hid (∀ w1, Below W.heap.size W w1 → Calls Try.prog 28 #[.agg #[.bool any, .slice da M dc]] w1 fun e w' => e = .returned (.int .i64 (chkD any (ndsOf nd))) ∧ Below w1.heap.size w1 w') := fun w1 hb => rcheck_any any _ nd w1 (HND.out.kept hb)
          have hk1 : IntKind.u32.wrap ((id : Int) - 1) = (k : Int) := by
            have : (id : Int) - 1 = (k : Int) := by omega
            rw [this]; exact Int.emod_eq_of_lt (by omega) (by show _ < (4294967296 : Int); omega)
          have hkI : (k : Int) < (N : Int) := by omega
          have hkd : decide ((k : Int) < (N : Int)) = true := decide_eq_true hkI
          have hidc : (id : Int) < 1000 := by omega
          have HW := Lib.hid hW
          clear hW hc8 ho8 hL2 hlen2 hk2 HJ2 HE hrg hj edv hM hany hmost hbeg hnd HX HOW HB hk hkL hLN hlt hi hiN hidb
          go_upto_region 13 with fail
          rw [← HW.out]
          by_cases hok : okD any (ndsOf nd)
          case neg =>
            have hc : chkD any (ndsOf nd) = 2 := if_neg hok
            have hs0 := HBAD.out hok
            rw [hc] at CK
            obtain ⟨s, hs⟩ : ∃ s, s = SayJ L2 id 0 := ⟨_, rfl⟩
            have C0 := Lib.hid (CS.out 0)
            rw [hs0] at C0
            clear hc hok hs0 hs HBAD HSAY CS
            go_wp2_with fail
            refine (CK.out W (Below.refl _ _)).mono ?_; rintro e w2 ⟨rfl, b2⟩
            have HB9 := Lib.hid b2
            clear b2 CK
            go_wp2_with fail
            refine (C0.out w2 HB9.out).mono ?_; rintro e w3 ⟨rfl, b3⟩
            have HB10 := Lib.hid (below_next b3 HB9.out)
            clear b3 C0
            go_wp2_with fail
            refine (K.out _).mono ?_; rintro e w4 ⟨rfl, b4⟩
            have HB11 := below_next (below_next b4 HB10.out) HB8.out
            clear b4
            go_wp2_with fail
            go_ret
            exact ⟨rfl, HB11⟩
          case pos =>
            have hc : chkD any (ndsOf nd) = 0 := if_pos hok
            rw [hc] at CK
            have HOK := Lib.hid hok
            clear hc hok HBAD
            have CB := Lib.hid (CS.out beg)
            clear CS
            obtain ⟨s, hs⟩ : ∃ s, s = SayJ L2 id beg := ⟨_, rfl⟩
            rw [← hs] at CB HSAY
            have HS := Lib.hid (HSAY.out HOK.out)
            clear hs HSAY HOK
            go_wp2_with fail
            refine (CK.out W (Below.refl _ _)).mono ?_; rintro e w2 ⟨rfl, b2⟩
            have HB9 := Lib.hid b2
            have v14 := cell_next b2 y14
            clear b2 CK
            go_wp2_with fail
            refine (CB.out w2 HB9.out).mono ?_; rintro e w3 ⟨rfl, b3⟩
            have HB10 := Lib.hid (below_next b3 HB9.out)
            clear b3 CB v14
            go_wp2_with fail
            go_loopw [11, 12, 13, 14] (fun sv iv _ _ wr => ∃ (i : Nat) (β : Bool), i ≤ M ∧ sv = .bool β ∧ iv = .int .i64 (i : Nat) ∧ Hid (β = false → ∀ q (hq : q < nd.length), q < i → id ∉ (nd[q]).2.2) ∧ Hid (Below W.heap.size W wr)) (fun _ iv _ _ _ => M - (RowKit.intOf iv).toNat)
            case atStart => exact ⟨0, false, Nat.zero_le _, rfl, rfl, fun _ q _ h => by omega, HB10.out⟩
            case round =>
              obtain ⟨i2, β, hi2, rfl, rfl, HP, HBi⟩ := hrel
              have z12 := cell_next HBi.out y12
              have hMb : M ≤ 1048576 := by rw [HM.out]; exact HND.out.len
              by_cases hli : i2 < M
              · have d2 : decide ((i2 : Int) < (M : Int)) = true := decide_eq_true (by omega)
                have d2' : decide (i2 < M) = true := decide_eq_true hli
                have hiI : (i2 : Int) < (M : Int) := by omega
                have hin : i2 < nd.length := by rw [← HM.out]; exact hli
                obtain ⟨nb, no, e, z0, z1, hu, hul⟩ := NRw.at HND.out HBi.out hin
                subst e
                have HQ : Hid (∀ β', (β' = false → β = false ∧ id ∉ (nd[i2]).2.2) → β' = false → ∀ q (hq : q < nd.length), q < i2 + 1 → id ∉ (nd[q]).2.2) := fun β' h hb q hq h2 => by
                  obtain ⟨h1, h3⟩ := h hb
                  by_cases e : q = i2
                  · subst e; exact h3
                  · exact HP.out h1 q hq (by omega)
                obtain ⟨p, hp⟩ : ∃ p, p = nd[i2] := ⟨_, rfl⟩
                rw [← hp] at z0 z1 hu hul HQ
                obtain ⟨pk, pv, js⟩ := p
                dsimp only at z0 z1 hu hul HQ
                obtain ⟨V, hV⟩ : ∃ W, W = wr.alloc (.cells #[.int .i64 pk, pv] 58) := ⟨_, rfl⟩
                have hbV : Below wr.heap.size wr V := by rw [hV]; exact (Below.refl _ _).alloc (Nat.le_refl _) _
                have hbn : Blk V wr.heap.size #[.int .i64 pk, pv] 58 := by rw [hV]; exact Blk.new _ _ _
                have HU := Lib.hid (hu.kept hbV)
                have s1 := hbn.cell 1
                simp at s1
                have HBV := Lib.hid (below_next hbV HBi.out)
                obtain ⟨pa, pc, rfl⟩ := hu.slice
                obtain ⟨P, hP⟩ : ∃ M, M = js.length := ⟨_, rfl⟩
                have HPL := Lib.hid hP
                have hPb : P ≤ 1048576 := by rw [hP]; exact hul
                obtain ⟨gn, hgn⟩ : ∃ g, g = wr.heap.size := ⟨_, rfl⟩
                rw [← hgn] at s1
                rw [← hP] at z1 hV s1 HU
                clear hu hp hbV hbn hP HP hul
                go_upto_region 21 with fail
                rw [← hV, ← hgn]
                clear hV hgn z0 z1 z12
                go_wp2_with fail
                obtain ⟨wo, hwo⟩ : ∃ wo, wo = wr := ⟨_, rfl⟩
                subst hwo
                go_loopw [11, 14] (fun sv kv wk => ∃ (q : Nat) (γ : Bool), q ≤ P ∧ sv = .bool γ ∧ kv = .int .i64 (q : Nat) ∧ Hid (γ = false → β = false ∧ ∀ m (hm : m < js.length), m < q → js[m] ≠ id) ∧ Hid (Below V.heap.size V wk)) (fun _ kv _ => P - (RowKit.intOf kv).toNat)
                case atStart => exact ⟨0, β, Nat.zero_le _, rfl, rfl, fun h => ⟨h, fun m _ h => by omega⟩, Below.refl _ _⟩
                case round =>
                  obtain ⟨q, γ, hq, rfl, rfl, HG, HBk⟩ := hrel
                  have t1 := cell_next HBk.out s1
                  by_cases hlq : q < P
                  · have d3 : decide ((q : Int) < (P : Int)) = true := decide_eq_true (by omega)
                    have d3' : decide (q < P) = true := decide_eq_true hlq
                    have hqI : (q : Int) < (P : Int) := by omega
                    cases γ with
                    | true =>
                      go_wp2_with fail
                      go_roundw
                      case rel => exact ⟨q + 1, true, hlq, rfl, by go_num, fun h => (by cases h), HBk.out⟩
                      case measure => simp [RowKit.intOf]; omega
                    | false =>
                      have hqj : q < js.length := by rw [← HPL.out]; exact hlq
                      obtain ⟨uc, oc2, e, hxc⟩ := RowG.at HU.out hqj
                      subst e
                      have xc0 : wr.cell? ⟨uc, oc2 + q, none⟩ = some (.int .u32 (js[q] : Nat)) := by have := hxc wr HBk.out 0 _ rfl; simpa using this
                      have HN9 : Hid (∀ y, y = js[q] → y ≠ id → β = false ∧ ∀ m (hm : m < js.length), m < q + 1 → js[m] ≠ id) := fun y hy hne => ⟨(HG.out rfl).1, fun m hm h2 => by
                        by_cases e : m = q
                        · subst e; rw [← hy]; exact hne
                        · exact (HG.out rfl).2 m hm (by omega)⟩
                      obtain ⟨y, hy⟩ : ∃ y, y = js[q] := ⟨_, rfl⟩
                      rw [← hy] at xc0
                      have HN8 := Lib.hid (HN9.out y hy)
                      clear hxc hy HN9 HG hqj
                      by_cases hye : y = id
                      · have q5 : ((y : Int) == (id : Int)) = true := by simp [hye]
                        have q5' : (y == id) = true := by simp [hye]
                        clear HN8
                        go_wp2_with fail
                        go_roundw
                        case rel => exact ⟨q + 1, true, hlq, rfl, by go_num, fun h => (by cases h), HBk.out⟩
                        case measure => simp [RowKit.intOf]; omega
                      · have q5 : ((y : Int) == (id : Int)) = false := by simp; omega
                        have q5' : (y == id) = false := by simp [hye]
                        have HN7 := Lib.hid (HN8.out hye)
                        clear HN8
                        go_wp2_with fail
                        go_roundw
                        case rel => exact ⟨q + 1, false, hlq, rfl, by go_num, fun _ => HN7.out, HBk.out⟩
                        case measure => simp [RowKit.intOf]; omega
                  · have d3 : decide ((q : Int) < (P : Int)) = false := decide_eq_false (by omega)
                    have d3' : decide (q < P) = false := decide_eq_false hlq
                    have hqP : q = js.length := by have := HPL.out; omega
                    have HZ9 : Hid (γ = false → ∀ q (hq : q < nd.length), q < i2 + 1 → id ∉ (nd[q]).2.2) := HQ.out γ fun h => ⟨(HG.out h).1, fun hm => by
                      obtain ⟨m, hm1, hm2⟩ := List.getElem_of_mem hm
                      exact (HG.out h).2 m hm1 (by rw [hqP]; exact hm1) hm2⟩
                    clear HQ HG hqP
                    go_wp2_with fail
                    go_roundw
                    case rel => exact ⟨i2 + 1, γ, hli, rfl, by go_num, HZ9.out, below_next HBk.out HBV.out⟩
                    case measure => simp [RowKit.intOf]; omega
              · have d2 : decide ((i2 : Int) < (M : Int)) = false := decide_eq_false (by omega)
                have d2' : decide (i2 < M) = false := decide_eq_false hli
                have z10 := cell_next HBi.out y10
                have HBe := Lib.hid (below_next HBi.out HB8.out)
                cases β with
                | true =>
                  clear HP HS
                  go_wp2_with fail
                  go_wp2_with fail
                  refine (K.out _).mono ?_; rintro e w4 ⟨rfl, b4⟩
                  have HB11 := below_next b4 HBe.out
                  clear b4
                  go_wp2_with fail
                  go_ret
                  exact ⟨rfl, HB11⟩
                | false =>
                  have HNO : Hid (∀ p ∈ nd, id ∉ p.2.2) := fun p hp => by
                    obtain ⟨q, hq, rfl⟩ := List.getElem_of_mem hp
                    exact HP.out rfl q hq (by have := HM.out; omega)
                  have HS2 := Lib.hid (HS.out HNO.out)
                  clear HP HS HNO
                  by_cases hmo : most < 0
                  · have q6 : decide (most < 0) = true := decide_eq_true hmo
                    clear HS2
                    go_wp2_with fail
                    go_wp2_with fail
                    refine (K.out _).mono ?_; rintro e w4 ⟨rfl, b4⟩
                    have HB11 := below_next b4 HBe.out
                    clear b4
                    go_wp2_with fail
                    go_ret
                    exact ⟨rfl, HB11⟩
                  · have q6 : decide (most < 0) = false := decide_eq_false hmo
                    have HS3 := Lib.hid (HS2.out (by omega))
                    have hs3 := HS3.out
                    clear HS2 HS3
                    rcases hs3 with e | e
                    all_goals
                      subst e
                      go_wp2_with fail
                      refine (K.out _).mono ?_; rintro e w4 ⟨rfl, b4⟩
                      have HB11 := below_next b4 HBe.out
                      clear b4
                      go_wp2_with fail
                      go_ret
                      exact ⟨rfl, HB11⟩


set_option maxRecDepth 100000 in
theorem lifted (os : Os) (started : os.Started) (H : Type) (enc : TypeId × Value → H) :
    ReturnsInHanded {} Try.checked os 8 .any (Rows.waitsEndsSpec.pre6 enc Try.prog Try.f8 Rows.waitsEndsRow.domain false) (Rows.waitsEndsSpec.post enc Try.prog Try.f8 false true false false) := by
  refine returnsInHanded_of_change (C := Try.checked) own started (by kernel_rfl) Try.func8
    (ChangeSpec.witness6 (enc := enc) (C := Try.checked) false ⟨#[], #[.slice none 0 0, .int .u32 0, .slice none 0 0], []⟩ 8 (by kernel_rfl) (by kernel_rfl) (by kernel_rfl) (by kernel_rfl)) ?_
  intro W base args ds gs before hval0 hW _ _
  have hval : ∀ (j : Nat) t v, Try.f8.params[j]? = some t → args[j]? = some v → Value.okWide Try.prog W .any base t v := hval0
  have hW' := hW
  obtain ⟨p, q, hA0, hV, rfl, hfz, hnd⟩ := hW
  have hA : DataW.TrodAll enc Try.prog W 0 (fun _ => true) true Try.f8.params.toList args.toList ds p := hA0
  rw [Try.params8] at hA hval
  obtain ⟨v0, vs0, d0, ds0, p0, q0, hargs, rfl, rfl, h0, r0⟩ := trodAll_cons hA
  obtain ⟨v1, vs1, d1, ds1, p1, q1, rfl, rfl, rfl, h1, r1⟩ := trodAll_cons r0
  obtain ⟨v2, vs2, d2, ds2, p2, q2, rfl, rfl, rfl, h2, r2⟩ := trodAll_cons r1
  obtain ⟨rfl, rfl, rfl⟩ := trodAll_nil r2
  obtain rfl : args = #[v0, v1, v2] := by cases args; simp_all
  obtain ⟨l, w0⟩ := open_jobs_arg h0 (okWide_slice Try.underlying22 (hval 0 22 v0 rfl rfl))
  obtain ⟨idz, rfl, rfl, rfl, w1⟩ := open_int Try.underlying23 (hval 1 23 v1 rfl rfl) h1
  obtain ⟨on, w2⟩ := open_ints_arg Try.underlying52 Try.underlying5 (by kernel_rfl) h2 (okWide_slice Try.underlying52 (hval 2 52 v2 rfl rfl))
  clear hA0 hval0
  refine (walk v0 l idz v2 on W w0 w1 w2).mono fun e W' ⟨he, hb⟩ => ?_
  subst he
  exact ⟨_, rfl, law_post (by kernel_rfl) (by kernel_rfl) rfl Try.underlying4 rfl hW' rfl hb⟩

theorem over : Rows.waitsEndsRow.holds Try.pinned (OpenSpec.ofChange Rows.waitsEndsSpec) :=
  OpenClaim.holds_of_wide 8 Try.f8 rfl rfl rfl rfl rfl rfl rfl ⟨rfl, rfl, rfl, rfl, rfl⟩ rfl rfl rfl rfl rfl (by kernel_rfl) Try.func8 (by kernel_rfl)
    (of_decide_eq_true (by kernel_rfl)) (by unfold Func.isWrapper; first | (rw [if_pos (by decide +kernel)]; kernel_rfl) | (rw [if_neg (by decide +kernel)]; exact ⟨rfl, rfl⟩))
    (fun os started H enc _ => lifted os started H enc)

theorem proved : Rows.WaitsEndsSaid :=
  over
#print axioms proved
end Go.Proofs.Ytfabjlhepadkpaa.waitsEnds
