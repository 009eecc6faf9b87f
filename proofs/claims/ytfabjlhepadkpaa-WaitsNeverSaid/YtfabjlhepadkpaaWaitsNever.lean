/-
  WaitsNever: marked as those that never start, job by job, till there are none, a row of jobs comes to its end within as many rounds as there are jobs; nobody is both ready and never; a held one may be told so, too: so the law returns true for every input.
-/
import Derived.Test.YtfabjlhepadkpaaWtNO
import Derived.Test.YtfabjlhepadkpaaWtP
import Derived.Test.YtfabjlhepadkpaaLaw
import Derived.Test.YtfabjlhepadkpaaWtS
import Derived.Test.YtfabjlhepadkpaaRows
import Derived.Test.YtfabjlhepadkpaaArgs2
namespace Go.Proofs.Ytfabjlhepadkpaa.waitsNever
open Go.ChangeShapes Go.WideShapes Go.ChangeAt Go.RowKit
set_option linter.unusedVariables false

theorem own : ownKnob Try.prog.godebug = none := by kernel_rfl

open Go Go.ChangeShapes Go.WideShapes Go.ChangeAt Go.RowKit Go.Lib
/-- x: a row of as many jobs, its own, right. -/
structure XJ (w : World) (N : Nat) (L : List Jb) : Prop where
  len : L.length = N
  ok : okJs L = true
  orig : Orig w L
set_option maxRecDepth 100000 in
set_option maxHeartbeats 8000000 in
theorem walk (v : Value) (l : List Jb) (now : Int) (w : World) (h : JArg w v l) (hnow : (Lit.int .i64 now).wf = true) :
    Calls Try.prog 7 #[v, .int .i64 now] w fun e w' => e = .returned (.bool true) ∧ Below w.heap.size w w' := by
  have MN := Lib.hid (many14_any v l w h)
  have K : Hid (∀ w1, Calls Try.prog 11 #[] w1 fun e w' => e = .returned (.bool true) ∧ Below w1.heap.size w1 w') := known14_any
  have HL := Lib.hid h
  obtain ⟨a, c, rfl⟩ := h.row.slice
  obtain ⟨N, hN⟩ : ∃ N, N = l.length := ⟨_, rfl⟩
  rw [← hN] at MN ⊢
  have HN := Lib.hid hN
  clear h hN hnow
  go_enter Try.func7, Try.ntmps7
  go_wp2_with fail
  refine MN.out.mono ?_; rintro e w1 ⟨hm, b1⟩
  have HB1 := Lib.hid b1
  clear b1 MN
  rcases hm with rfl | ⟨rfl, hf⟩
  · go_wp2_with fail
    refine (K.out _).mono ?_; rintro e w2 ⟨rfl, b2⟩
    have HB2 := below_next b2 HB1.out
    clear b2
    go_wp2_with fail
    go_ret
    exact ⟨rfl, HB2⟩
  · have HJ := Lib.hid (HL.out.few hf)
    have hlen : N ≤ 60 := by rw [HN.out]; exact hf.1
    have CA : Hid (∀ w1, Below w.heap.size w w1 → Calls Try.prog 12 #[.slice a N c] w1 fun e w' => e = .returned (.int .i64 (chkJ l)) ∧ Below w1.heap.size w1 w') := fun w1 hb => by rw [HN.out]; exact wcheck_any _ l w1 (HJ.out.kept hb)
    cases hck : okJs l with
    | false =>
      rw [notJs_chk hck] at CA
      go_wp2_with fail
      refine (CA.out _ HB1.out).mono ?_; rintro e w2 ⟨rfl, b2⟩
      have HB2 := Lib.hid (below_next b2 HB1.out)
      clear b2
      go_wp2_with fail
      refine (K.out _).mono ?_; rintro e w3 ⟨rfl, b3⟩
      have HB3 := below_next b3 HB2.out
      clear b3
      go_wp2_with fail
      go_ret
      exact ⟨rfl, HB3⟩
    | true =>
      rw [okJs_chk hck] at CA
      have HX0 : Hid (XJ w N l) := ⟨HN.out.symm, hck, orig_of HJ.out⟩
      clear hck hf
      go_wp2_with fail
      refine (CA.out _ HB1.out).mono ?_; rintro e w2 ⟨rfl, b2⟩
      have HB2 := Lib.hid (below_next b2 HB1.out)
      have SRC : Hid (Src w2 26 (.slice a N c) l.length (l.flatMap jbV)) := by unfold Hid; rw [HN.out]; exact src_of_rowG jbV_len (by decide) (HJ.out.row.kept HB2.out)
      have HONE : Hid (∀ j ∈ l, JbS j) := fun j hj => HJ.out.one hj
      have hl60 : l.length ≤ 60 := by rw [← HN.out]; exact hlen
      clear b2 CA
      go_wp2_with (first | (at_builtin; refine app_jobs rfl _ _ rfl w.heap.size (.slice none 0 0) 0 [] rfl (World.ownsRow_nil _ _ _ _) rfl _ l rfl SRC.out HONE.out (by omega) HB2.out.size ?_; intro v5 w5 hown5 hgrow5 hat5; have HB5 : Hid (Below w.heap.size w w5) := HB2.out.grown hgrow5 HB2.out.size (fun k hk => by cases hk); have HO5 : Hid (JOwn w5 w.heap.size v5 N l) := by (unfold Hid; rw [HN.out]; simpa using hown5)); clear hown5 hgrow5 hat5; obtain ⟨xa, xc, rfl⟩ := own_slice HO5.out)
      have HW0 : Hid (nW l ≤ N) := by unfold Hid; rw [HN.out]; exact nW_le l
      clear SRC HONE hl60
      go_wp2_with fail
      go_loopw [6, 7, 8, 9, 10, 11] (fun iv _ _ _ _ _ wr => ∃ (i : Nat) (L : List Jb), i + nW L ≤ N ∧ iv = .int .i64 (i : Nat) ∧ Hid (XJ w N L) ∧ Hid (JOwn wr w.heap.size (.slice xa N xc) N L) ∧ Hid (Below w.heap.size w wr)) (fun iv _ _ _ _ _ _ => N + 1 - (RowKit.intOf iv).toNat)
      case atStart => exact ⟨0, l, by have := HW0.out; omega, rfl, HX0.out, HO5.out, HB5.out⟩
      case round =>
        obtain ⟨i, L, hi, rfl, HX, HO, HB⟩ := hrel
        have d1 : decide ((i : Int) ≤ (N : Int)) = true := decide_eq_true (by omega)
        have d1' : decide (i ≤ N) = true := decide_eq_true (by omega)
        have hii : (i : Int) ≤ (N : Int) := by omega
        have hiN : i ≤ N := by omega
        have HJX : Hid (JRw wr (.slice xa N xc) L) := jrw_of_own HO.out HX.out.len.symm HX.out.orig HB.out (by rw [HX.out.len]; omega)
        have RD : Hid (∀ w1, Below wr.heap.size wr w1 → Calls Try.prog 22 #[.slice xa N xc, .int .i64 now] w1 fun e w' => (∃ v', e = .returned v' ∧ UOwn w' w1.heap.size v' (listJ L now 2)) ∧ Below w1.heap.size w1 w') := fun w1 hb => ready_any _ L now w1 (HJX.out.kept hb)
        have NV : Hid (∀ w1, Below wr.heap.size wr w1 → Calls Try.prog 23 #[.slice xa N xc] w1 fun e w' => (∃ v', e = .returned v' ∧ UOwn w' w1.heap.size v' (listJ L 0 3)) ∧ Below w1.heap.size w1 w') := fun w1 hb => never_any _ L w1 (HJX.out.kept hb)
        have HME : Hid (∀ id ∈ listJ L 0 3, ∃ q, ∃ h : q < L.length, id = q + 1 ∧ L[q].how ≤ 2 ∧ sayJ L L[q] now = 3) := fun id hid => by
          obtain ⟨q, hq, rfl, hs⟩ := (mem_listJ HX.out.ok).1 hid
          obtain ⟨_, h2, h3⟩ := never_facts hs
          exact ⟨q, hq, rfl, h2, h3 now⟩
        have HMR : Hid (∀ id ∈ listJ L now 2, ∃ q, ∃ h : q < L.length, id = q + 1 ∧ sayJ L L[q] now = 2) := fun id hid => (mem_listJ HX.out.ok).1 hid
        have HRL : Hid ((listJ L now 2).length ≤ 60) := by have := listJ_len L now 2; rw [HX.out.len] at this; exact Nat.le_trans this hlen
        have HCL : Hid ((listJ L 0 3).length ≤ 60) := by have := listJ_len L 0 3; rw [HX.out.len] at this; exact Nat.le_trans this hlen
        obtain ⟨A, hA⟩ : ∃ A, A = listJ L now 2 := ⟨_, rfl⟩
        obtain ⟨C, hC⟩ : ∃ A, A = listJ L 0 3 := ⟨_, rfl⟩
        rw [← hA] at RD HMR HRL
        rw [← hC] at NV HME HCL
        have HWX : Hid (nW L ≤ N ∧ i + nW L ≤ N) := ⟨by omega, hi⟩
        clear hA hC hi
        go_wp2_with fail
        refine (RD.out wr (Below.refl _ _)).mono ?_; rintro e w3 ⟨⟨va, rfl, ho3⟩, b3⟩
        obtain ⟨aa, ac, rfl⟩ := own_slice ho3
        have HB3 := Lib.hid b3
        have HU3 := Lib.hid (urow_of_own ho3)
        obtain ⟨M, hM⟩ : ∃ M, M = A.length := ⟨_, rfl⟩
        rw [← hM] at HU3 ⊢
        have HM := Lib.hid hM
        have hM60 : M ≤ 60 := by rw [hM]; exact HRL.out
        clear b3 ho3 hM RD
        go_wp2_with fail
        refine (NV.out w3 HB3.out).mono ?_; rintro e w4 ⟨⟨vc, rfl, ho4⟩, b4⟩
        obtain ⟨ca, cc, rfl⟩ := own_slice ho4
        have HB4 := Lib.hid (below_next b4 HB3.out)
        have HUA := Lib.hid (HU3.out.kept b4)
        have HUO : Hid (w4.ownsRow w3.heap.size 23 1 (.slice ca C.length cc) C.length (uL C)) := ho4
        have hu4 := urow_of_own ho4
        obtain ⟨P, hP⟩ : ∃ M, M = C.length := ⟨_, rfl⟩
        rw [← hP] at hu4 HUO ⊢
        have HUC := Lib.hid hu4
        have HP := Lib.hid hP
        have hP60 : P ≤ 60 := by rw [hP]; exact HCL.out
        have HGX : Hid (∀ g, xa = some ⟨g, 0, none⟩ → g < w3.heap.size) := fun g hg => by
          have := own_ge HO.out (g := g) (by rw [hg]; rfl)
          have := HB3.out.size
          omega
        have HO4 := Lib.hid (own_older HO.out HB4.out)
        have HJ4 := Lib.hid (HJX.out.kept HB4.out)
        have HBw4 := Lib.hid (below_next HB4.out HB.out)
        clear b4 ho4 hu4 hP NV HU3 HO
        go_wp2_with fail
        go_loopw [9, 10] (fun kv _ wk => ∃ k : Nat, k ≤ P ∧ kv = .int .i64 (k : Nat) ∧ Hid (Below w4.heap.size w4 wk)) (fun kv _ _ => P - (RowKit.intOf kv).toNat)
        case atStart => exact ⟨0, Nat.zero_le _, rfl, Below.refl _ _⟩
        case round =>
          obtain ⟨k, hk, rfl, HBk⟩ := hrel
          by_cases hlk : k < P
          · have d2 : decide ((k : Int) < (P : Int)) = true := decide_eq_true (by omega)
            have d2' : decide (k < P) = true := decide_eq_true hlk
            have hkk : (k : Int) < (P : Int) := by omega
            have hkC : k < C.length := by rw [← HP.out]; exact hlk
            obtain ⟨uc, oc, e, hxc⟩ := RowG.at HUC.out hkC
            subst e
            have xc0 : wr.cell? ⟨uc, oc + k, none⟩ = some (.int .u32 (C[k] : Nat)) := by have := hxc wr HBk.out 0 _ rfl; simpa using this
            clear hxc
            obtain ⟨q, hqL, hid, hhow, hsay⟩ := HME.out C[k] (List.getElem_mem hkC)
            obtain ⟨id, hidd⟩ : ∃ x, x = C[k] := ⟨_, rfl⟩
            rw [← hidd] at xc0 hid
            have hqN : q < N := by rw [← HX.out.len]; exact hqL
            have hidb : (id : Int) < 1000 := by omega
            have q1 : ((id : Int) == 0) = false := by simp; omega
            have q1' : (id == 0) = false := by simp; omega
            have q2 : decide ((id : Int) > (N : Int)) = false := decide_eq_false (by omega)
            have q2' : decide (N < id) = false := decide_eq_false (by omega)
            have hk1 : IntKind.u32.wrap ((id : Int) - 1) = (q : Int) := by
              have : (id : Int) - 1 = (q : Int) := by omega
              rw [this]; exact Int.emod_eq_of_lt (by omega) (by show _ < (4294967296 : Int); omega)
            have hkN2 : (q : Int) < (N : Int) := by omega
            have hkd : decide ((q : Int) < (N : Int)) = true := decide_eq_true hkN2
            obtain ⟨bx, ox, e, hrg⟩ := JRw.at HJ4.out HBk.out hqL
            subst e
            have x19 : wr.cell? ⟨bx, ox + q * 26 + 19, none⟩ = some (.int .i64 L[q].how) := hrg 19 _ rfl
            obtain ⟨jh, hjh⟩ : ∃ x, x = L[q].how := ⟨_, rfl⟩
            rw [← hjh] at x19 hhow
            have q3 : decide (jh > 2) = false := decide_eq_false (by omega)
            have q3' : decide (2 < jh) = false := decide_eq_false (by omega)
            have HNE : Hid (∀ m (hm : m < A.length), A[m] ≠ id) := fun m hm e => by
              obtain ⟨q', hq', e1, e2⟩ := HMR.out A[m] (List.getElem_mem hm)
              obtain rfl : q' = q := by omega
              rw [hsay] at e2
              exact absurd e2 (by decide)
            clear hid hidd hrg hjh hhow hsay hqN hqL hkC
            go_wp2_with fail
            obtain ⟨wo, hwo⟩ : ∃ wo, wo = wr := ⟨_, rfl⟩
            subst hwo
            go_loopw [10] (fun mv wm => ∃ m : Nat, m ≤ M ∧ mv = .int .i64 (m : Nat) ∧ Hid (Below wo.heap.size wo wm)) (fun mv _ => M - (RowKit.intOf mv).toNat)
            case atStart => exact ⟨0, Nat.zero_le _, rfl, Below.refl _ _⟩
            case round =>
              obtain ⟨m, hm, rfl, HBm⟩ := hrel
              by_cases hlm : m < M
              · have d3 : decide ((m : Int) < (M : Int)) = true := decide_eq_true (by omega)
                have d3' : decide (m < M) = true := decide_eq_true hlm
                have hmm : (m : Int) < (M : Int) := by omega
                have hmA : m < A.length := by rw [← HM.out]; exact hlm
                obtain ⟨ua, oa, e, hxa⟩ := RowG.at (HUA.out.kept HBk.out) hmA
                subst e
                have xa0 : wr.cell? ⟨ua, oa + m, none⟩ = some (.int .u32 (A[m] : Nat)) := by have := hxa wr HBm.out 0 _ rfl; simpa using this
                have xc1 := cell_next HBm.out xc0
                have hne := HNE.out m hmA
                obtain ⟨y, hy⟩ : ∃ y, y = A[m] := ⟨_, rfl⟩
                rw [← hy] at xa0 hne
                have q5 : ((y : Int) == (id : Int)) = false := by simp; omega
                have q5' : (y == id) = false := by simp [hne]
                clear hxa hy hmA hne
                go_wp2_with fail
                go_quiet (fail)
                go_wp2_with fail
                go_roundw
                case rel => exact ⟨m + 1, hlm, by go_num, below_drewN HBm.out _⟩
                case measure => simp [RowKit.intOf]; omega
              · have d3 : decide ((m : Int) < (M : Int)) = false := decide_eq_false (by omega)
                have d3' : decide (m < M) = false := decide_eq_false hlm
                go_wp2_with fail
                go_roundw
                case rel => exact ⟨k + 1, hlk, by go_num, below_next HBm.out HBk.out⟩
                case measure => simp [RowKit.intOf]; omega
          · have d2 : decide ((k : Int) < (P : Int)) = false := decide_eq_false (by omega)
            have d2' : decide (k < P) = false := decide_eq_false hlk
            clear HUC HUA HMR HM hM60 HJX HJ4
            by_cases hP0 : P = 0
            · have q6 : ((P : Int) == 0) = true := by simp; omega
              have q6' : (P == 0) = true := by simp [hP0]
              go_wp2_with fail
              refine (K.out _).mono ?_; rintro e w11 ⟨rfl, b11⟩
              have HB11 := below_next b11 (below_next HBk.out HBw4.out)
              clear b11
              go_wp2_with fail
              go_ret
              exact ⟨by simp, HB11⟩
            · have q6 : ((P : Int) == 0) = false := by simp; omega
              have q6' : (P == 0) = false := by simp [hP0]
              have HP0 := Lib.hid hP0
              clear hP0
              go_wp2_with fail
              have HUO2 := Lib.hid (own_older HUO.out HBk.out)
              have HO2 := Lib.hid (own_older HO4.out HBk.out)
              have HBw5 := Lib.hid (below_next HBk.out HBw4.out)
              have HB35 : Hid (wr.heap.size ≥ w4.heap.size) := HBk.out.size
              clear HUO HO4
              go_loopw [11] (fun mv wm => ∃ (m : Nat) (L' : List Jb), m ≤ P ∧ mv = .int .i64 (m : Nat) ∧ Hid (XJ w N L') ∧ Hid ((m = 0 → L' = L) ∧ (0 < m → nW L' < nW L)) ∧ Hid (wm.ownsRow w3.heap.size 23 1 (.slice ca P cc) P (uL C)) ∧ Hid (JOwn wm w.heap.size (.slice xa N xc) N L') ∧ Hid (Below w.heap.size w wm)) (fun mv _ => P - (RowKit.intOf mv).toNat)
              case atStart => exact ⟨0, L, Nat.zero_le _, rfl, HX.out, ⟨fun _ => rfl, fun h => absurd h (by omega)⟩, HUO2.out, HO2.out, HBw5.out⟩
              case round =>
                obtain ⟨m, L', hm, rfl, HX', HW', HUm, HOm, HBm⟩ := hrel
                by_cases hlm : m < P
                · have d3 : decide ((m : Int) < (P : Int)) = true := decide_eq_true (by omega)
                  have d3' : decide (m < P) = true := decide_eq_true hlm
                  have hmm : (m : Int) < (P : Int) := by omega
                  have hmC : m < C.length := by rw [← HP.out]; exact hlm
                  obtain ⟨q, hqL, hid, hhow, hx9⟩ := HME.out C[m] (List.getElem_mem hmC)
                  clear hx9
                  have hqN : q < N := by rw [← HX.out.len]; exact hqL
                  obtain ⟨gc, e, hgc1, _⟩ := own_some HUm.out (by omega)
                  subst e
                  obtain ⟨gX, e, hgX1, _⟩ := own_some HOm.out (by omega)
                  subst e
                  have hne : gc ≠ gX := by have := HGX.out gX rfl; omega
                  have xc0 : wr.cell? ⟨gc, m, none⟩ = some (.int .u32 (C[m] : Nat)) := by
                    have := urow_cell (urow_len HUm.out HP.out) hmC (Below.refl _ _)
                    simpa using this
                  obtain ⟨⟨u0, z0⟩, f0, ho8, hc8⟩ := own_how HOm.out HX'.out.len.symm hqN 9
                  have HU8 : Hid ((wr.setCell ⟨gX, q * 26 + 19, none⟩ (.int .i64 9)).ownsRow w3.heap.size 23 1 (.slice (some ⟨gc, 0, none⟩) P cc) P (uL C)) := own_chg HUm.out hc8 (fun b hb e => hne (by
                    have : some gc = some b := hb
                    injection this with this
                    rw [this]; exact e))
                  have HB8 : Hid (Below w.heap.size w (wr.setCell ⟨gX, q * 26 + 19, none⟩ (.int .i64 9))) := HBm.out.trans (hc8.to_below HBm.out.size (fun b hb e => by omega))
                  have HO8 := Lib.hid ho8
                  have HX8 : Hid (XJ w N (setH L' q 9)) := ⟨by rw [setH_len]; exact HX'.out.len, setH_ok HX'.out.ok (by decide), HX'.out.orig.set (by decide)⟩
                  have HW8 : Hid ((m + 1 = 0 → setH L' q 9 = L) ∧ (0 < m + 1 → nW (setH L' q 9) < nW L)) := by
                    refine ⟨fun h => by omega, fun _ => ?_⟩
                    have hq' : q < L'.length := by rw [HX'.out.len]; exact hqN
                    have h9 := nW_nine L' q hq'
                    rcases Nat.eq_zero_or_pos m with h0 | h0
                    · have e := HW'.out.1 h0
                      subst e
                      rw [if_pos hhow] at h9
                      omega
                    · have := HW'.out.2 h0
                      omega
                  obtain ⟨id, hidd⟩ : ∃ x, x = C[m] := ⟨_, rfl⟩
                  rw [← hidd] at xc0 hid
                  have hidb : (id : Int) < 1000 := by omega
                  have hk1 : IntKind.u32.wrap ((id : Int) - 1) = (q : Int) := by
                    have : (id : Int) - 1 = (q : Int) := by omega
                    rw [this]; exact Int.emod_eq_of_lt (by omega) (by show _ < (4294967296 : Int); omega)
                  have hkN2 : (q : Int) < (N : Int) := by omega
                  have hkd : decide ((q : Int) < (N : Int)) = true := decide_eq_true hkN2
                  clear hc8 ho8 hid hidd hhow hqL hmC
                  go_wp2_with fail
                  go_roundw
                  case rel => exact ⟨m + 1, setH L' q 9, hlm, by go_num, HX8.out, HW8.out, HU8.out, HO8.out, HB8.out⟩
                  case measure => simp [RowKit.intOf]; omega
                · have d3 : decide ((m : Int) < (P : Int)) = false := decide_eq_false (by omega)
                  have d3' : decide (m < P) = false := decide_eq_false hlm
                  have hnw : i + 1 + nW L' ≤ N := by
                    have h1 := HW'.out.2 (by have := HP0.out; omega)
                    have h2 := HWX.out.2
                    omega
                  go_wp2_with fail
                  go_roundw
                  case rel => exact ⟨i + 1, L', hnw, by go_num, HX'.out, HOm.out, HBm.out⟩
                  case measure => simp [RowKit.intOf]; omega


set_option maxRecDepth 100000 in
theorem lifted (os : Os) (started : os.Started) (H : Type) (enc : TypeId × Value → H) :
    ReturnsInHanded {} Try.checked os 7 .any (Rows.waitsNeverSpec.pre6 enc Try.prog Try.f7 Rows.waitsNeverRow.domain false) (Rows.waitsNeverSpec.post enc Try.prog Try.f7 false true false false) := by
  refine returnsInHanded_of_change (C := Try.checked) own started (by kernel_rfl) Try.func7
    (ChangeSpec.witness6 (enc := enc) (C := Try.checked) false ⟨#[], #[.slice none 0 0, .int .i64 0], []⟩ 8 (by kernel_rfl) (by kernel_rfl) (by kernel_rfl) (by kernel_rfl)) ?_
  intro W base args ds gs before hval0 hW _ _
  have hval : ∀ (j : Nat) t v, Try.f7.params[j]? = some t → args[j]? = some v → Value.okWide Try.prog W .any base t v := hval0
  have hW' := hW
  obtain ⟨p, q, hA0, hV, rfl, hfz, hnd⟩ := hW
  have hA : DataW.TrodAll enc Try.prog W 0 (fun _ => true) true Try.f7.params.toList args.toList ds p := hA0
  rw [Try.params7] at hA hval
  obtain ⟨v0, vs0, d0, ds0, p0, q0, hargs, rfl, rfl, h0, r0⟩ := trodAll_cons hA
  obtain ⟨v1, vs1, d1, ds1, p1, q1, rfl, rfl, rfl, h1, r1⟩ := trodAll_cons r0
  obtain ⟨rfl, rfl, rfl⟩ := trodAll_nil r1
  obtain rfl : args = #[v0, v1] := by cases args; simp_all
  obtain ⟨l, w0⟩ := open_jobs_arg h0 (okWide_slice Try.underlying22 (hval 0 22 v0 rfl rfl))
  obtain ⟨now, rfl, rfl, rfl, w1⟩ := open_int Try.underlying3 (hval 1 3 v1 rfl rfl) h1
  clear hA0 hval0
  refine (walk v0 l now W w0 w1).mono fun e W' ⟨he, hb⟩ => ?_
  subst he
  exact ⟨_, rfl, law_post (by kernel_rfl) (by kernel_rfl) rfl Try.underlying4 rfl hW' rfl hb⟩

theorem over : Rows.waitsNeverRow.holds Try.pinned (OpenSpec.ofChange Rows.waitsNeverSpec) :=
  OpenClaim.holds_of_wide 7 Try.f7 rfl rfl rfl rfl rfl rfl rfl ⟨rfl, rfl, rfl, rfl, rfl⟩ rfl rfl rfl rfl rfl (by kernel_rfl) Try.func7 (by kernel_rfl)
    (of_decide_eq_true (by kernel_rfl)) (by unfold Func.isWrapper; first | (rw [if_pos (by decide +kernel)]; kernel_rfl) | (rw [if_neg (by decide +kernel)]; exact ⟨rfl, rfl⟩))
    (fun os started H enc _ => lifted os started H enc)

theorem proved : Rows.WaitsNeverSaid :=
  over
#print axioms proved
end Go.Proofs.Ytfabjlhepadkpaa.waitsNever
