/-
  slices.SortStableFunc at api.Where: swapRange, rotate, symMerge, stable.
-/
import Derived.Test.YtfabjlhepadkpaaStW
namespace Go.Proofs.Ytfabjlhepadkpaa
open Go Go.RowKit Go.Lib
set_option linter.unusedVariables false

def SymPost (w0 : World) (g n : Nat) (jf : Nat → Nat) (hf : Nat → Int) (a b : Nat) (D : Nat → Nat) (e : Ending) (w' : World) : Prop :=
  e = .returned (.tuple #[]) ∧ ∃ D', WS w0 g n jf hf D' w' ∧ SR a b D D' ∧ Srt jf D' a b

set_option maxRecDepth 100000 in
set_option maxHeartbeats 4000000 in
theorem swrW_any (w0 : World) (g n cap a b N : Nat) (jf : Nat → Nat) (hf : Nat → Int) (D : Nat → Nat) (w : World) (hW : WS w0 g n jf hf D w) (hab : a + N ≤ b) (hb : b + N ≤ n) (hn : n ≤ 4194304) :
    Calls Try.prog 85 #[.slice (some ⟨g, 0, none⟩) n cap, .int .i64 (a : Nat), .int .i64 (b : Nat), .int .i64 (N : Nat), .func (.func 48) #[] #[]] w fun e w' =>
      e = .returned (.tuple #[]) ∧ WS w0 g n jf hf (swrF D a b N) w' := by
  have HW := Lib.hid hW
  clear hW
  go_enter Try.func85, Try.ntmps85
  go_wp2_with fail
  go_loopw [10] (fun iv wr => ∃ i : Nat, iv = .int .i64 i ∧ i ≤ N ∧ Hid (WS w0 g n jf hf (swrF D a b i) wr)) (fun iv _ => N - (RowKit.intOf iv).toNat)
  case atStart => exact ⟨0, rfl, Nat.zero_le _, by rw [swrF_zero]; exact HW.out⟩
  case round =>
    obtain ⟨i, rfl, hi, HS⟩ := hrel
    by_cases hlt : i < N
    · have hd : decide ((i : Int) < (N : Int)) = true := decide_eq_true (by omega)
      have hd' : decide (i < N) = true := decide_eq_true hlt
      obtain ⟨p, hp⟩ : ∃ p, p = a + i := ⟨_, rfl⟩
      obtain ⟨q, hq⟩ : ∃ q, q = b + i := ⟨_, rfl⟩
      have e1 : (a : Int) + (i : Int) = (p : Int) := by omega
      have e2 : (b : Int) + (i : Int) = (q : Int) := by omega
      have e3 : IntKind.i64.wrap (p : Int) = (p : Int) := by rw [IntKind.wrap_i64]; omega
      have e4 : IntKind.i64.wrap (q : Int) = (q : Int) := by rw [IntKind.wrap_i64]; omega
      have hpn : (p : Int) < (n : Int) := by omega
      have hqn : (q : Int) < (n : Int) := by omega
      obtain ⟨c0, c1, f0, f1⟩ := HS.out.cell (k := p) (by omega)
      obtain ⟨c2, c3, f2, f3⟩ := HS.out.cell (k := q) (by omega)
      have HSW := HS.out.swap (i := p) (j := q) (by omega) (by omega) (by omega)
      rw [hp, hq, swrF_step D hab hlt, ← hp, ← hq] at HSW
      have HSWH := Lib.hid HSW
      clear HSW
      generalize jf (swrF D a b i p) = x at *
      generalize jf (swrF D a b i q) = y at *
      generalize hf (swrF D a b i p) = px at *
      generalize hf (swrF D a b i q) = py at *
      clear hp hq HS
      go_wp2_with fail
      go_region
      go_wp2_with fail
      go_roundw
      case rel => exact ⟨i + 1, by go_num, hlt, HSWH.out.kept (below_drewN (Below.refl _ _) _)⟩
      case measure => simp [RowKit.intOf]; omega
    · have hd : decide ((i : Int) < (N : Int)) = false := decide_eq_false (by omega)
      have hd' : decide (i < N) = false := decide_eq_false hlt
      obtain rfl : i = N := by omega
      go_wp2_with fail
      go_returns
      exact ⟨rfl, HS.out⟩

set_option maxRecDepth 100000 in
set_option maxHeartbeats 4000000 in
theorem rotW_any (w0 : World) (g n cap a m b : Nat) (jf : Nat → Nat) (hf : Nat → Int) (D : Nat → Nat) (w : World) (hW : WS w0 g n jf hf D w) (ham : a < m) (hmb : m < b) (hb : b ≤ n) (hn : n ≤ 4194304) :
    Calls Try.prog 73 #[.slice (some ⟨g, 0, none⟩) n cap, .int .i64 (a : Nat), .int .i64 (m : Nat), .int .i64 (b : Nat), .func (.func 48) #[] #[]] w fun e w' =>
      e = .returned (.tuple #[]) ∧ WS w0 g n jf hf (rotF D a m b) w' := by
  have HW := Lib.hid hW
  have SWR : Hid (∀ A B N D w, WS w0 g n jf hf D w → A + N ≤ B → B + N ≤ n → Calls Try.prog 85 #[.slice (some ⟨g, 0, none⟩) n cap, .int .i64 (A : Nat), .int .i64 (B : Nat), .int .i64 (N : Nat), .func (.func 48) #[] #[]] w fun e w' => e = .returned (.tuple #[]) ∧ WS w0 g n jf hf (swrF D A B N) w') := fun A B N D w h h1 h2 => swrW_any w0 g n cap A B N jf hf D w h h1 h2 hn
  obtain ⟨I0, hI0⟩ : ∃ p, p = m - a := ⟨_, rfl⟩
  obtain ⟨J0, hJ0⟩ : ∃ p, p = b - m := ⟨_, rfl⟩
  have e1 : (m : Int) - (a : Int) = (I0 : Int) := by omega
  have e2 : (b : Int) - (m : Int) = (J0 : Int) := by omega
  have e3 : IntKind.i64.wrap (I0 : Int) = (I0 : Int) := by rw [IntKind.wrap_i64]; omega
  have e4 : IntKind.i64.wrap (J0 : Int) = (J0 : Int) := by rw [IntKind.wrap_i64]; omega
  have hst : Hid (a = m - I0 ∧ b = m + J0) := by unfold Hid; omega
  have hb1 : 1 ≤ I0 ∧ I0 ≤ m ∧ 1 ≤ J0 ∧ m + J0 ≤ n := by omega
  clear hW hI0 hJ0
  go_enter Try.func73, Try.ntmps73
  go_wp2_with fail
  go_loopw [10, 11] (fun iv jv wr => ∃ (i j : Nat) (Dk : Nat → Nat), iv = .int .i64 i ∧ jv = .int .i64 j ∧ 1 ≤ i ∧ i ≤ m ∧ 1 ≤ j ∧ m + j ≤ n ∧ Hid (WS w0 g n jf hf Dk wr) ∧ Hid (rotF Dk (m - i) m (m + j) = rotF D a m b)) (fun iv jv _ => (RowKit.intOf iv).toNat + (RowKit.intOf jv).toNat)
  case atStart => exact ⟨I0, J0, D, rfl, rfl, hb1.1, hb1.2.1, hb1.2.2.1, hb1.2.2.2, HW.out, by unfold Hid; rw [← hst.out.1, ← hst.out.2]⟩
  case round =>
    obtain ⟨i, j, Dk, rfl, rfl, hi1, him, hj1, hjn, HS, HR⟩ := hrel
    clear e1 e2 e3 e4 hst hb1
    obtain ⟨p, hp⟩ : ∃ p, p = m - i := ⟨_, rfl⟩
    have e1 : (m : Int) - (i : Int) = (p : Int) := by omega
    have e2 : IntKind.i64.wrap (p : Int) = (p : Int) := by rw [IntKind.wrap_i64]; omega
    by_cases hne : i = j
    · have hd : ((i : Int) != (j : Int)) = false := by simp; omega
      have hd' : (i != j) = false := by simp; omega
      have C := Lib.hid (SWR.out p m i Dk wr HS.out (by omega) (by omega))
      rw [hp, rot_same Dk him, ← hp] at C
      subst hne
      rw [← hp] at HR
      rw [HR.out] at C
      clear hp
      go_wp2_with fail
      refine C.out.mono ?_; rintro e w1 ⟨rfl, hw1⟩
      go_wp2_with fail
      go_returns
      exact ⟨rfl, hw1⟩
    · have hd : ((i : Int) != (j : Int)) = true := by simp; omega
      have hd' : (i != j) = true := by simp; omega
      by_cases hgt : j < i
      · have hg : decide ((i : Int) > (j : Int)) = true := decide_eq_true (by omega)
        have hg' : decide ((j : Int) < (i : Int)) = true := decide_eq_true (by omega)
        have hg'' : decide (j < i) = true := decide_eq_true hgt
        obtain ⟨t, ht⟩ : ∃ t, t = i - j := ⟨_, rfl⟩
        have e5 : (i : Int) - (j : Int) = (t : Int) := by omega
        have e6 : IntKind.i64.wrap (t : Int) = (t : Int) := by rw [IntKind.wrap_i64]; omega
        have C := Lib.hid (SWR.out p m j Dk wr HS.out (by omega) (by omega))
        have HR2 : Hid (rotF (swrF Dk p m j) (m - t) m (m + j) = rotF D a m b) := by unfold Hid; rw [hp, ht, rot_more Dk him hj1 hgt]; exact HR.out
        clear hp HR
        go_wp2_with fail
        refine C.out.mono ?_; rintro e w1 ⟨rfl, hw1⟩
        have HW1 := Lib.hid hw1
        clear hw1 C
        go_wp2_with fail
        go_roundw
        case rel => exact ⟨t, j, _, by go_num, by go_num, by omega, by omega, hj1, hjn, HW1.out, HR2.out⟩
        case measure => simp [RowKit.intOf]; omega
      · have hg : decide ((i : Int) > (j : Int)) = false := decide_eq_false (by omega)
        have hg' : decide ((j : Int) < (i : Int)) = false := decide_eq_false (by omega)
        have hg'' : decide (j < i) = false := decide_eq_false hgt
        obtain ⟨t, ht⟩ : ∃ t, t = j - i := ⟨_, rfl⟩
        obtain ⟨u, hu⟩ : ∃ t, t = m + j := ⟨_, rfl⟩
        obtain ⟨v, hv⟩ : ∃ t, t = m + j - i := ⟨_, rfl⟩
        have e5 : (j : Int) - (i : Int) = (t : Int) := by omega
        have e6 : IntKind.i64.wrap (t : Int) = (t : Int) := by rw [IntKind.wrap_i64]; omega
        have e7 : (m : Int) + (j : Int) = (u : Int) := by omega
        have e8 : IntKind.i64.wrap (u : Int) = (u : Int) := by rw [IntKind.wrap_i64]; omega
        have e9 : (u : Int) - (i : Int) = (v : Int) := by omega
        have e10 : IntKind.i64.wrap (v : Int) = (v : Int) := by rw [IntKind.wrap_i64]; omega
        have C := Lib.hid (SWR.out p v i Dk wr HS.out (by omega) (by omega))
        have HR2 : Hid (rotF (swrF Dk p v i) (m - i) m (m + t) = rotF D a m b) := by unfold Hid; rw [hp, ht, hv, rot_less Dk him hi1 (by omega)]; exact HR.out
        clear hp HR hv hu
        go_wp2_with fail
        refine C.out.mono ?_; rintro e w1 ⟨rfl, hw1⟩
        have HW1 := Lib.hid hw1
        clear hw1 C
        go_wp2_with fail
        go_roundw
        case rel => exact ⟨i, t, _, by go_num, by go_num, hi1, him, by omega, by omega, HW1.out, HR2.out⟩
        case measure => simp [RowKit.intOf]; omega

set_option maxRecDepth 100000 in
set_option maxHeartbeats 4000000 in
theorem symOne_any (w0 : World) (g n cap a m b : Nat) (jf : Nat → Nat) (hf : Nat → Int) (D : Nat → Nat) (w : World) (hW : WS w0 g n jf hf D w) (ham : a < m) (hmb : m < b) (hb : b ≤ n) (hn : n ≤ 4194304) (hM : Mrg jf D a m b) (h1 : m = a + 1) :
    Calls Try.prog 66 #[.slice (some ⟨g, 0, none⟩) n cap, .int .i64 (a : Nat), .int .i64 (m : Nat), .int .i64 (b : Nat), .func (.func 48) #[] #[]] w (SymPost w0 g n jf hf a b D) := by
  have H1 := Lib.hid h1
  have HW := Lib.hid hW
  have HM := Lib.hid hM
  have e1 : (m : Int) - (a : Int) = 1 := by omega
  clear hW hM h1
  go_enter Try.func66, Try.ntmps66
  go_wp2_with fail
  go_loopw [10, 11] (fun iv jv wr => ∃ I J : Nat, iv = .int .i64 I ∧ jv = .int .i64 J ∧ m ≤ I ∧ I ≤ J ∧ J ≤ b ∧ Hid (WS w0 g n jf hf D wr) ∧ Hid ((∀ q, m ≤ q → q < I → Rk jf (D q) (D a)) ∧ (∀ q, J ≤ q → q < b → Rk jf (D a) (D q)))) (fun iv jv _ => (RowKit.intOf jv).toNat - (RowKit.intOf iv).toNat)
  case atStart => exact ⟨m, b, rfl, rfl, Nat.le_refl _, by omega, Nat.le_refl _, HW.out, fun q h h' => by omega, fun q h h' => by omega⟩
  case round =>
    obtain ⟨I, J, rfl, rfl, hmI, hIJ, hJ, HS, HQ⟩ := hrel
    by_cases hlt : I < J
    · have hlt' : decide (I < J) = true := decide_eq_true hlt
      have hlt2 : decide ((I : Int) < (J : Int)) = true := decide_eq_true (by omega)
      obtain ⟨h, hh⟩ : ∃ h, h = (I + J) / 2 := ⟨_, rfl⟩
      have hhI : I ≤ h := by omega
      have hhJ : h < J := by omega
      have hhn : (h : Int) < (n : Int) := by omega
      have han : (a : Int) < (n : Int) := by omega
      have eh : ((I : Int) + (J : Int)) / 2 = (h : Int) := by omega
      have HRK := Lib.hid (HM.out.rk (i := a) (j := h) (Nat.le_refl _) ham (by omega) (by omega))
      clear hh
      obtain ⟨c0, c1, _, _⟩ := HS.out.cell (k := h) (by omega)
      obtain ⟨c2, c3, _, _⟩ := HS.out.cell (k := a) (by omega)
      have CXY : Hid (∀ w1, Calls Try.prog 48 #[.agg #[.int .u32 (jf (D h) : Nat), .int .i64 (hf (D h))], .agg #[.int .u32 (jf (D a) : Nat), .int .i64 (hf (D a))]] w1 fun e w' => e = .returned (.int .i64 (cmpN (jf (D h)) (jf (D a)))) ∧ Below w1.heap.size w1 w') := fun w1 => sayCmp_any _ _ _ _ w1
      have hcn := cmpN_neg (jf (D h)) (jf (D a))
      generalize cmpN (jf (D h)) (jf (D a)) = cr at CXY hcn
      have HCN := Lib.hid hcn
      clear hcn
      obtain ⟨x, hx⟩ : ∃ x, x = jf (D h) := ⟨_, rfl⟩
      obtain ⟨y, hy⟩ : ∃ y, y = jf (D a) := ⟨_, rfl⟩
      obtain ⟨px, hpx⟩ : ∃ x, x = hf (D h) := ⟨_, rfl⟩
      obtain ⟨py, hpy⟩ : ∃ x, x = hf (D a) := ⟨_, rfl⟩
      rw [← hx, ← hpx] at CXY
      rw [← hy, ← hpy] at CXY
      rw [← hx] at c0
      rw [← hy] at c2
      rw [← hpx] at c1
      rw [← hpy] at c3
      clear hx hy hpx hpy
      cases hq : decide (cr < 0)
      all_goals
        go_wp2_with fail
        go_region_held3 (fun w' => w'.cell? ⟨g, h * 2, none⟩ = some (.int .u32 (x : Nat)) ∧ w'.cell? ⟨g, h * 2 + 1, none⟩ = some (.int .i64 px) ∧ w'.cell? ⟨g, a * 2, none⟩ = some (.int .u32 (y : Nat)) ∧ w'.cell? ⟨g, a * 2 + 1, none⟩ = some (.int .i64 py) ∧ Below wr.heap.size wr w')
          (first
            | exact ⟨c0, c1, c2, c3, (Below.refl _ _).drew⟩
            | exact ⟨c0, c1, c2, c3, Below.refl _ _⟩
            | (rcases ‹_ ∧ _ ∧ _ ∧ _ ∧ Below wr.heap.size _ _› with ⟨q0, q1, q2, q3, q5⟩; exact ⟨cell_next (by assumption) q0, cell_next (by assumption) q1, cell_next (by assumption) q2, cell_next (by assumption) q3, below_next (by assumption) q5⟩))
          (first
            | (go_at_call 48; ((with_reducible refine (CXY.out _).mono ?_); rintro e wm ⟨rfl, bm⟩)))
        rcases ‹_ ∧ _ ∧ _ ∧ _ ∧ Below wr.heap.size _ _› with ⟨_, _, _, _, g6⟩
        have HZ := Lib.hid (HS.out.kept g6)
      · have hl : ¬ jf (D h) < jf (D a) := by have := HCN.out; rw [hq] at this; exact of_decide_eq_false this.symm
        have HF : Hid (∀ q, h ≤ q → q < b → Rk jf (D a) (D q)) := fun q q1 q2 => by
          have r := HRK.out.2.1 hl
          by_cases e : q = h
          · rw [e]; exact r
          · exact r.trans (HM.out.hi h q (by omega) (by omega) q2)
        clear hl HRK HCN CXY c0 c1 c2 c3
        go_wp2_with fail
        go_roundw
        case rel => exact ⟨I, h, by go_num, by go_num, hmI, hhI, by omega, HZ.out, HQ.out.1, HF.out⟩
        case measure => simp [RowKit.intOf]; omega
      · have hl : jf (D h) < jf (D a) := by have := HCN.out; rw [hq] at this; exact of_decide_eq_true this.symm
        have HF : Hid (∀ q, m ≤ q → q < h + 1 → Rk jf (D q) (D a)) := fun q q1 q2 => by
          have r := HRK.out.1.1 hl
          by_cases e : q = h
          · rw [e]; exact r
          · exact (HM.out.hi q h q1 (by omega) (by omega)).trans r
        clear hl HRK HCN CXY c0 c1 c2 c3
        go_wp2_with fail
        go_roundw
        case rel => exact ⟨h + 1, J, by go_num, by go_num, by omega, by omega, hJ, HZ.out, HF.out, HQ.out.2⟩
        case measure => simp [RowKit.intOf]; omega
    · have hlt' : decide (I < J) = false := decide_eq_false hlt
      have hlt2 : decide ((I : Int) < (J : Int)) = false := decide_eq_false (by omega)
      obtain rfl : I = J := by omega
      obtain ⟨t, ht⟩ : ∃ t, t = I - 1 := ⟨_, rfl⟩
      have e2 : (I : Int) - 1 = (t : Int) := by omega
      have e3 : IntKind.i64.wrap (t : Int) = (t : Int) := by rw [IntKind.wrap_i64]; omega
      have HEND : Hid (SR a b D (upF D a t) ∧ Srt jf (upF D a t) a b) := ⟨upF_SR (by omega) (by omega), upF_srt (by rw [← H1.out]; exact HM.out.hi) (by omega) (by omega) (fun k k1 k2 => HQ.out.1 k (by have := H1.out; omega) (by omega)) (fun h => HQ.out.2 (t + 1) (by omega) h)⟩
      have hta : a ≤ t := by omega
      have htb : t < b := by omega
      obtain ⟨wz, hwz⟩ : ∃ wz, wz = wr := ⟨_, rfl⟩
      subst hwz
      clear HQ HM ht
      go_wp2_with fail
      go_loopw [13] (fun kv wr => ∃ k : Nat, kv = .int .i64 k ∧ a ≤ k ∧ k ≤ t ∧ Hid (WS w0 g n jf hf (upF D a k) wr)) (fun kv _ => t - (RowKit.intOf kv).toNat)
      case atStart => exact ⟨a, rfl, Nat.le_refl _, hta, by rw [upF_self]; exact HS.out⟩
      case round =>
        clear HS
        obtain ⟨k, rfl, hak, hkt, HU⟩ := hrel
        by_cases hk : k < t
        · have g1 : decide (k < t) = true := decide_eq_true hk
          have g2 : decide ((k : Int) < (t : Int)) = true := decide_eq_true (by omega)
          obtain ⟨u, hu⟩ : ∃ u, u = k + 1 := ⟨_, rfl⟩
          have e4 : (k : Int) + 1 = (u : Int) := by omega
          have e5 : IntKind.i64.wrap (u : Int) = (u : Int) := by rw [IntKind.wrap_i64]; omega
          have hkn : (k : Int) < (n : Int) := by omega
          have hun : (u : Int) < (n : Int) := by omega
          obtain ⟨c0, c1, f0, f1⟩ := HU.out.cell (k := k) (by omega)
          obtain ⟨c2, c3, f2, f3⟩ := HU.out.cell (k := u) (by omega)
          have HSW := HU.out.swap (i := k) (j := u) (by omega) (by omega) (by omega)
          rw [hu, upF_step D hak, ← hu] at HSW
          have HSWH := Lib.hid HSW
          clear HSW
          generalize jf (upF D a k k) = x at *
          generalize jf (upF D a k u) = y at *
          generalize hf (upF D a k k) = px at *
          generalize hf (upF D a k u) = py at *
          have hu2 : k < u ∧ u ≤ t := by omega
          clear HU hu
          go_wp2_with fail
          go_region
          go_wp2_with fail
          go_roundw
          case rel => exact ⟨u, by go_num, by omega, by omega, HSWH.out.kept (below_drewN (Below.refl _ _) _)⟩
          case measure => simp [RowKit.intOf]; omega
        · have g1 : decide (k < t) = false := decide_eq_false hk
          have g2 : decide ((k : Int) < (t : Int)) = false := decide_eq_false (by omega)
          obtain rfl : k = t := by omega
          go_wp2_with fail
          go_returns
          exact ⟨rfl, _, HU.out, HEND.out⟩

set_option maxRecDepth 100000 in
set_option maxHeartbeats 4000000 in
theorem symLast_any (w0 : World) (g n cap a m b : Nat) (jf : Nat → Nat) (hf : Nat → Int) (D : Nat → Nat) (w : World) (hW : WS w0 g n jf hf D w) (ham : a < m) (hmb : m < b) (hb : b ≤ n) (hn : n ≤ 4194304) (hM : Mrg jf D a m b) (h0 : ¬ m = a + 1) (h1 : b = m + 1) :
    Calls Try.prog 66 #[.slice (some ⟨g, 0, none⟩) n cap, .int .i64 (a : Nat), .int .i64 (m : Nat), .int .i64 (b : Nat), .func (.func 48) #[] #[]] w (SymPost w0 g n jf hf a b D) := by
  have H1 := Lib.hid h1
  have HW := Lib.hid hW
  have HM := Lib.hid hM
  obtain ⟨A, hA⟩ : ∃ A, A = m - a := ⟨_, rfl⟩
  have e1 : (m : Int) - (a : Int) = (A : Int) := by omega
  have e1' : IntKind.i64.wrap (A : Int) = (A : Int) := by rw [IntKind.wrap_i64]; omega
  have e1'' : ((A : Int) == 1) = false := by simp; omega
  have e1t : (A == 1) = false := by simp; omega
  have e2 : (b : Int) - (m : Int) = 1 := by omega
  clear hW hM hA h1
  go_enter Try.func66, Try.ntmps66
  go_wp2_with fail
  go_loopw [14, 15] (fun iv jv wr => ∃ I J : Nat, iv = .int .i64 I ∧ jv = .int .i64 J ∧ a ≤ I ∧ I ≤ J ∧ J ≤ m ∧ Hid (WS w0 g n jf hf D wr) ∧ Hid ((∀ q, a ≤ q → q < I → Rk jf (D q) (D m)) ∧ (∀ q, J ≤ q → q < m → Rk jf (D m) (D q)))) (fun iv jv _ => (RowKit.intOf jv).toNat - (RowKit.intOf iv).toNat)
  case atStart => exact ⟨a, m, rfl, rfl, Nat.le_refl _, by omega, Nat.le_refl _, HW.out, fun q h h' => by omega, fun q h h' => by omega⟩
  case round =>
    obtain ⟨I, J, rfl, rfl, hmI, hIJ, hJ, HS, HQ⟩ := hrel
    by_cases hlt : I < J
    · have hlt' : decide (I < J) = true := decide_eq_true hlt
      have hlt2 : decide ((I : Int) < (J : Int)) = true := decide_eq_true (by omega)
      obtain ⟨h, hh⟩ : ∃ h, h = (I + J) / 2 := ⟨_, rfl⟩
      have hhI : I ≤ h := by omega
      have hhJ : h < J := by omega
      have hhn : (h : Int) < (n : Int) := by omega
      have hmn : (m : Int) < (n : Int) := by omega
      have eh : ((I : Int) + (J : Int)) / 2 = (h : Int) := by omega
      have HRK := Lib.hid (HM.out.rk (i := h) (j := m) (by omega) (by omega) (Nat.le_refl _) hmb)
      clear hh
      obtain ⟨c0, c1, _, _⟩ := HS.out.cell (k := m) (by omega)
      obtain ⟨c2, c3, _, _⟩ := HS.out.cell (k := h) (by omega)
      have CXY : Hid (∀ w1, Calls Try.prog 48 #[.agg #[.int .u32 (jf (D m) : Nat), .int .i64 (hf (D m))], .agg #[.int .u32 (jf (D h) : Nat), .int .i64 (hf (D h))]] w1 fun e w' => e = .returned (.int .i64 (cmpN (jf (D m)) (jf (D h)))) ∧ Below w1.heap.size w1 w') := fun w1 => sayCmp_any _ _ _ _ w1
      have hcn := cmpN_neg (jf (D m)) (jf (D h))
      generalize cmpN (jf (D m)) (jf (D h)) = cr at CXY hcn
      have HCN := Lib.hid hcn
      clear hcn
      obtain ⟨x, hx⟩ : ∃ x, x = jf (D m) := ⟨_, rfl⟩
      obtain ⟨y, hy⟩ : ∃ y, y = jf (D h) := ⟨_, rfl⟩
      obtain ⟨px, hpx⟩ : ∃ x, x = hf (D m) := ⟨_, rfl⟩
      obtain ⟨py, hpy⟩ : ∃ x, x = hf (D h) := ⟨_, rfl⟩
      rw [← hx, ← hpx] at CXY
      rw [← hy, ← hpy] at CXY
      rw [← hx] at c0
      rw [← hy] at c2
      rw [← hpx] at c1
      rw [← hpy] at c3
      clear hx hy hpx hpy
      cases hq : decide (cr < 0)
      all_goals
        go_wp2_with fail
        go_region_held3 (fun w' => w'.cell? ⟨g, m * 2, none⟩ = some (.int .u32 (x : Nat)) ∧ w'.cell? ⟨g, m * 2 + 1, none⟩ = some (.int .i64 px) ∧ w'.cell? ⟨g, h * 2, none⟩ = some (.int .u32 (y : Nat)) ∧ w'.cell? ⟨g, h * 2 + 1, none⟩ = some (.int .i64 py) ∧ Below wr.heap.size wr w')
          (first
            | exact ⟨c0, c1, c2, c3, (Below.refl _ _).drew⟩
            | exact ⟨c0, c1, c2, c3, Below.refl _ _⟩
            | (rcases ‹_ ∧ _ ∧ _ ∧ _ ∧ Below wr.heap.size _ _› with ⟨q0, q1, q2, q3, q5⟩; exact ⟨cell_next (by assumption) q0, cell_next (by assumption) q1, cell_next (by assumption) q2, cell_next (by assumption) q3, below_next (by assumption) q5⟩))
          (first
            | (go_at_call 48; ((with_reducible refine (CXY.out _).mono ?_); rintro e wm ⟨rfl, bm⟩)))
        rcases ‹_ ∧ _ ∧ _ ∧ _ ∧ Below wr.heap.size _ _› with ⟨_, _, _, _, g6⟩
        have HZ := Lib.hid (HS.out.kept g6)
      · have hl : ¬ jf (D m) < jf (D h) := by have := HCN.out; rw [hq] at this; exact of_decide_eq_false this.symm
        have HF : Hid (∀ q, a ≤ q → q < h + 1 → Rk jf (D q) (D m)) := fun q q1 q2 => by
          have r := HRK.out.2.1 hl
          by_cases e : q = h
          · rw [e]; exact r
          · exact (HM.out.lo q h q1 (by omega) (by omega)).trans r
        clear hl HRK HCN CXY c0 c1 c2 c3
        go_wp2_with fail
        go_roundw
        case rel => exact ⟨h + 1, J, by go_num, by go_num, by omega, by omega, hJ, HZ.out, HF.out, HQ.out.2⟩
        case measure => simp [RowKit.intOf]; omega
      · have hl : jf (D m) < jf (D h) := by have := HCN.out; rw [hq] at this; exact of_decide_eq_true this.symm
        have HF : Hid (∀ q, h ≤ q → q < m → Rk jf (D m) (D q)) := fun q q1 q2 => by
          have r := HRK.out.1.1 hl
          by_cases e : q = h
          · rw [e]; exact r
          · exact r.trans (HM.out.lo h q (by omega) (by omega) q2)
        clear hl HRK HCN CXY c0 c1 c2 c3
        go_wp2_with fail
        go_roundw
        case rel => exact ⟨I, h, by go_num, by go_num, hmI, hhI, by omega, HZ.out, HQ.out.1, HF.out⟩
        case measure => simp [RowKit.intOf]; omega
    · have hlt' : decide (I < J) = false := decide_eq_false hlt
      have hlt2 : decide ((I : Int) < (J : Int)) = false := decide_eq_false (by omega)
      obtain rfl : I = J := by omega
      have HEND : Hid (SR a b D (dnF D I m) ∧ Srt jf (dnF D I m) a b) := ⟨dnF_SR (by omega) (by omega) (by have := H1.out; omega), by rw [H1.out]; exact dnF_srt HM.out.lo (by omega) (by omega) (fun k k1 k2 => HQ.out.2 k k1 k2) (fun h => HQ.out.1 (I - 1) (by omega) (by omega))⟩
      obtain ⟨wz, hwz⟩ : ∃ wz, wz = wr := ⟨_, rfl⟩
      subst hwz
      clear HQ HM
      go_wp2_with fail
      go_loopw [17] (fun kv wr => ∃ k : Nat, kv = .int .i64 k ∧ I ≤ k ∧ k ≤ m ∧ Hid (WS w0 g n jf hf (dnF D k m) wr)) (fun kv _ => (RowKit.intOf kv).toNat)
      case atStart => exact ⟨m, rfl, hJ, Nat.le_refl _, by rw [dnF_self]; exact HS.out⟩
      case round =>
        clear HS
        obtain ⟨k, rfl, hak, hkt, HU⟩ := hrel
        by_cases hk : I < k
        · have g1 : decide (I < k) = true := decide_eq_true hk
          have g2 : decide ((k : Int) > (I : Int)) = true := decide_eq_true (by omega)
          have g3 : decide ((I : Int) < (k : Int)) = true := decide_eq_true (by omega)
          obtain ⟨u, hu⟩ : ∃ u, u = k - 1 := ⟨_, rfl⟩
          have e4 : (k : Int) - 1 = (u : Int) := by omega
          have e5 : IntKind.i64.wrap (u : Int) = (u : Int) := by rw [IntKind.wrap_i64]; omega
          have hkn : (k : Int) < (n : Int) := by omega
          have hun : (u : Int) < (n : Int) := by omega
          obtain ⟨c0, c1, f0, f1⟩ := HU.out.cell (k := k) (by omega)
          obtain ⟨c2, c3, f2, f3⟩ := HU.out.cell (k := u) (by omega)
          have HSW := HU.out.swap (i := k) (j := u) (by omega) (by omega) (by omega)
          rw [hu, dnF_step D (by omega) hkt, ← hu] at HSW
          have HSWH := Lib.hid HSW
          clear HSW
          generalize jf (dnF D k m k) = x at *
          generalize jf (dnF D k m u) = y at *
          generalize hf (dnF D k m k) = px at *
          generalize hf (dnF D k m u) = py at *
          have hu2 : u < k ∧ I ≤ u := by omega
          clear HU hu
          go_wp2_with fail
          go_region
          go_wp2_with fail
          go_roundw
          case rel => exact ⟨u, by go_num, by omega, by omega, HSWH.out.kept (below_drewN (Below.refl _ _) _)⟩
          case measure => simp [RowKit.intOf]; omega
        · have g1 : decide (I < k) = false := decide_eq_false hk
          have g2 : decide ((k : Int) > (I : Int)) = false := decide_eq_false (by omega)
          have g3 : decide ((I : Int) < (k : Int)) = false := decide_eq_false (by omega)
          obtain rfl : I = k := by omega
          go_wp2_with fail
          go_returns
          exact ⟨rfl, _, HU.out, HEND.out⟩
end Go.Proofs.Ytfabjlhepadkpaa
