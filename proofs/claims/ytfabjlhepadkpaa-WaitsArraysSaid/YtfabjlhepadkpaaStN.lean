/-
  slices.SortStableFunc at api.Where: symMerge, at any two rows; stable.
-/
import Derived.Test.YtfabjlhepadkpaaStM
namespace Go.Proofs.Ytfabjlhepadkpaa
open Go Go.RowKit Go.Lib
set_option linter.unusedVariables false

theorem rotF_triv (D : Nat → Nat) {s m e : Nat} (h1 : s ≤ m) (h2 : m ≤ e) (h : ¬ (s < m ∧ m < e)) : rotF D s m e = D := by
  funext k; unfold rotF
  by_cases c : k < s ∨ e ≤ k
  · rw [if_pos c]
  · rw [if_neg c]
    by_cases c2 : k < s + (e - m)
    · rw [if_pos c2, show k + (m - s) = k by omega]
    · rw [if_neg c2, show k - (e - m) = k by omega]
theorem Mrg.out {key : Nat → Nat} {D D' : Nat → Nat} {a b c d x : Nat} (h : Mrg key D c d x) (hr : SR a b D D') (hd : b ≤ c) (h1 : c ≤ d) (h2 : d ≤ x) : Mrg key D' c d x :=
  ⟨h.lo.out hr (.inr hd), h.hi.out hr (.inr (by omega)), fun i j i1 i2 j1 j2 => by rw [hr.out i (by omega), hr.out j (by omega)]; exact h.lt i j i1 i2 j1 j2⟩
def SymIH (w0 : World) (g n cap : Nat) (jf : Nat → Nat) (hf : Nat → Int) (B : Nat) : Prop :=
  ∀ (a m b : Nat) (D : Nat → Nat) (w : World), WS w0 g n jf hf D w → a < m → m < b → b ≤ n → Mrg jf D a m b → b - a < B → Calls Try.prog 66 #[.slice (some ⟨g, 0, none⟩) n cap, .int .i64 (a : Nat), .int .i64 (m : Nat), .int .i64 (b : Nat), .func (.func 48) #[] #[]] w (SymPost w0 g n jf hf a b D)
set_option maxRecDepth 100000 in
set_option maxHeartbeats 4000000 in
theorem symGen_any (w0 : World) (g n cap a m b : Nat) (jf : Nat → Nat) (hf : Nat → Int) (D : Nat → Nat) (w : World) (hW : WS w0 g n jf hf D w) (ham : a < m) (hmb : m < b) (hb : b ≤ n) (hn : n ≤ 4194304) (hM : Mrg jf D a m b) (h0 : ¬ m = a + 1) (h1 : ¬ b = m + 1) (IH : SymIH w0 g n cap jf hf (b - a)) :
    Calls Try.prog 66 #[.slice (some ⟨g, 0, none⟩) n cap, .int .i64 (a : Nat), .int .i64 (m : Nat), .int .i64 (b : Nat), .func (.func 48) #[] #[]] w (SymPost w0 g n jf hf a b D) := by
  have HW := Lib.hid hW
  have HM := Lib.hid hM
  have HIH := Lib.hid IH
  obtain ⟨A, hA⟩ : ∃ A, A = m - a := ⟨_, rfl⟩
  have e1 : (m : Int) - (a : Int) = (A : Int) := by omega
  have e1' : IntKind.i64.wrap (A : Int) = (A : Int) := by rw [IntKind.wrap_i64]; omega
  have e1'' : ((A : Int) == 1) = false := by simp; omega
  have e1t : (A == 1) = false := by simp; omega
  obtain ⟨B, hB⟩ : ∃ A, A = b - m := ⟨_, rfl⟩
  have e2 : (b : Int) - (m : Int) = (B : Int) := by omega
  have e2' : IntKind.i64.wrap (B : Int) = (B : Int) := by rw [IntKind.wrap_i64]; omega
  have e2'' : ((B : Int) == 1) = false := by simp; omega
  have e2t : (B == 1) = false := by simp; omega
  obtain ⟨mid, hmid⟩ : ∃ x, x = (a + b) / 2 := ⟨_, rfl⟩
  have e3 : ((a : Int) + (b : Int)) / 2 = (mid : Int) := by omega
  have hm1 : a < mid := by omega
  have hm2 : mid < b := by omega
  have hm3 : a + b ≤ 2 * mid + 1 := by omega
  have hm4 : 2 * mid ≤ a + b := by omega
  obtain ⟨nn, hnn⟩ : ∃ x, x = mid + m := ⟨_, rfl⟩
  have e4 : (mid : Int) + (m : Int) = (nn : Int) := by omega
  have e4' : IntKind.i64.wrap (nn : Int) = (nn : Int) := by rw [IntKind.wrap_i64]; omega
  have hn1 : nn ≤ mid + m := by omega
  have hn2 : mid + m ≤ nn := by omega
  clear hW hM hA hB hmid hnn IH
  go_enter Try.func66, Try.ntmps66
  go_upto_if 140 with fail
  go_cut [20, 21] (fun sv rv wx => ∃ lo hi : Nat, sv = .int .i64 lo ∧ rv = .int .i64 hi ∧ a ≤ lo ∧ lo ≤ hi ∧ hi ≤ m ∧ hi ≤ mid ∧ nn ≤ b + lo ∧ Hid (lo = a ∨ nn = b + lo) ∧ Hid (hi = m ∨ hi = mid) ∧ Hid (WS w0 g n jf hf D wx))
  case first =>
    by_cases hc : mid < m
    · have g1 : decide (mid < m) = true := decide_eq_true hc
      have g2 : decide ((m : Int) > (mid : Int)) = true := decide_eq_true (by omega)
      have g3 : decide ((mid : Int) < (m : Int)) = true := decide_eq_true (by omega)
      obtain ⟨lo, hlo⟩ : ∃ x, x = nn - b := ⟨_, rfl⟩
      have e5 : (nn : Int) - (b : Int) = (lo : Int) := by omega
      have e6 : IntKind.i64.wrap (lo : Int) = (lo : Int) := by rw [IntKind.wrap_i64]; omega
      have hl : a ≤ lo ∧ lo ≤ mid ∧ nn = b + lo := by omega
      have HL := Lib.hid hl
      clear hl hlo
      go_wp2_with fail
      go_meet
      case rel => exact ⟨lo, mid, by go_num, by go_num, HL.out.1, HL.out.2.1, by omega, Nat.le_refl _, by have := HL.out.2.2; omega, .inr HL.out.2.2, .inr rfl, HW.out⟩
    · have g1 : decide (mid < m) = false := decide_eq_false hc
      have g2 : decide ((m : Int) > (mid : Int)) = false := decide_eq_false (by omega)
      have g3 : decide ((mid : Int) < (m : Int)) = false := decide_eq_false (by omega)
      go_wp2_with fail
      go_meet
      case rel => exact ⟨a, m, by go_num, by go_num, Nat.le_refl _, by omega, Nat.le_refl _, by omega, by omega, .inl rfl, .inl rfl, HW.out⟩
  case rest =>
    as_aux_lemma =>
    obtain ⟨lo, hi, rfl, rfl, hlo, hlh, hhm, hhd, hnb, HLO, HHI, HSC⟩ := hcut
    obtain ⟨p, hp⟩ : ∃ p, p = nn - 1 := ⟨_, rfl⟩
    have e5 : (nn : Int) - 1 = (p : Int) := by omega
    have e6 : IntKind.i64.wrap (p : Int) = (p : Int) := by rw [IntKind.wrap_i64]; omega
    have hp1 : p + 1 = nn := by omega
    have HP1 := Lib.hid hp1
    clear hp hp1 HW
    go_wp2_with fail
    go_loopw [20, 21] (fun iv jv wr => ∃ I J : Nat, iv = .int .i64 I ∧ jv = .int .i64 J ∧ lo ≤ I ∧ I ≤ J ∧ J ≤ hi ∧ Hid (WS w0 g n jf hf D wr) ∧ Hid ((∀ q, lo ≤ q → q < I → Rk jf (D q) (D (p - q))) ∧ (∀ q, J ≤ q → q < hi → Rk jf (D (p - q)) (D q)))) (fun iv jv _ => (RowKit.intOf jv).toNat - (RowKit.intOf iv).toNat)
    case atStart => exact ⟨lo, hi, rfl, rfl, Nat.le_refl _, hlh, Nat.le_refl _, HSC.out, fun q h h' => by omega, fun q h h' => by omega⟩
    case round =>
      obtain ⟨I, J, rfl, rfl, hmI, hIJ, hJ, HS, HQ⟩ := hrel
      by_cases hlt : I < J
      · have hlt' : decide (I < J) = true := decide_eq_true hlt
        have hlt2 : decide ((I : Int) < (J : Int)) = true := decide_eq_true (by omega)
        obtain ⟨h, hh⟩ : ∃ h, h = (I + J) / 2 := ⟨_, rfl⟩
        have hhI : I ≤ h := by omega
        have hhJ : h < J := by omega
        have hhn : (h : Int) < (n : Int) := by omega
        have eh : ((I : Int) + (J : Int)) / 2 = (h : Int) := by omega
        obtain ⟨u, hu⟩ : ∃ u, u = p - h := ⟨_, rfl⟩
        have hup : u + h = p := by have := HP1.out; omega
        have HUP := Lib.hid hup
        have hum : m ≤ u := by have := HP1.out; omega
        have hub : u < b := by have := HP1.out; omega
        have eu : (p : Int) - (h : Int) = (u : Int) := by omega
        have eu' : IntKind.i64.wrap (u : Int) = (u : Int) := by rw [IntKind.wrap_i64]; omega
        have hun : (u : Int) < (n : Int) := by omega
        have HRK := Lib.hid (HM.out.rk (i := h) (j := u) (by omega) (by omega) hum hub)
        have HUQ : Hid (∀ q, lo ≤ q → q < hi → m ≤ p - q ∧ p - q < b ∧ (q < h → u < p - q) ∧ (h < q → p - q < u) ∧ (q = h → p - q = u)) := fun q q1 q2 => by have := HP1.out; omega
        clear hh hu hup
        obtain ⟨c0, c1, _, _⟩ := HS.out.cell (k := u) (by omega)
        obtain ⟨c2, c3, _, _⟩ := HS.out.cell (k := h) (by omega)
        have CXY : Hid (∀ w1, Calls Try.prog 48 #[.agg #[.int .u32 (jf (D u) : Nat), .int .i64 (hf (D u))], .agg #[.int .u32 (jf (D h) : Nat), .int .i64 (hf (D h))]] w1 fun e w' => e = .returned (.int .i64 (cmpN (jf (D u)) (jf (D h)))) ∧ Below w1.heap.size w1 w') := fun w1 => sayCmp_any _ _ _ _ w1
        have hcn := cmpN_neg (jf (D u)) (jf (D h))
        generalize cmpN (jf (D u)) (jf (D h)) = cr at CXY hcn
        have HCN := Lib.hid hcn
        clear hcn
        obtain ⟨x, hx⟩ : ∃ x, x = jf (D u) := ⟨_, rfl⟩
        obtain ⟨y, hy⟩ : ∃ y, y = jf (D h) := ⟨_, rfl⟩
        obtain ⟨px, hpx⟩ : ∃ x, x = hf (D u) := ⟨_, rfl⟩
        obtain ⟨py, hpy⟩ : ∃ x, x = hf (D h) := ⟨_, rfl⟩
        rw [← hx, ← hpx] at CXY
        rw [← hy, ← hpy] at CXY
        rw [← hx] at c0
        rw [← hy] at c2
        rw [← hpx] at c1
        rw [← hpy] at c3
        clear hx hy hpx hpy
        cases hq : decide (cr < 0)
        all_goals
          go_wp2_with fail
          go_region_held3 (fun w' => w'.cell? ⟨g, u * 2, none⟩ = some (.int .u32 (x : Nat)) ∧ w'.cell? ⟨g, u * 2 + 1, none⟩ = some (.int .i64 px) ∧ w'.cell? ⟨g, h * 2, none⟩ = some (.int .u32 (y : Nat)) ∧ w'.cell? ⟨g, h * 2 + 1, none⟩ = some (.int .i64 py) ∧ Below wr.heap.size wr w')
            (first
              | exact ⟨c0, c1, c2, c3, (Below.refl _ _).drew⟩
              | exact ⟨c0, c1, c2, c3, Below.refl _ _⟩
              | (rcases ‹_ ∧ _ ∧ _ ∧ _ ∧ Below wr.heap.size _ _› with ⟨q0, q1, q2, q3, q5⟩; exact ⟨cell_next (by assumption) q0, cell_next (by assumption) q1, cell_next (by assumption) q2, cell_next (by assumption) q3, below_next (by assumption) q5⟩))
            (first
              | (go_at_call 48; ((with_reducible refine (CXY.out _).mono ?_); rintro e wm ⟨rfl, bm⟩)))
          rcases ‹_ ∧ _ ∧ _ ∧ _ ∧ Below wr.heap.size _ _› with ⟨_, _, _, _, g6⟩
          have HZ := Lib.hid (HS.out.kept g6)
        · as_aux_lemma =>
          have hl : ¬ jf (D u) < jf (D h) := by have := HCN.out; rw [hq] at this; exact of_decide_eq_false this.symm
          have HF : Hid (∀ q, lo ≤ q → q < h + 1 → Rk jf (D q) (D (p - q))) := fun q q1 q2 => by
            have r := HRK.out.2.1 hl
            obtain ⟨z1, z2, z3, z4, z5⟩ := HUQ.out q q1 (by omega)
            by_cases e : q = h
            · rw [z5 e, e]; exact r
            · exact ((HM.out.lo q h (by omega) (by omega) (by omega)).trans r).trans (HM.out.hi u (p - q) hum (z3 (by omega)) z2)
          clear hl HRK HCN CXY c0 c1 c2 c3 HUQ
          go_wp2_with fail
          go_roundw
          case rel => exact ⟨h + 1, J, by go_num, by go_num, by omega, by omega, hJ, HZ.out, HF.out, HQ.out.2⟩
          case measure => simp [RowKit.intOf]; omega
        · as_aux_lemma =>
          have hl : jf (D u) < jf (D h) := by have := HCN.out; rw [hq] at this; exact of_decide_eq_true this.symm
          have HF : Hid (∀ q, h ≤ q → q < hi → Rk jf (D (p - q)) (D q)) := fun q q1 q2 => by
            have r := HRK.out.1.1 hl
            obtain ⟨z1, z2, z3, z4, z5⟩ := HUQ.out q (by omega) q2
            by_cases e : q = h
            · rw [z5 e, e]; exact r
            · exact ((HM.out.hi (p - q) u z1 (z4 (by omega)) hub).trans r).trans (HM.out.lo h q (by omega) (by omega) (by omega))
          clear hl HRK HCN CXY c0 c1 c2 c3 HUQ
          go_wp2_with fail
          go_roundw
          case rel => exact ⟨I, h, by go_num, by go_num, hmI, hhI, by omega, HZ.out, HQ.out.1, HF.out⟩
          case measure => simp [RowKit.intOf]; omega
      · have hlt' : decide (I < J) = false := decide_eq_false hlt
        have hlt2 : decide ((I : Int) < (J : Int)) = false := decide_eq_false (by omega)
        obtain rfl : I = J := by omega
        obtain ⟨e, he⟩ : ∃ e, e = nn - I := ⟨_, rfl⟩
        have e7 : (nn : Int) - (I : Int) = (e : Int) := by omega
        have e8 : IntKind.i64.wrap (e : Int) = (e : Int) := by rw [IntKind.wrap_i64]; omega
        have hme : m ≤ e := by omega
        have hmde : mid ≤ e := by omega
        have heb : e ≤ b := by omega
        have HCUT := Lib.hid (HM.out.cut (mid := mid) (s := I) (e := e) (by omega) (by omega) (by omega) (by omega) heb (by omega) (by omega) (fun x1 x2 => by
          have hpp := HP1.out
          have : lo < I := by
            rcases HLO.out with z | z <;> omega
          have := HQ.out.1 (I - 1) (by omega) (by omega)
          rwa [show p - (I - 1) = e by omega] at this) (fun x1 x2 => by
          have hpp := HP1.out
          have : I < hi := by
            rcases HHI.out with z | z <;> omega
          have := HQ.out.2 I (Nat.le_refl _) this
          rwa [show p - I = e - 1 by omega] at this))
        obtain ⟨wz, hwz⟩ : ∃ wz, wz = wr := ⟨_, rfl⟩
        subst hwz
        have hIm : I ≤ m := by omega
        have hImd : I ≤ mid := by omega
        have haI : a ≤ I := by omega
        clear HQ HM HLO HHI HP1 e5 e6 he
        as_aux_lemma =>
        go_upto_region 39 with fail
        go_cut [185] (fun s wx => s = .bool (decide (I < m ∧ m < e)) ∧ Hid (WS w0 g n jf hf D wx))
        case first =>
          as_aux_lemma =>
          by_cases k1 : I < m
          · have g1 : decide (I < m) = true := decide_eq_true k1
            have g2 : decide ((I : Int) < (m : Int)) = true := decide_eq_true (by omega)
            by_cases k2 : m < e
            · have g3 : decide (m < e) = true := decide_eq_true k2
              have g4 : decide ((m : Int) < (e : Int)) = true := decide_eq_true (by omega)
              go_wp2_with fail
              go_meet
              case rel => exact ⟨by rw [decide_eq_true ⟨k1, k2⟩], HS.out⟩
            · have g3 : decide (m < e) = false := decide_eq_false k2
              have g4 : decide ((m : Int) < (e : Int)) = false := decide_eq_false (by omega)
              go_wp2_with fail
              go_meet
              case rel => exact ⟨by rw [decide_eq_false (fun h => k2 h.2)], HS.out⟩
          · have g1 : decide (I < m) = false := decide_eq_false k1
            have g2 : decide ((I : Int) < (m : Int)) = false := decide_eq_false (by omega)
            go_wp2_with fail
            go_meet
            case rel => exact ⟨by rw [decide_eq_false (fun h => k1 h.1)], HS.out⟩
        case rest =>
        as_aux_lemma =>
        clear HS
        obtain ⟨rfl, HS⟩ := hcut
        obtain ⟨β, hβ⟩ : ∃ β, β = decide (I < m ∧ m < e) := ⟨_, rfl⟩
        have HB := Lib.hid hβ
        rw [← hβ]
        clear hβ
        go_upto_if 185 with fail
        go_cut [] (fun wx => Hid (WS w0 g n jf hf (rotF D I m e) wx))
        case first =>
          as_aux_lemma =>
          cases β with
          | true =>
            have hk := of_decide_eq_true HB.out.symm
            have C := Lib.hid (rotW_any w0 g n cap I m e jf hf D wc HS.out hk.1 hk.2 (by omega) hn)
            go_wp2_with fail
            refine C.out.mono ?_; rintro e w1 ⟨rfl, hw1⟩
            have HW1 := Lib.hid hw1
            clear hw1 C
            go_wp2_with fail
            go_meet
            case rel => exact HW1
          | false =>
            have hk := of_decide_eq_false HB.out.symm
            have HW1 : Hid (WS w0 g n jf hf (rotF D I m e) wc) := by unfold Hid; rw [rotF_triv D hIm hme hk]; exact HS.out
            go_wp2_with fail
            go_meet
            case rel => exact HW1
        case rest =>
        as_aux_lemma =>
        clear HB HS
        obtain ⟨D1, hD1⟩ : ∃ D1, D1 = rotF D I m e := ⟨_, rfl⟩
        have HR1 : Hid (SR a b D D1) := by unfold Hid; rw [hD1]; exact (rotF_SR hIm hme).mono haI heb
        rw [← hD1] at HCUT hcut
        clear hD1
        have HSx := Lib.hid hcut.out
        clear hcut
        go_upto_region 41 with fail
        go_cut [199] (fun s wx => s = .bool (decide (a < I ∧ I < mid)) ∧ Hid (WS w0 g n jf hf D1 wx))
        case first =>
          as_aux_lemma =>
          by_cases k1 : a < I
          · have g1 : decide (a < I) = true := decide_eq_true k1
            have g2 : decide ((a : Int) < (I : Int)) = true := decide_eq_true (by omega)
            by_cases k2 : I < mid
            · have g3 : decide (I < mid) = true := decide_eq_true k2
              have g4 : decide ((I : Int) < (mid : Int)) = true := decide_eq_true (by omega)
              go_wp2_with fail
              go_meet
              case rel => exact ⟨by rw [decide_eq_true ⟨k1, k2⟩], HSx.out⟩
            · have g3 : decide (I < mid) = false := decide_eq_false k2
              have g4 : decide ((I : Int) < (mid : Int)) = false := decide_eq_false (by omega)
              go_wp2_with fail
              go_meet
              case rel => exact ⟨by rw [decide_eq_false (fun h => k2 h.2)], HSx.out⟩
          · have g1 : decide (a < I) = false := decide_eq_false k1
            have g2 : decide ((a : Int) < (I : Int)) = false := decide_eq_false (by omega)
            go_wp2_with fail
            go_meet
            case rel => exact ⟨by rw [decide_eq_false (fun h => k1 h.1)], HSx.out⟩
        case rest =>
        as_aux_lemma =>
        clear HSx
        obtain ⟨rfl, HSx⟩ := hcut
        obtain ⟨β, hβ⟩ : ∃ β, β = decide (a < I ∧ I < mid) := ⟨_, rfl⟩
        have HB := Lib.hid hβ
        rw [← hβ]
        clear hβ
        go_upto_if 199 with fail
        go_cut [] (fun wx => ∃ D2, Hid (WS w0 g n jf hf D2 wx) ∧ Hid (SR a mid D1 D2 ∧ Srt jf D2 a mid))
        case first =>
          as_aux_lemma =>
          cases β with
          | true =>
            have hk := of_decide_eq_true HB.out.symm
            have C := Lib.hid (HIH.out a I mid D1 wc HSx.out hk.1 hk.2 (by omega) HCUT.out.1 (by omega))
            go_wp2_with fail
            refine C.out.mono ?_; rintro e w1 ⟨rfl, D2, hw1, hs1, hs2⟩
            have HW1 := Lib.hid hw1
            have HW2 := Lib.hid (And.intro hs1 hs2)
            clear hw1 hs1 hs2 C
            go_wp2_with fail
            go_meet
            case rel => exact ⟨D2, HW1, HW2⟩
          | false =>
            have hk := of_decide_eq_false HB.out.symm
            have HW2 : Hid (SR a mid D1 D1 ∧ Srt jf D1 a mid) := ⟨SR.refl _ _ _, by
              by_cases c : I = a
              · have := HCUT.out.1.hi; rwa [c] at this
              · have c2 : I = mid := by omega
                have := HCUT.out.1.lo; rwa [c2] at this⟩
            go_wp2_with fail
            go_meet
            case rel => exact ⟨D1, HSx, HW2⟩
        case rest =>
        as_aux_lemma =>
        clear HB HSx
        obtain ⟨D2, HSx, H2⟩ := hcut
        have HM2 : Hid (Mrg jf D2 mid e b) := HCUT.out.2.1.out H2.out.1 (Nat.le_refl _) hmde heb
        have HJ : Hid (∀ D3, SR mid b D2 D3 → Srt jf D3 mid b → SR a b D D3 ∧ Srt jf D3 a b) := fun D3 x1 x2 =>
          ⟨(HR1.out.trans (H2.out.1.mono (Nat.le_refl _) (by omega))).trans (x1.mono (by omega) (Nat.le_refl _)), srt_join (by omega) (by omega) H2.out.1 HCUT.out.2.2 H2.out.2 D3 x1 x2⟩
        clear H2 HR1 HCUT
        go_upto_region 43 with fail
        go_cut [213] (fun s wx => s = .bool (decide (mid < e ∧ e < b)) ∧ Hid (WS w0 g n jf hf D2 wx))
        case first =>
          as_aux_lemma =>
          by_cases k1 : mid < e
          · have g1 : decide (mid < e) = true := decide_eq_true k1
            have g2 : decide ((mid : Int) < (e : Int)) = true := decide_eq_true (by omega)
            by_cases k2 : e < b
            · have g3 : decide (e < b) = true := decide_eq_true k2
              have g4 : decide ((e : Int) < (b : Int)) = true := decide_eq_true (by omega)
              go_wp2_with fail
              go_meet
              case rel => exact ⟨by rw [decide_eq_true ⟨k1, k2⟩], HSx.out⟩
            · have g3 : decide (e < b) = false := decide_eq_false k2
              have g4 : decide ((e : Int) < (b : Int)) = false := decide_eq_false (by omega)
              go_wp2_with fail
              go_meet
              case rel => exact ⟨by rw [decide_eq_false (fun h => k2 h.2)], HSx.out⟩
          · have g1 : decide (mid < e) = false := decide_eq_false k1
            have g2 : decide ((mid : Int) < (e : Int)) = false := decide_eq_false (by omega)
            go_wp2_with fail
            go_meet
            case rel => exact ⟨by rw [decide_eq_false (fun h => k1 h.1)], HSx.out⟩
        case rest =>
        as_aux_lemma =>
        clear HSx
        obtain ⟨rfl, HSx⟩ := hcut
        obtain ⟨β, hβ⟩ : ∃ β, β = decide (mid < e ∧ e < b) := ⟨_, rfl⟩
        have HB := Lib.hid hβ
        rw [← hβ]
        clear hβ
        cases β with
        | true =>
          have hk := of_decide_eq_true HB.out.symm
          have C := Lib.hid (HIH.out mid e b D2 wc HSx.out hk.1 hk.2 hb HM2.out (by omega))
          go_wp2_with fail
          refine C.out.mono ?_; rintro e w1 ⟨rfl, D3, hw1, hs1, hs2⟩
          have HW1 := Lib.hid hw1
          have HW2 := Lib.hid (HJ.out D3 hs1 hs2)
          clear hw1 hs1 hs2 C
          go_wp2_with fail
          go_returns
          exact ⟨rfl, D3, HW1.out, HW2.out⟩
        | false =>
          have hk := of_decide_eq_false HB.out.symm
          have HW2 := Lib.hid (HJ.out D2 (SR.refl _ _ _) (by
            by_cases c : e = mid
            · have := HM2.out.hi; rwa [c] at this
            · have c2 : e = b := by omega
              have := HM2.out.lo; rwa [c2] at this))
          go_wp2_with fail
          go_returns
          exact ⟨rfl, D2, HSx.out, HW2.out⟩
theorem sym_any (w0 : World) (g n cap : Nat) (jf : Nat → Nat) (hf : Nat → Int) (hn : n ≤ 4194304) : ∀ k, SymIH w0 g n cap jf hf k := by
  intro k
  induction k with
  | zero => intro a m b D w _ _ _ _ _ h; omega
  | succ k ih =>
    intro a m b D w h1 h2 h3 h4 h5 h6
    by_cases c1 : m = a + 1
    · exact symOne_any w0 g n cap a m b jf hf D w h1 h2 h3 h4 hn h5 c1
    · by_cases c2 : b = m + 1
      · exact symLast_any w0 g n cap a m b jf hf D w h1 h2 h3 h4 hn h5 c1 c2
      · exact symGen_any w0 g n cap a m b jf hf D w h1 h2 h3 h4 hn h5 c1 c2 (fun a' m' b' D' w' x1 x2 x3 x4 x5 x6 => ih a' m' b' D' w' x1 x2 x3 x4 x5 (by omega))
end Go.Proofs.Ytfabjlhepadkpaa
