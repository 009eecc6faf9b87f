/-
  Layer 17: gangerref17.Get at any bytes: inside.
-/
import Derived.Test.YtgohnidndjbjiaaCrateI
import Derived.Test.YtgohnidndjbjiaaCrateL
namespace Go.Proofs.Ytgohnidndjbjiaa
open Go Go.RowKit Go.Lib
set_option linter.unusedVariables false

set_option maxRecDepth 100000 in
set_option maxHeartbeats 1000000 in
theorem refGet_in {w : World} {K : Nat → Prop} {A : Option Addr} {n c : Nat} {bs : List UInt8} (h : Rd w K (.slice A n c) (bts bs)) (k : Nat) (hk : k < bs.length) (hn : bs.length ≤ 1000000) :
    Calls Try.prog 61 #[.slice A n c, .int .i64 k] w (GetTo w k (bs.drop k)) := by
  obtain ⟨hA, hc, hcm⟩ : n = bs.length ∧ n ≤ c ∧ c ≤ maxLen := by
    obtain ⟨A', c', h1, h2, h3, _⟩ := h
    injection h1 with h1 h4 h5
    subst h5
    rw [bts_len] at h4 h2
    exact ⟨h4, by omega, h3⟩
  subst hA
  obtain ⟨b, off, rfl, _, _, cc⟩ := rd_at h hk
  obtain ⟨M, hM⟩ : ∃ M, M = bs.length := ⟨_, rfl⟩
  rw [← hM] at hk hn hc h ⊢
  have HR := Lib.hid h
  have HRr : Hid (Rd w K (.slice (some ⟨b, off + k, none⟩) (M - k) (c - k)) (bts (bs.drop k))) := by
    rw [hM]; rw [hM] at h; exact rd_drop h k (by omega) (c - k) (by omega) (by unfold maxLen at *; omega)
  obtain ⟨r, hr⟩ : ∃ r, r = bs.drop k := ⟨_, rfl⟩
  have hL : r.length = M - k := by rw [hr, List.length_drop, hM]
  have hg : ∀ j, j < r.length → w.cell? ⟨b, off + (k + j), none⟩ = some (.int .u8 ((r.getD j 0).toNat : Int)) := fun j hj => by
    have := rd_byte (by rw [← hr, ← hL] at HRr; exact HRr.out) j hj
    rw [Nat.add_assoc] at this; exact this
  rw [← hr] at HRr ⊢
  have HBS : Hid (r = bs.drop k) := hr
  have HMb : Hid (M = bs.length) := hM
  have t1 : ¬ (k : Int) < 0 := by omega
  have t2 : ¬ (M : Int) < k := by omega
  have t3 : ((k : Int) == (M : Int)) = false := beq_eq_false_iff_ne.2 (by omega)
  have t3' : (k == M) = false := beq_eq_false_iff_ne.2 (by omega)
  have hr0 : 0 < r.length := by omega
  have c0 := hg 0 hr0
  rw [Nat.add_zero] at c0
  have hkM : (k : Int) < M := by omega
  unfold maxLen at hcm
  by_cases hz : r.getD 0 0 = 0
  · have HI : Hid (isB r = false) := by unfold isB Hid; rw [hz]; simp
    have HN : Hid (noB r = 170) := by unfold noB Hid; rw [if_pos (.inr hz)]
    rw [hz] at c0
    clear hz hg hr hM hL cc HR HRr h
    go_enter Try.func61, Try.ntmps61
    go_wp2_with fail
    go_returns
    exact .inl ⟨HI.out, by rw [HN.out]; rfl, Below.refl _ _⟩
  · have HN171 : Hid (noB r = 171) := by unfold noB Hid; rw [if_neg (by intro h; rcases h with h | h; omega; exact hz h)]
    have tz : (((r.getD 0 0).toNat : Int) == 0) = false := by
      have : (r.getD 0 0).toNat ≠ 0 := fun h => hz (UInt8.toNat_inj.1 h)
      exact beq_eq_false_iff_ne.2 (by omega)
    obtain ⟨L, hLe⟩ : ∃ L, L = M - k := ⟨_, rfl⟩
    have e1 : (M : Int) - k = (L : Int) := by omega
    have hLr : r.length = L := by rw [hL, hLe]
    have c1' := fun h => hg 1 h
    have c2' := fun h => hg 2 h
    have HLn : Hid (lenB r = (r.getD 1 0).toNat * 256 + (r.getD 2 0).toNat) := rfl
    have q1l := (r.getD 1 0).toNat_lt
    have q2l := (r.getD 2 0).toNat_lt
    generalize (r.getD 1 0).toNat = Q1 at *
    generalize (r.getD 2 0).toNat = Q2 at *
    have hz' : ¬ r.getD 0 0 = 0 := hz
    generalize (r.getD 0 0).toNat = Q0 at *
    by_cases h7 : L < 7
    · have HI : Hid (isB r = false) := by
        cases h : isB r with
        | false => rfl
        | true => have := isB_len h; omega
      have t4 : decide ((L : Int) < 7) = true := decide_eq_true (by omega)
      clear hz hz' hg c1' c2' HLn hr hM hL cc HR HRr h hLe hLr h7 q1l q2l
      go_enter Try.func61, Try.ntmps61
      go_wp2_with fail
      go_returns
      exact .inl ⟨HI.out, by rw [HN171.out]; rfl, Below.refl _ _⟩
    · have t4 : decide ((L : Int) < 7) = false := decide_eq_false (by omega)
      have c1 := c1' (by omega)
      have c2 := c2' (by omega)
      obtain ⟨N, hN⟩ : ∃ N, N = Q1 * 256 + Q2 := ⟨_, rfl⟩
      have hNl : N ≤ 65535 := by omega
      have en : (Q1 : Int) * 256 + (Q2 : Int) = (N : Int) := by omega
      have HLN : Hid (lenB r = N) := by rw [HLn.out, hN]; rfl
      obtain ⟨K1, hK1⟩ : ∃ K1, K1 = k + 1 := ⟨_, rfl⟩
      obtain ⟨K2, hK2⟩ : ∃ K2, K2 = k + 2 := ⟨_, rfl⟩
      rw [← hK1] at c1
      rw [← hK2] at c2
      have b1 : (K1 : Int) < M := by omega
      have b2 : (K2 : Int) < M := by omega
      have kb1 : K1 ≤ 1000001 := by omega
      have kb2 : K2 ≤ 1000002 := by omega
      have k1e : (k : Int) + 1 = (K1 : Int) := by omega
      have k2e : (k : Int) + 2 = (K2 : Int) := by omega
      go_enter Try.func61, Try.ntmps61
      have HLE := Lib.hid hLe
      have HLR := Lib.hid hLr
      clear hz hg hr hM hL cc HR h hK1 hK2 HLn hN hLe hLr
      go_upto_region 7 with fail
      go_quiet (fail)
      clear c1 c2 k1e k2e b1 b2 kb1 kb2
      obtain ⟨L7, hL7⟩ : ∃ L7, L7 = L - 7 := ⟨_, rfl⟩
      have hLr := HLR.out
      have hLe := HLE.out
      have e2 : (L : Int) - 7 = (L7 : Int) := by omega
      by_cases h9 : L7 < N
      · have t5 : decide ((N : Int) > (L7 : Int)) = true := decide_eq_true (by omega)
        have t5' : decide (L7 < N) = true := decide_eq_true h9
        have HI : Hid (isB r = false) := by
          cases h : isB r with
          | false => rfl
          | true => have := isB_len h; rw [HLN.out] at this; omega
        clear h9 hL7 hLr hLe
        go_wp2_with fail
        go_returns
        exact .inl ⟨HI.out, by rw [HN171.out]; rfl, below_drewN (Below.refl _ _) _⟩
      · have t5 : decide ((N : Int) > (L7 : Int)) = false := decide_eq_false (by omega)
        have t5' : decide (L7 < N) = false := decide_eq_false h9
        have d2 : k + 3 + N ≤ c := by omega
        have d3 : ¬ c = k + 3 := by omega
        have d5 : (k : Int) + 3 + N ≤ c := by omega
        have D7 : Hid (k + 7 + N ≤ c) := by unfold Hid; omega
        have HNK : Hid (N + 7 ≤ r.length) := by unfold Hid; omega
        obtain ⟨bd, hbd⟩ : ∃ bd, bd = bodyB r := ⟨_, rfl⟩
        have hbl : bd.length = N := by rw [hbd]; unfold bodyB; rw [List.length_take, List.length_drop, HLN.out]; omega
        have HRB : Hid (Rd w K (.slice (some ⟨b, off + (k + 3), none⟩) N (c - (k + 3))) (bts bd)) := by
          have h1 := rd_drop HRr.out 3 (by omega) (c - k - 3) (by omega) (by unfold maxLen; omega)
          have h2 := rd_take (ss := r.drop 3) (n := N) (A := some ⟨b, off + k + 3, none⟩) (c := c - k - 3) (by rw [List.length_drop]; exact h1) (by rw [List.length_drop]; omega)
          have h3 : bd = (r.drop 3).take N := by rw [hbd]; unfold bodyB; rw [HLN.out]
          rw [h3, show off + (k + 3) = off + k + 3 by omega, show c - (k + 3) = c - k - 3 by omega]
          exact h2
        have HBD := Lib.hid hbd
        have HBL := Lib.hid hbl
        have HRT : Hid (Rd w K (.slice (some ⟨b, off + k, none⟩) (N + 7) (c - k)) (bts (r.take (N + 7)))) :=
          rd_take (ss := r) (by rw [hLr, hLe]; exact HRr.out) (N + 7) (by omega)
        have HIFF : Hid (isB r = (decide (N ≤ 8000) && (putB bd == r.take (N + 7)))) := by
          have := isB_put_iff r (by rw [HLN.out]; omega)
          rw [HLN.out, ← hbd] at this; exact this
        clear hbd hbl hL7 h9 hLr hLe
        go_wp2_with fail
        refine (refPut_any (HRB.out.fr ((Fr.refl (fun _ => False) w).drewN nq) fun _ _ _ h => h)).mono ?_; rintro e w2 ⟨v2, rfl, ho2, hb2⟩
        have B2 : Hid (Below w.heap.size w w2) := (below_drewN (Below.refl _ w) nq).trans hb2
        have hbl := HBL.out
        by_cases h8 : 8000 < N
        · have HE : Hid (putE bd = 3) := by unfold putE Hid; rw [if_neg (by omega)]
          have HI : Hid (isB r = false) := by rw [HIFF.out, decide_eq_false (by omega)]; rfl
          rw [HE.out]
          obtain ⟨A2, c2, rfl⟩ := owned_slice ho2
          clear h8 hbl ho2 hb2
          go_wp2_with fail
          go_quiet (fail)
          go_wp2_with fail
          go_returns
          exact .inl ⟨HI.out, by rw [HN171.out]; rfl, below_drewN B2.out _⟩
        · have HE : Hid (putE bd = 0) := by unfold putE Hid; rw [if_pos (by omega)]
          have HPR : Hid (putR bd = putB bd) := by unfold putR Hid; rw [if_pos (by omega)]
          rw [HE.out]
          rw [HPR.out] at ho2
          have R2 := Rd.of_owns (K := fun _ => True) (by rw [bts_len]; exact ho2) fun _ _ => trivial
          have R3 := HRT.out.kept B2.out
          have x1 : ∀ q, (convert 37 9 v2).run Try.prog (w2.drewN q) = .ok (.string (str (putB bd))) (w2.drewN q) := conv_drew R2
          have x2 : ∀ q, (convert 37 9 (.slice (some ⟨b, off + k, none⟩) (N + 7) (c - k))).run Try.prog (w2.drewN q) = .ok (.string (str (r.take (N + 7)))) (w2.drewN q) := conv_drew R3
          obtain ⟨E, hE⟩ : ∃ E, E = (putB bd == r.take (N + 7)) := ⟨_, rfl⟩
          have x3 : ((str (putB bd)).toList == (str (r.take (N + 7))).toList) = E := by rw [str_list, str_list, hE]
          have HIE : Hid (isB r = E) := by rw [HIFF.out, decide_eq_true (by omega), ← hE]; simp [Hid]
          generalize str (putB bd) = sa at *
          generalize str (r.take (N + 7)) = sb at *
          obtain ⟨A2, c2, rfl⟩ := owned_slice ho2
          obtain ⟨K7, hK7⟩ : ∃ K7, K7 = k + 7 := ⟨_, rfl⟩
          obtain ⟨KN, hKN⟩ : ∃ KN, KN = K7 + N := ⟨_, rfl⟩
          have k7e : (k : Int) + 7 = (K7 : Int) := by omega
          have kNe : (K7 : Int) + (N : Int) = (KN : Int) := by omega
          have d7 : KN ≤ c := by have := D7.out; omega
          have d7' : (KN : Int) ≤ c := by omega
          have d8 : k ≤ KN := by omega
          have d8' : (k : Int) ≤ KN := by omega
          have d10 : ¬ c = k := by omega
          have d11 : K7 ≤ 1000010 := by omega
          have d12 : KN ≤ 1100000 := by omega
          rw [show N + 7 = KN - k by omega] at x2
          clear hK7 hKN
          clear R2 R3 ho2 hb2 hbl h8 hE
          cases E with
          | false =>
            go_wp2_with fail
            go_quiet (fail)
            go_wp2_with fail
            go_returns
            exact .inl ⟨HIE.out, by rw [HN171.out]; rfl, below_drewN B2.out _⟩
          | true =>
            have HNX : Hid (bd.length = N) := HBL.out
            have CP : Hid (∀ w', Below w2.heap.size w2 w' → Calls Try.prog 43 #[.slice (some ⟨b, off + (k + 3), none⟩) N (c - (k + 3))] w' (CopyTo w' bd)) := fun w' hb => byCopy_any ((HRB.out.kept B2.out).kept hb) (by rw [HBL.out]; omega)
            have HBOD : Hid (bd = (r.drop 3).take (lenB r)) := by rw [HBD.out]; rfl
            have eR : Hid ((KN : Int) = (k : Int) + (lenB r : Nat) + 7) := by unfold Hid; rw [HLN.out]; omega
            go_wp2_with fail
            go_quiet (fail)
            go_wp2_with fail
            refine (CP.out _ (below_drewN (Below.refl _ _) _)).mono ?_; rintro e w3 ⟨v3, rfl, ho3, hb3⟩
            rw [HNX.out] at ho3
            have HO3 := Lib.hid ho3
            have B3 : Hid (Below w.heap.size w w3) := B2.out.trans (((below_drewN (Below.refl _ w2) _).trans hb3).mono B2.out.size)
            have HS3 : Hid (w.heap.size ≤ w2.heap.size) := B2.out.size
            obtain ⟨A3, c3, rfl⟩ := owned_slice ho3
            clear ho3 hb3
            go_wp2_with fail
            go_returns
            refine .inr ⟨HIE.out, .slice A3 N c3, ?_, ?_, B3.out⟩
            · rw [← eR.out]; rfl
            · rw [HLN.out, ← HLN.out, ← HBOD.out, HLN.out]; exact owns_mono HO3.out HS3.out
theorem refGet_any {w : World} {K : Nat → Prop} {A : Option Addr} {n c : Nat} {bs : List UInt8} (h : Rd w K (.slice A n c) (bts bs)) (k : Nat) (hk : k ≤ bs.length) (hn : bs.length ≤ 1000000) :
    Calls Try.prog 61 #[.slice A n c, .int .i64 k] w (GetTo w k (bs.drop k)) := by
  rcases Nat.lt_or_ge k bs.length with h1 | h1
  · exact refGet_in h k h1 hn
  · obtain rfl : k = bs.length := by omega
    obtain rfl : n = bs.length := by
      obtain ⟨A', c', h1, h2, h3, _⟩ := h
      injection h1 with h1 h4 h5
      rw [bts_len] at h4
      exact h4
    refine (refGet_end w).mono fun e w' ⟨he, hw⟩ => .inl ?_
    rw [List.drop_length]
    subst hw
    exact ⟨isB_nil, he, Below.refl _ _⟩
end Go.Proofs.Ytgohnidndjbjiaa
