/-
  gangerref11.norm: at any accounts that may be.
  share.part: at any numbers.
  gangerref11.sum: at any accounts that may be.
-/
import Derived.Test.YtbnlmeegepgioaaDoorShD
import Derived.Test.YtbnlmeegepgioaaDoorNum4
import Derived.Test.YtbnlmeegepgioaaDoorNumRefMd
namespace Go.Proofs.YtbnlmeegepgioaaDoor
set_option linter.unusedVariables false

section
open Go Go.RowKit Go.Lib
theorem Tree.shInt {l : List AcT} (h : Tree l) {k : Nat} (hk : k < l.length) : l[k].2.2 = (shI l k : Int) := by
  have h1 := h.sh k hk
  rw [shI_at hk] at h1 ⊢
  omega
/-- The cells of one account. -/
theorem ac_cells {w : World} {b off n c : Nat} {l : List AcT} (hA : Tree l) (h : AcRow w (.slice (some ⟨b, off, none⟩) n c) l) {k : Nat} (hk : k < l.length) {w' : World} (hb : Below w.heap.size w w') :
    w'.cell? ⟨b, off + k * 3, none⟩ = some (.string (nmI l k)) ∧ w'.cell? ⟨b, off + k * 3 + 1, none⟩ = some (.string (upI l k)) ∧ w'.cell? ⟨b, off + k * 3 + 2, none⟩ = some (.int .i64 (shI l k)) := by
  obtain ⟨b', off', e, hc⟩ := h.at hk
  injection e with e; injection e with e1 e2; subst e1; subst e2
  have c0 := hc w' hb 0 _ rfl
  have c1 := hc w' hb 1 _ rfl
  have c2 := hc w' hb 2 _ rfl
  rw [nmI_at hk, upI_at hk, ← hA.shInt hk]
  exact ⟨c0, c1, c2⟩
def allTo (l : List AcT) (p k : Nat) : Nat := sumN k fun j => if 0 < j ∧ parI l j = p then shI l j else 0
theorem allTo_le {l : List AcT} (h : Tree l) (p : Nat) {k : Nat} (hk : k ≤ l.length) : allTo l p k ≤ 52428800 := Nat.le_trans (sumN_mono hk) (allI_le h p)
set_option maxRecDepth 100000 in
set_option maxHeartbeats 4000000 in
theorem refNorm_ind (v : Value) (l : List AcT) (w : World) (hv : AcRow w v l) (hA : Tree l) : ∀ f i, i ≤ f → i < l.length → ∀ w0, Below w.heap.size w w0 →
    Calls Tryd.prog 31 #[v, .int .i64 (i : Nat)] w0 fun e w' => e = .returned (.int .i64 (normI l i : Nat)) ∧ Below w0.heap.size w0 w' := by
  intro f
  induction f with
  | zero =>
    intro i hi hil w0 hb
    have : i = 0 := by omega
    subst this
    rw [normI_zero]
    obtain ⟨va, vc, rfl⟩ := hv.slice
    clear hv
    go_enter Tryd.func31, Tryd.ntmps31
    go_wp2_with fail
    go_ret
    exact ⟨rfl, Below.refl _ _⟩
  | succ f ih =>
    intro i hi hil w0 hb
    rcases Nat.eq_zero_or_pos i with rfl | h0
    · exact ih 0 (by omega) hil w0 hb
    · obtain ⟨va, vc, rfl⟩ := hv.slice
      obtain ⟨b, off, hva, _⟩ := rowG_all hv (by omega)
      subst hva
      have hp := hA.lt i hil h0
      have IH := Lib.hid (fun w1 (h1 : Below w.heap.size w w1) => ih (parI l i) (by omega) (by omega) w1 h1)
      have hnorm := normI_eq hA hil h0
      have HCI := Lib.hid (fun w1 (h1 : Below w.heap.size w w1) => ac_cells hA hv hil h1)
      have HV := Lib.hid hv
      have HA := Lib.hid hA
      have HB0 := Lib.hid hb
      obtain ⟨p, hpp⟩ : ∃ p, p = parI l i := ⟨_, rfl⟩
      rw [← hpp] at hp IH hnorm
      obtain ⟨UP, hUP⟩ : ∃ UP, UP = normI l p := ⟨_, rfl⟩
      have hUPb : UP ≤ 65536 := by rw [hUP]; exact normI_le hA p p (Nat.le_refl _) (by omega)
      rw [← hUP] at IH hnorm
      have hsh := hA.sh i hil
      have hal : shI l i ≤ allI l p := by rw [hpp]; exact allI_at hil h0
      obtain ⟨s, hs⟩ : ∃ s, s = shI l i := ⟨_, rfl⟩
      obtain ⟨pn, hpn⟩ : ∃ pn, pn = upI l i := ⟨_, rfl⟩
      obtain ⟨nm, hnm⟩ : ∃ nm, nm = nmI l i := ⟨_, rfl⟩
      rw [← hs, ← hpn, ← hnm] at HCI
      rw [← hs] at hnorm hsh hal
      obtain ⟨R, hR⟩ : ∃ R, R = normI l i := ⟨_, rfl⟩
      rw [← hR] at hnorm ⊢
      have HN := Lib.hid hnorm
      have HPN := Lib.hid hpn
      have HPP := Lib.hid hpp
      have hsU : Hid (∀ k, k < l.length → (upI l k = pn ↔ 0 < k ∧ parI l k = p)) := fun k hk => by rw [hpn, hpp]; exact hA.sameUp hk hil h0
      have hsN : Hid (∀ k, k < l.length → (nmI l k = pn ↔ k = p)) := fun k hk => by
        rw [hpn, eq_comm, hA.isUp hil hk]
        exact ⟨fun h => by rw [hpp]; exact h.2.symm, fun h => ⟨h0, by rw [← hpp]; exact h.symm⟩⟩
      obtain ⟨LN, hLN⟩ : ∃ L, L = l.length := ⟨_, rfl⟩
      rw [← hLN] at HV hil IH ⊢
      have HLN := Lib.hid hLN
      have h50 : LN ≤ 50 := by rw [hLN]; exact hA.n50
      have z1 : (i == 0) = false := by simp; omega
      have z2 : decide (i = 0) = false := decide_eq_false (by omega)
      have z3 : ¬ i = 0 := by omega
      have z4 : ¬ (i : Int) = 0 := by omega
      have z5 : ((i : Int) == 0) = false := by rw [beq_eq_false_iff_ne]; exact z4
      have HAL := Lib.hid hal
      clear hv hA hb ih hnorm hpn hpp hUP hs hnm hR hLN hal
      go_enter Tryd.func31, Tryd.ntmps31
      go_wp2_with fail
      go_loopw [5, 6, 7] (fun av uv iv wr => ∃ (k A U : Nat), k ≤ LN ∧ iv = .int .i64 k ∧ av = .int .i64 A ∧ uv = .int .i64 U ∧ A ≤ 52428800 ∧ Hid (A = allTo l p k) ∧ Hid (U = if p < k then UP else 0) ∧ Hid (Below w0.heap.size w0 wr)) (fun _ _ iv _ => LN - (RowKit.intOf iv).toNat)
      case atStart => exact ⟨0, 0, 0, Nat.zero_le _, rfl, rfl, rfl, by omega, rfl, rfl, Below.refl _ _⟩
      case round =>
        obtain ⟨k, A, U, hk, rfl, rfl, rfl, hAb, HAk, HU, HB⟩ := hrel
        by_cases hlt : k < LN
        · have hd : decide (k < LN) = true := decide_eq_true hlt
          have hki : (k : Int) < (LN : Int) := by omega
          have hiL : (i : Int) < (LN : Int) := by omega
          have hkl : k < l.length := by rw [← HLN.out]; exact hlt
          have hBw := below_next HB.out HB0.out
          obtain ⟨i0, i1, i2⟩ := HCI.out wr hBw
          obtain ⟨k0, k1, k2⟩ := ac_cells HA.out HV.out hkl hBw
          have hu := hsU.out k hkl
          have hn := hsN.out k hkl
          have hA2 := allTo_le HA.out p (k := k + 1) (by omega)
          have hst : allTo l p (k + 1) = allTo l p k + if 0 < k ∧ parI l k = p then shI l k else 0 := rfl
          have hsk := HA.out.sh k hkl
          rw [← HAk.out] at hst
          obtain ⟨nk, hnk⟩ : ∃ x, x = nmI l k := ⟨_, rfl⟩
          obtain ⟨uk, huk⟩ : ∃ x, x = upI l k := ⟨_, rfl⟩
          obtain ⟨sk, hskk⟩ : ∃ x, x = shI l k := ⟨_, rfl⟩
          rw [← hnk] at k0 hn
          rw [← huk] at k1 hu
          rw [← hskk] at k2 hst hsk
          have HBW := Lib.hid hBw
          clear hnk huk hskk hBw
          by_cases q : uk = pn
          · have q1 : (uk.toList == pn.toList) = true := by rw [str_beq]; exact decide_eq_true q
            rw [if_pos (hu.1 q)] at hst
            have hA3 : A + sk ≤ 52428800 := by rw [← hst]; exact hA2
            have HST : Hid (A + sk = allTo l p (k + 1)) := hst.symm
            clear hu q hst hA2
            go_upto_region 8 with fail
            go_quiet (fail)
            by_cases r : nk = pn
            · have r1 : (nk.toList == pn.toList) = true := by rw [str_beq]; exact decide_eq_true r
              have hkp : Hid (k = p) := hn.1 r
              have IHK := IH
              rw [← hkp.out] at IHK
              clear hn r
              go_upto_region 10 with fail
              go_quiet (fail)
              go_wp2_with fail
              refine (IHK.out _ (below_drewN HBW.out _)).mono ?_; rintro e w2 ⟨rfl, b2⟩
              have HB2 : Hid (Below w0.heap.size w0 w2) := (below_next b2 (below_drewN HB.out _))
              have HUN : Hid (UP = if p < k + 1 then UP else 0) := by unfold Hid; rw [if_pos (by have := hkp.out; omega)]
              clear b2
              go_wp2_with fail
              go_roundw
              case rel => exact ⟨k + 1, A + sk, UP, hlt, by go_num, by go_num, rfl, hA3, HST, HUN, HB2⟩
              case measure => simp [RowKit.intOf]; omega
            · have r1 : (nk.toList == pn.toList) = false := by rw [str_beq]; exact decide_eq_false r
              have HUN : Hid (U = if p < k + 1 then UP else 0) := by
                have : k ≠ p := fun e => r (hn.2 e)
                unfold Hid; rw [HU.out]
                by_cases h : p < k
                · rw [if_pos h, if_pos (by omega)]
                · rw [if_neg h, if_neg (by omega)]
              clear hn r
              go_upto_region 10 with fail
              go_quiet (fail)
              go_wp2_with fail
              go_roundw
              case rel => exact ⟨k + 1, A + sk, U, hlt, by go_num, by go_num, rfl, hA3, HST, HUN, below_drewN HB.out _⟩
              case measure => simp [RowKit.intOf]; omega
          · have q1 : (uk.toList == pn.toList) = false := by rw [str_beq]; exact decide_eq_false q
            rw [if_neg (fun h => q (hu.2 h))] at hst
            have HST : Hid (A = allTo l p (k + 1)) := hst.symm
            clear hu q hst hA2
            go_upto_region 8 with fail
            go_quiet (fail)
            by_cases r : nk = pn
            · have r1 : (nk.toList == pn.toList) = true := by rw [str_beq]; exact decide_eq_true r
              have hkp : Hid (k = p) := hn.1 r
              have IHK := IH
              rw [← hkp.out] at IHK
              clear hn r
              go_upto_region 10 with fail
              go_quiet (fail)
              go_wp2_with fail
              refine (IHK.out _ (below_drewN HBW.out _)).mono ?_; rintro e w2 ⟨rfl, b2⟩
              have HB2 : Hid (Below w0.heap.size w0 w2) := (below_next b2 (below_drewN HB.out _))
              have HUN : Hid (UP = if p < k + 1 then UP else 0) := by unfold Hid; rw [if_pos (by have := hkp.out; omega)]
              clear b2
              go_wp2_with fail
              go_roundw
              case rel => exact ⟨k + 1, A, UP, hlt, by go_num, rfl, rfl, hAb, HST, HUN, HB2⟩
              case measure => simp [RowKit.intOf]; omega
            · have r1 : (nk.toList == pn.toList) = false := by rw [str_beq]; exact decide_eq_false r
              have HUN : Hid (U = if p < k + 1 then UP else 0) := by
                have : k ≠ p := fun e => r (hn.2 e)
                unfold Hid; rw [HU.out]
                by_cases h : p < k
                · rw [if_pos h, if_pos (by omega)]
                · rw [if_neg h, if_neg (by omega)]
              clear hn r
              go_upto_region 10 with fail
              go_quiet (fail)
              go_wp2_with fail
              go_roundw
              case rel => exact ⟨k + 1, A, U, hlt, by go_num, rfl, rfl, hAb, HST, HUN, below_drewN HB.out _⟩
              case measure => simp [RowKit.intOf]; omega
        · have hd : decide (k < LN) = false := decide_eq_false hlt
          have hki : ¬ (k : Int) < (LN : Int) := by omega
          have hkl : k = l.length := by rw [← HLN.out]; omega
          obtain ⟨i0, i1, i2⟩ := HCI.out wr (below_next HB.out HB0.out)
          have hiL : (i : Int) < (LN : Int) := by omega
          have hA2 : A = allI l p := by rw [HAk.out, hkl]; rfl
          have hU2 : U = UP := by rw [HU.out, if_pos (by rw [hkl]; have := HLN.out; omega)]
          subst hU2
          have hA1 : 1 ≤ A := by rw [hA2]; exact Nat.le_trans hsh.1 HAL.out
          have hmul : U * s ≤ 68719476736 := Nat.le_trans (Nat.mul_le_mul hUPb hsh.2) (by decide)
          obtain ⟨M, hM⟩ : ∃ M, M = U * s := ⟨_, rfl⟩
          have hMi : (U : Int) * (s : Int) = (M : Int) := by rw [hM]; simp
          rw [← hM] at hmul
          have HRR : Hid (R = M / A) := by unfold Hid; rw [HN.out, hM, hA2]
          have hA0 : (A : Int) ≠ 0 := by omega
          have hQb : Hid (M / A ≤ 68719476736) := Nat.le_trans (Nat.div_le_self _ _) hmul
          have hQ : Hid ((M : Int) / (A : Int) = ((M / A : Nat) : Int)) := by unfold Hid; simp
          clear hkl hlt hk hM hA2 HAk HN
          go_wp2_with fail
          go_ret
          rw [HRR.out]
          refine ⟨?_, HB.out⟩
          have h1 := hQb.out
          have h2 := hQ.out
          generalize M / A = Q at *
          have h3 : wrap64 (Q : Int) = (Q : Int) := by
            first
              | exact wrap64_of_bounds (by omega) (by omega)
              | exact wrap64_id (by omega) (by omega)
              | (unfold wrap64; omega)
              | (rw [wrap64]; simp; omega)
          rw [h2, h3]
          rfl
end

section
open Go Go.RowKit Go.Lib
theorem part_any (n s a : Nat) (w : World) (hn : n ≤ 9223372036854775807) (hs : s ≤ 9223372036854775807) (ha : a ≤ 9223372036854775807) (hq : n * s / a ≤ 9223372036854775807) :
    Calls Tryd.prog 30 #[.int .i64 n, .int .i64 s, .int .i64 a] w fun e w' => e = .returned (.int .i64 (n * s / a : Nat)) ∧ Below w.heap.size w w' := by
  have MD := Lib.hid (muldiv_any (n : Int) (s : Int) (a : Int) w (by unfold I64; omega) (by unfold I64; omega) (by unfold I64; omega))
  obtain ⟨Q, hQ⟩ : ∃ Q, Q = n * s / a := ⟨_, rfl⟩
  rw [← hQ] at hq ⊢
  by_cases h0 : a = 0
  · subst h0
    have e1 : mdE (n : Int) (s : Int) ((0 : Nat) : Int) = 2 := by unfold mdE; rw [if_pos (by omega)]
    have hq0 : Q = 0 := by rw [hQ]; simp
    rw [e1] at MD
    subst hq0
    clear hQ e1
    generalize mdV (n : Int) (s : Int) ((0 : Nat) : Int) = V at *
    go_enter Tryd.func30, Tryd.ntmps30
    go_wp2_with fail
    refine MD.out.mono ?_; rintro e w1 ⟨rfl, b1⟩
    have HB := Lib.hid b1
    clear b1
    go_wp2_with fail
    go_ret
    exact ⟨rfl, HB.out⟩
  · have hqi : (n : Int) * (s : Int) / (a : Int) = (Q : Int) := by rw [hQ]; simp
    have e1 : mdE (n : Int) (s : Int) (a : Int) = 0 := by unfold mdE; rw [if_neg (by omega), hqi]; unfold fitE; first | rw [if_pos (by unfold I64; omega)] | simp <;> omega
    have e2 : mdV (n : Int) (s : Int) (a : Int) = (Q : Int) := by unfold mdV; rw [if_neg (by omega), hqi]; unfold fitV; first | rw [if_pos (by unfold I64; omega)] | simp <;> omega
    rw [e1, e2] at MD
    clear hQ hqi e1 e2
    go_enter Tryd.func30, Tryd.ntmps30
    go_wp2_with fail
    refine MD.out.mono ?_; rintro e w1 ⟨rfl, b1⟩
    have HB := Lib.hid b1
    clear b1
    go_wp2_with fail
    go_ret
    exact ⟨rfl, HB.out⟩
end

section
open Go Go.RowKit Go.Lib
theorem of_nn (n : Int) (w : World) (h : 0 ≤ n) (h' : n ≤ 9223372036854775807) : Calls Tryd.prog 40 #[.int .i64 n] w
    fun e w' => e = .returned (.agg #[.bool false, .int .u64 (hiW n.toNat), .int .u64 (loW n.toNat)]) ∧ Below w.heap.size w w' := by
  have := of_any n w (by unfold I64; omega)
  have e1 : negB n = false := decide_eq_false (by omega)
  have e2 : n.natAbs = n.toNat := by omega
  rwa [e1, e2] at this
theorem end_nn (A B : Nat) (w : World) (h : Fits (A + B)) : Calls Tryd.prog 38 #[.agg #[.bool false, .int .u64 (hiW (A + B)), .int .u64 (loW (A + B))]] w
    fun e w' => e = .returned (.int .i64 (endV ((A : Int) + (B : Int)))) ∧ Below w.heap.size w w' := by
  have := End_any false (A + B) w h
  have e : sg false (A + B) = (A : Int) + (B : Int) := by unfold sg; simp
  rwa [e] at this
/-- The own one and those of the first k that stand below it. -/
def sumTo (l : List AcT) (own : Nat → Nat) (i k : Nat) : Nat := own i + sumN k fun j => if 0 < j ∧ parI l j = i then totI l own j else 0
theorem sumTo_all {l : List AcT} (h : Tree l) (own : Nat → Nat) {i : Nat} (hi : i < l.length) : sumTo l own i l.length = totI l own i := by
  rw [← behI_own h own (Nat.zero_le i) hi]; rfl
def ownN (own : List Int) (i : Nat) : Nat := (own.getD i 0).toNat
set_option maxRecDepth 100000 in
set_option maxHeartbeats 4000000 in
theorem refSum_ind (v vo : Value) (l : List AcT) (own : List Int) (w : World) (hv : AcRow w v l) (hA : Tree l) (ho : GRow w vo own) (hO : OwnOk l own) (hB : ∀ x ∈ own, x ≤ 9223372036854775807) : ∀ f i, l.length - i ≤ f → i < l.length → ∀ w0, Below w.heap.size w w0 →
    Calls Tryd.prog 28 #[v, vo, .int .i64 (i : Nat)] w0 fun e w' => e = .returned (.int .i64 (sumI l (ownN own) i : Nat)) ∧ Below w0.heap.size w0 w' := by
  intro f
  induction f with
  | zero => intro i hi hil; omega
  | succ f ih =>
    intro i hi hil w0 hb
    obtain ⟨va, vc, rfl⟩ := hv.slice
    obtain ⟨b, off, hva, _⟩ := rowG_all hv (by omega)
    subst hva
    obtain ⟨oa, oc, rfl⟩ := ho.slice
    obtain ⟨bo, offo, hoa, o0⟩ : ∃ bo offo, oa = some ⟨bo, offo, none⟩ ∧ w0.cell? ⟨bo, offo + i, none⟩ = some (.int .i64 (own.getD i 0)) := by
      rcases ho with ⟨h1, a, c, h2⟩ | ⟨bo, offo, c, h1, h2⟩
      · have := hO.1; rw [h1] at this; simp at this; omega
      · injection h1 with h1; exact ⟨bo, offo, h1, cell_next hb (h2 i (by rw [hO.1]; exact hil))⟩
    subst hoa
    have hmem : own.getD i 0 ∈ own := by
      have h1 : i < own.length := by rw [hO.1]; exact hil
      rw [List.getD_eq_getElem?_getD, List.getElem?_eq_getElem h1]; exact List.getElem_mem h1
    have ho1 := hO.2 _ hmem
    have ho2 := hB _ hmem
    have hoi : own.getD i 0 = (ownN own i : Nat) := by unfold ownN; omega
    rw [hoi] at o0
    have hcap0 : capN (sumTo l (ownN own) i 0) = ownN own i := by unfold sumTo sumN capN ownN; omega
    have IH := Lib.hid (fun k (hk : i < k) (hkl : k < l.length) w1 (h1 : Below w.heap.size w w1) => ih k (by omega) hkl w1 h1)
    have HFIN := Lib.hid (sumTo_all hA (ownN own) hil)
    have HCI := Lib.hid (fun w1 (h1 : Below w.heap.size w w1) => ac_cells hA hv hil h1)
    have hsU : Hid (∀ k, k < l.length → (upI l k = nmI l i ↔ 0 < k ∧ parI l k = i)) := fun k hk => hA.isUp hk hil
    have HV := Lib.hid hv
    have HA := Lib.hid hA
    have HB0 := Lib.hid hb
    have hOl := hO.1
    rw [hOl] at IH ⊢
    obtain ⟨nm, hnm⟩ : ∃ nm, nm = nmI l i := ⟨_, rfl⟩
    rw [← hnm] at HCI hsU
    obtain ⟨LN, hLN⟩ : ∃ L, L = l.length := ⟨_, rfl⟩
    rw [← hLN] at HV hil IH HFIN ⊢
    have HLN := Lib.hid hLN
    have h50 : LN ≤ 50 := by rw [hLN]; exact hA.n50
    have OF : Hid (∀ n w, 0 ≤ n → n ≤ 9223372036854775807 → Calls Tryd.prog 40 #[.int .i64 n] w fun e w' => e = .returned (.agg #[.bool false, .int .u64 (hiW n.toNat), .int .u64 (loW n.toNat)]) ∧ Below w.heap.size w w') := of_nn
    obtain ⟨O, hOO⟩ : ∃ O, O = ownN own i := ⟨_, rfl⟩
    rw [← hOO] at o0 hcap0
    have HC0 : Hid (O = capN (sumTo l (ownN own) i 0)) := hcap0.symm
    clear hv hA hb ih ho hO hB hmem ho1 ho2 hoi hOl hnm hLN hOO hcap0
    go_enter Tryd.func28, Tryd.ntmps28
    go_wp2_with fail
    go_loopw [7, 8] (fun nv iv wr => ∃ (k N : Nat), k ≤ LN ∧ iv = .int .i64 k ∧ nv = .int .i64 N ∧ Hid (N = capN (sumTo l (ownN own) i k)) ∧ Hid (Below w0.heap.size w0 wr)) (fun _ iv _ => LN - (RowKit.intOf iv).toNat)
    case atStart => exact ⟨0, O, Nat.zero_le _, rfl, rfl, HC0, Below.refl _ _⟩
    case round =>
      obtain ⟨k, N, hk, rfl, rfl, HN, HB⟩ := hrel
      by_cases hlt : k < LN
      · have hd : decide (k < LN) = true := decide_eq_true hlt
        have hki : (k : Int) < (LN : Int) := by omega
        have hiL : (i : Int) < (LN : Int) := by omega
        have hkl : k < l.length := by rw [← HLN.out]; exact hlt
        have hBw := below_next HB.out HB0.out
        obtain ⟨i0, i1, i2⟩ := HCI.out wr hBw
        obtain ⟨k0, k1, k2⟩ := ac_cells HA.out HV.out hkl hBw
        have hu := hsU.out k hkl
        have hst : sumTo l (ownN own) i (k + 1) = sumTo l (ownN own) i k + if 0 < k ∧ parI l k = i then totI l (ownN own) k else 0 := by unfold sumTo; rw [sumN]; omega
        obtain ⟨uk, huk⟩ : ∃ x, x = upI l k := ⟨_, rfl⟩
        rw [← huk] at k1 hu
        have HBW := Lib.hid hBw
        clear huk hBw k0 k2 i1 i2
        by_cases q : uk = nm
        · have q1 : (uk.toList == nm.toList) = true := by rw [str_beq]; exact decide_eq_true q
          have hik : i < k := by have h1 := hu.1 q; have := HA.out.lt k hkl h1.1; omega
          rw [if_pos (hu.1 q)] at hst
          have SU := Lib.hid (IH.out k hik (by exact hlt))
          obtain ⟨S, hS⟩ : ∃ S, S = sumI l (ownN own) k := ⟨_, rfl⟩
          rw [← hS] at SU
          have hSb : S ≤ 9223372036854775807 := by rw [hS]; exact cap_le _
          have hNb : N ≤ 9223372036854775807 := by rw [HN.out]; exact cap_le _
          have hft : Fits (N + S) := by unfold Fits; omega
          have HST : Hid (capN (N + S) = capN (sumTo l (ownN own) i (k + 1))) := by unfold Hid; rw [hst, HN.out, hS]; unfold sumI; rw [cap_add]
          have O1 : Hid (∀ w, Calls Tryd.prog 40 #[.int .i64 (N : Int)] w fun e w' => e = .returned (.agg #[.bool false, .int .u64 (hiW N), .int .u64 (loW N)]) ∧ Below w.heap.size w w') := fun w => OF.out N w (by omega) (by omega)
          have O2 : Hid (∀ w, Calls Tryd.prog 40 #[.int .i64 (S : Int)] w fun e w' => e = .returned (.agg #[.bool false, .int .u64 (hiW S), .int .u64 (loW S)]) ∧ Below w.heap.size w w') := fun w => OF.out S w (by omega) (by omega)
          have PL := Lib.hid (fun w => Plus_same false N S w hft)
          have EN := Lib.hid (fun w => end_nn N S w hft)
          have HE : Hid (endV ((N : Int) + (S : Int)) = (capN (N + S) : Nat)) := by unfold Hid endV capN; first | omega | (split <;> omega)
          clear hu q hst hS
          go_upto_region 5 with fail
          go_quiet (fail)
          go_wp2_with fail
          refine (O1.out _).mono ?_; rintro e w2 ⟨rfl, b2⟩
          have B2 := Lib.hid (below_next b2 (below_drewN HB.out _))
          clear b2
          go_wp2_with fail
          refine (SU.out _ (below_next B2.out HB0.out)).mono ?_; rintro e w3 ⟨rfl, b3⟩
          have B3 := Lib.hid (below_next b3 B2.out)
          clear b3
          go_wp2_with fail
          refine (O2.out _).mono ?_; rintro e w4 ⟨rfl, b4⟩
          have B4 := Lib.hid (below_next b4 B3.out)
          clear b4
          go_wp2_with fail
          refine (PL.out _).mono ?_; rintro e w5 ⟨rfl, b5⟩
          have B5 := Lib.hid (below_next b5 B4.out)
          clear b5
          go_wp2_with fail
          refine (EN.out _).mono ?_; rintro e w6 ⟨rfl, b6⟩
          have B6 := Lib.hid (below_next b6 B5.out)
          clear b6
          rw [HE.out]
          go_wp2_with fail
          go_roundw
          case rel => exact ⟨k + 1, capN (N + S), hlt, by go_num, rfl, HST, B6⟩
          case measure => simp [RowKit.intOf]; omega
        · have q1 : (uk.toList == nm.toList) = false := by rw [str_beq]; exact decide_eq_false q
          rw [if_neg (fun h => q (hu.2 h))] at hst
          have HST : Hid (N = capN (sumTo l (ownN own) i (k + 1))) := by unfold Hid; rw [hst]; exact HN.out
          clear hu q hst
          go_upto_region 5 with fail
          go_quiet (fail)
          go_wp2_with fail
          go_roundw
          case rel => exact ⟨k + 1, N, hlt, by go_num, rfl, HST, below_drewN HB.out _⟩
          case measure => simp [RowKit.intOf]; omega
      · have hd : decide (k < LN) = false := decide_eq_false hlt
        have hki : ¬ (k : Int) < (LN : Int) := by omega
        have HR : Hid (N = sumI l (ownN own) i) := by
          have hkl : k = LN := by omega
          unfold Hid; rw [HN.out, hkl, HFIN.out]; rfl
        clear hlt hk
        go_wp2_with fail
        go_ret
        rw [HR.out]
        exact ⟨rfl, HB.out⟩
end

end Go.Proofs.YtbnlmeegepgioaaDoor
