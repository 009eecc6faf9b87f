/-
  gangerref10.out, tree: at any accounts.
-/
import Derived.Test.YtbnlmeegepgioaaDoorCfE
import Derived.Test.YtbnlmeegepgioaaDoorStr
import Derived.Test.YtbnlmeegepgioaaDoorNmR
import Derived.BigQuiet
namespace Go.Proofs.YtbnlmeegepgioaaDoor
open Go Go.RowKit Go.Lib
set_option linter.unusedVariables false

theorem rowG_all {α : Type} {s : Nat} {enc : α → List Value} {w : World} {a : Option Addr} {n c : Nat} {l : List α} (h : RowG s enc w (.slice a n c) l) (h0 : 0 < l.length) :
    ∃ b off, a = some ⟨b, off, none⟩ ∧ ∀ k (hk : k < l.length) w', Below w.heap.size w w' → ∀ j u, (enc l[k])[j]? = some u → w'.cell? ⟨b, off + k * s + j, none⟩ = some u := by
  rcases h with ⟨rfl, _⟩ | ⟨b, off, c', h1, h2, h3⟩
  · simp at h0
  · injection h1 with h1
    exact ⟨b, off, h1, fun k hk w' hb j u hu => cell_next hb (h3 k hk j u hu)⟩
theorem out_any (n lo hi : Int) (w : World) : Calls Tryd.prog 47 #[.int .i64 n, .int .i64 lo, .int .i64 hi] w fun e w' => e = .returned (.bool (!inR n lo hi)) ∧ w' = w := by
  obtain ⟨r, hr⟩ : ∃ r, r = !inR n lo hi := ⟨_, rfl⟩
  rw [← hr]
  by_cases h1 : n < lo
  · have t1 : decide (n < lo) = true := decide_eq_true h1
    have t2 : ¬ lo ≤ n := by omega
    have : r = true := by rw [hr]; unfold inR; rw [decide_eq_false t2]; rfl
    subst this
    clear hr
    go_enter Tryd.func47, Tryd.ntmps47
    go_wp2_with fail
    go_ret
    exact ⟨rfl, rfl⟩
  · have t1 : decide (n < lo) = false := decide_eq_false h1
    have t2 : lo ≤ n := by omega
    have hr2 : r = decide (n > hi) := by
      rw [hr]; unfold inR; rw [decide_eq_true t2, Bool.true_and, Bool.eq_iff_iff]; simp
    by_cases h3 : n > hi
    · have t3 : decide (n > hi) = true := decide_eq_true h3
      have : r = true := by rw [hr2, t3]
      subst this
      clear hr hr2
      go_enter Tryd.func47, Tryd.ntmps47
      go_wp2_with fail
      go_ret
      exact ⟨rfl, rfl⟩
    · have t3 : decide (n > hi) = false := decide_eq_false h3
      have t4 : n ≤ hi := by omega
      have : r = false := by rw [hr2, t3]
      subst this
      clear hr hr2
      go_enter Tryd.func47, Tryd.ntmps47
      go_wp2_with fail
      go_ret
      exact ⟨rfl, rfl⟩
theorem refName_hid : Hid (∀ (s : ByteArray) (w : World), Short s → Calls Tryd.prog 48 #[.string s] w fun e w' => e = .returned (.bool (nameB s)) ∧ w' = w) := fun s w hs => refName_any s w hs
def TreeOk (l : List AcT) : Prop := RowOk (·.1) acOk l l.length ∧ ParOk l l.length
set_option maxRecDepth 100000 in
set_option maxHeartbeats 4000000 in
theorem tree_any (v : Value) (l : List AcT) (w : World) (hv : AcRow w v l) (hs : ∀ p ∈ l, Short p.1 ∧ Short p.2.1) (hl50 : l.length ≤ 50) :
    Calls Tryd.prog 49 #[v] w fun e w' => CheckPost (TreeOk l) w e w' := by
  obtain ⟨va, vc, rfl⟩ := hv.slice
  have WI : Hid (∀ n lo hi w, Calls Tryd.prog 47 #[.int .i64 n, .int .i64 lo, .int .i64 hi] w fun e w' => e = .returned (.bool (!inR n lo hi)) ∧ w' = w) := out_any
  have NM := refName_hid
  have HS := Lib.hid hs
  obtain ⟨LN, hLN⟩ : ∃ LN, LN = l.length := ⟨_, rfl⟩
  have HLN := Lib.hid hLN
  rw [← hLN]
  have HV2 : Hid (AcRow w (.slice va LN vc) l) := by unfold Hid; rw [hLN]; exact hv
  rw [← hLN] at hl50
  clear hv hs hLN
  go_enter Tryd.func49, Tryd.ntmps49
  go_wp2_with fail
  go_loopw [3] (fun i wr => ∃ k : Nat, k ≤ LN ∧ i = .int .i64 k ∧ Hid (RowOk (·.1) acOk l k ∧ ParOk l k) ∧ Hid (Below w.heap.size w wr)) (fun i _ => LN - (RowKit.intOf i).toNat)
  case atStart => exact ⟨0, Nat.zero_le _, rfl, ⟨RowOk.zero _ _ _, ParOk.zero _⟩, Below.refl _ _⟩
  case round =>
    obtain ⟨k, hk, rfl, HK, HB⟩ := hrel
    by_cases hlt : k < LN
    · have hd : decide (k < LN) = true := decide_eq_true hlt
      have hki : (k : Int) < (LN : Int) := by omega
      have hkl : k < l.length := by rw [← HLN.out]; exact hlt
      obtain ⟨b, off, hva, hall⟩ := rowG_all HV2.out (by omega)
      subst hva
      have HALL := Lib.hid hall
      have hse := HS.out _ (List.getElem_mem hkl)
      have hcell := hall k hkl
      obtain ⟨⟨nm, pn, x2⟩, hx⟩ : ∃ x, x = l[k] := ⟨_, rfl⟩
      rw [← hx] at hcell hse
      have HCE : Hid (∀ w', Below w.heap.size w w' → w'.cell? ⟨b, off + k * 3, none⟩ = some (.string nm) ∧ w'.cell? ⟨b, off + k * 3 + 1, none⟩ = some (.string pn)) := fun w' hb => ⟨hcell w' hb 0 _ rfl, hcell w' hb 1 _ rfl⟩
      have c0 := hcell wr HB.out 0 _ rfl
      have c1 := hcell wr HB.out 1 _ rfl
      have c2 := hcell wr HB.out 2 _ rfl
      dsimp only at c0 c1 c2 hse
      simp only [Nat.add_zero] at c0
      have HX := Lib.hid hx
      have NK := Lib.hid (NM.out nm wr hse.1)
      obtain ⟨y1, hy1⟩ : ∃ y, y = nameB nm := ⟨_, rfl⟩
      obtain ⟨y2, hy2⟩ : ∃ y, y = inR x2 1 1048576 := ⟨_, rfl⟩
      have HAC : Hid (acOk l[k] = (y1 && y2)) := by unfold Hid; rw [← hx, hy1, hy2]; rfl
      have HY1 := Lib.hid hy1
      have HY2 := Lib.hid hy2
      clear hcell hall hse hx hy1 hy2
      go_upto_region 4 with fail
      go_cut [26] (fun sl wx => sl = .bool (!(y1 && y2)) ∧ wx = wr)
      case first =>
        go_wp2_with fail
        refine NK.out.mono ?_; rintro e w1 ⟨rfl, rfl⟩
        rw [← HY1.out]
        cases y1 with
        | false =>
          go_wp2_with fail
          go_meet
          exact ⟨rfl, rfl⟩
        | true =>
          go_wp2_with fail
          refine (WI.out _ _ _ _).mono ?_; rintro e w1 ⟨rfl, rfl⟩
          rw [← HY2.out]
          go_wp2_with fail
          go_meet
          exact ⟨by simp, rfl⟩
      case rest =>
        obtain ⟨rfl, rfl⟩ := hcut
        clear HY1 HY2 NK c2
        obtain ⟨y, hy⟩ : ∃ y, y = (y1 && y2) := ⟨_, rfl⟩
        rw [← hy] at HAC ⊢
        clear hy
        cases y with
        | false =>
          have HNO : Hid (¬ TreeOk l) := fun h => by have := h.1.el k hkl hkl; rw [HAC.out] at this; cases this
          go_wp2_with fail
          go_ret
          exact ⟨100, rfl, .inr ⟨rfl, HNO.out⟩, HB.out⟩
        | true =>
          obtain ⟨h0, hh0⟩ : ∃ h0, h0 = decide (k = 0 ∧ pn = ByteArray.empty) := ⟨_, rfl⟩
          have HH0 := Lib.hid hh0
          clear hh0
          go_upto_region 6 with fail
          go_cut [4] (fun sl wx => sl = .bool h0 ∧ wx = wc)
          case first =>
            by_cases hz : k = 0
            · have z1 : (k == 0) = true := by simp [hz]
              have z2 : ((k : Int) == 0) = true := by simp [hz]
              have z3 : decide (k = 0) = true := decide_eq_true hz
              have e1 : h0 = pn.toList.isEmpty := by
                rw [HH0.out, Bool.eq_iff_iff, decide_eq_true_eq, strE]
                exact ⟨fun h => h.2, fun h => ⟨hz, h⟩⟩
              have HE1 := Lib.hid e1
              have c1' := c1
              rw [hz] at c1'
              simp at c1'
              clear e1
              go_wp2_with fail
              go_meet
              exact ⟨by simp [HE1.out], rfl⟩
            · have z1 : (k == 0) = false := by simp [hz]
              have z2 : ((k : Int) == 0) = false := by simp [hz]
              have z3 : decide (k = 0) = false := decide_eq_false hz
              have e1 : h0 = false := by rw [HH0.out]; simp [hz]
              have HE1 := Lib.hid e1
              clear e1
              go_wp2_with fail
              go_meet
              exact ⟨by simp [HE1.out], rfl⟩
          case rest =>
            obtain ⟨rfl, rfl⟩ := hcut
            clear c0 c1
            go_wp2_with fail
            go_loopw [4, 5] (fun h i wr => ∃ (q : Nat) (hq : Bool), q ≤ k ∧ h = .bool hq ∧ i = .int .i64 q ∧ Hid (hq = true ↔ (k = 0 ∧ pn = ByteArray.empty) ∨ pn ∈ (l.take q).map (·.1)) ∧ Hid (nm ∉ (l.take q).map (·.1)) ∧ Hid (Below w.heap.size w wr)) (fun _ i _ => k - (RowKit.intOf i).toNat)
            case atStart =>
              refine ⟨0, h0, Nat.zero_le _, rfl, rfl, ?_, by unfold Hid; simp, HB⟩
              unfold Hid; rw [HH0.out, decide_eq_true_eq]; simp
            case round =>
              obtain ⟨q, hq, hqk, rfl, rfl, HQ, HN, HBr⟩ := hrel
              by_cases hlq : q < k
              · have hdq : decide (q < k) = true := decide_eq_true hlq
                have hqi : (q : Int) < (k : Int) := by omega
                have hqL : (q : Int) < (LN : Int) := by omega
                have hql : q < l.length := by rw [← HLN.out]; omega
                have htn := take_names (·.1) hql
                have HTN := Lib.hid htn
                have a0 := HALL.out q hql wr HBr.out 0 _ rfl
                obtain ⟨c0, c1⟩ := HCE.out wr HBr.out
                simp only [Nat.add_zero] at a0
                have HBd : Hid (Below w.heap.size w wr.drew) := HBr.out.drew
                obtain ⟨d0, d1⟩ := HCE.out wr.drew HBd.out
                have b0 := HALL.out q hql wr.drew HBd.out 0 _ rfl
                simp only [Nat.add_zero] at b0
                obtain ⟨qn, hqn⟩ : ∃ qn, qn = l[q].1 := ⟨_, rfl⟩
                rw [← hqn] at htn a0 b0
                have HTN := Lib.hid htn
                clear htn hqn
                by_cases qa : qn = nm
                · have q1 : (qn.toList == nm.toList) = true := by rw [str_beq]; exact decide_eq_true qa
                  have HNO : Hid (¬ TreeOk l) := fun h => by
                    refine (h.1.back hkl hkl).2 ?_
                    rw [← HX.out]
                    refine List.mem_map.2 ⟨l[q], List.mem_take_iff_getElem.2 ⟨q, by omega, rfl⟩, ?_⟩
                    have := HTN.out
                    rw [take_names (·.1) hql] at this
                    have h2 := List.append_cancel_left this
                    injection h2 with h2
                    exact h2.trans qa
                  clear qa
                  go_upto_region 10 with fail
                  go_quiet (fail)
                  go_wp2_with fail
                  go_ret
                  exact ⟨100, rfl, .inr ⟨rfl, HNO.out⟩, below_drewN HBr.out _⟩
                · have q1 : (qn.toList == nm.toList) = false := by rw [str_beq]; exact decide_eq_false qa
                  have HN2 : Hid (nm ∉ (l.take (q + 1)).map (·.1)) := by
                    unfold Hid; rw [HTN.out, List.mem_append]
                    rintro (h | h)
                    · exact HN.out h
                    · rw [List.mem_singleton] at h; exact qa h.symm
                  obtain ⟨hr, hhr⟩ : ∃ hr, hr = decide (qn = pn) := ⟨_, rfl⟩
                  have q2 : (qn.toList == pn.toList) = hr := by rw [str_beq, hhr]
                  have HQ2 : Hid ((hq || hr) = true ↔ (k = 0 ∧ pn = ByteArray.empty) ∨ pn ∈ (l.take (q + 1)).map (·.1)) := by
                    unfold Hid; rw [HTN.out, List.mem_append, List.mem_singleton, Bool.or_eq_true, HQ.out, hhr, decide_eq_true_eq, or_assoc]
                    exact or_congr Iff.rfl (or_congr Iff.rfl eq_comm)
                  clear qa hhr
                  go_upto_region 10 with fail
                  go_quiet (fail)
                  cases hq with
                  | true =>
                    go_upto_region 12 with fail
                    go_quiet (fail)
                    go_wp2_with fail
                    go_roundw
                    case rel => exact ⟨q + 1, true, hlq, rfl, by go_num, by simpa using HQ2, HN2, below_drewN HBr.out _⟩
                    case measure => simp [RowKit.intOf]; omega
                  | false =>
                    go_upto_region 12 with fail
                    go_quiet (fail)
                    go_wp2_with fail
                    go_roundw
                    case rel => exact ⟨q + 1, hr, hlq, rfl, by go_num, by simpa using HQ2, HN2, below_drewN HBr.out _⟩
                    case measure => simp [RowKit.intOf]; omega
              · have hdq : decide (q < k) = false := decide_eq_false hlq
                have hqi : ¬ (q : Int) < (k : Int) := by omega
                obtain rfl : q = k := by omega
                cases hq with
                | false =>
                  have HNO : Hid (¬ TreeOk l) := fun h => by
                    have h2 : ¬ ((q = 0 ∧ pn = ByteArray.empty) ∨ pn ∈ (l.take q).map (·.1)) := fun h => by have := HQ.out.2 h; cases this
                    have h3 := h.2 q hkl hkl
                    rw [← HX.out] at h3
                    exact h2 (h3.imp id (·.2))
                  clear hlq
                  go_wp2_with fail
                  go_ret
                  exact ⟨100, rfl, .inr ⟨rfl, HNO.out⟩, HBr.out⟩
                | true =>
                  have HP : Hid (RowOk (·.1) acOk l (q + 1) ∧ ParOk l (q + 1)) := by
                    have h1 := HN.out
                    have h2 : (q = 0 ∧ pn = ByteArray.empty) ∨ pn ∈ (l.take q).map (·.1) := by simpa using HQ.out
                    refine ⟨HK.out.1.step hkl HAC.out (by rw [← HX.out]; exact h1), HK.out.2.step hkl ?_⟩
                    rw [← HX.out]
                    rcases h2 with h2 | h2
                    · exact .inl h2
                    · refine .inr ⟨?_, h2⟩
                      rcases Nat.eq_zero_or_pos q with h3 | h3
                      · rw [h3] at h2; simp at h2
                      · exact h3
                  clear hlq
                  go_wp2_with fail
                  go_roundw
                  case rel => exact ⟨q + 1, hlt, by go_num, HP, HBr⟩
                  case measure => simp [RowKit.intOf]; omega
    · have hd : decide (k < LN) = false := decide_eq_false hlt
      have hki : ¬ (k : Int) < (LN : Int) := by omega
      have hkl : k = l.length := by rw [← HLN.out]; omega
      have HFIN : Hid (TreeOk l) := ⟨by rw [← hkl]; exact HK.out.1, by rw [← hkl]; exact HK.out.2⟩
      clear hkl hlt hk
      go_wp2_with fail
      go_ret
      exact ⟨0, rfl, .inl ⟨rfl, HFIN.out⟩, HB.out⟩
end Go.Proofs.YtbnlmeegepgioaaDoor
