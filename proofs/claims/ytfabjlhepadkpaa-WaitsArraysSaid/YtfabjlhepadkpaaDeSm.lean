/-
  gangerref08.Same.
-/
import Derived.Test.YtfabjlhepadkpaaDeMC
import Derived.Test.YtfabjlhepadkpaaSmJ
import Derived.Deep.RegionHeld3
import Derived.Deep.DeepCutAuto
namespace Go.Proofs.Ytfabjlhepadkpaa
open Go Go.RowKit Go.Lib
set_option linter.unusedVariables false

theorem ndsOf_eq {l m : List NdM} (hl : l.length = m.length) : ndsOf l = ndsOf m ↔ ∀ q (h1 : q < l.length) (h2 : q < m.length), toNd l[q] = toNd m[q] := by
  unfold ndsOf
  constructor
  · intro h q h1 h2
    have := congrArg (fun z => z[q]?) h
    simpa [h1, h2] using this
  · intro h
    apply List.ext_getElem (by simpa using hl)
    intro q h1 h2
    rw [List.getElem_map, List.getElem_map]
    exact h q _ _
set_option maxRecDepth 100000 in
set_option maxHeartbeats 4000000 in
theorem same8_any (p q : Bool) (va vb : Value) (l m : List NdM) (w : World) (h1 : NRw w va l) (h2 : NRw w vb m) :
    Calls Try.prog 36 #[.agg #[.bool p, va], .agg #[.bool q, vb]] w fun e w' => e = .returned (.bool (decide (p = q ∧ ndsOf l = ndsOf m))) ∧ Below w.heap.size w w' := by
  obtain ⟨aa, ac, rfl⟩ := h1.row.slice
  obtain ⟨ba, bc, rfl⟩ := h2.row.slice
  obtain ⟨r, hr⟩ : ∃ r, r = decide (p = q ∧ ndsOf l = ndsOf m) := ⟨_, rfl⟩
  have HR := Lib.hid hr
  rw [← hr]
  obtain ⟨g1, hg1⟩ : ∃ g, g = w.heap.size := ⟨_, rfl⟩
  obtain ⟨X1, hX1⟩ : ∃ X, X = w.alloc (.cells #[.bool p, .slice aa l.length ac] 35) := ⟨_, rfl⟩
  obtain ⟨g2, hg2⟩ : ∃ g, g = w.heap.size + 1 := ⟨_, rfl⟩
  have hs1 : X1.heap.size = w.heap.size + 1 := by rw [hX1]; simp
  obtain ⟨X, hX⟩ : ∃ X, X = X1.alloc (.cells #[.bool q, .slice ba m.length bc] 35) := ⟨_, rfl⟩
  have hb1 : Below w.heap.size w X1 := by rw [hX1]; exact (Below.refl _ _).alloc (Nat.le_refl _) _
  have hb2 : Below X1.heap.size X1 X := by rw [hX]; exact (Below.refl _ _).alloc (Nat.le_refl _) _
  have hk1 : Blk X1 g1 #[.bool p, .slice aa l.length ac] 35 := by rw [hX1, hg1]; exact Blk.new w _ _
  have hk2 : Blk X g2 #[.bool q, .slice ba m.length bc] 35 := by rw [hX, hg2, ← hs1]; exact Blk.new X1 _ _
  have hbX := below_next hb2 hb1
  have hk1' := hk1.kept hb2
  obtain ⟨N, hN⟩ : ∃ N, N = l.length := ⟨_, rfl⟩
  obtain ⟨M, hM⟩ : ∃ N, N = m.length := ⟨_, rfl⟩
  have HN := Lib.hid hN
  have HM := Lib.hid hM
  have HA := Lib.hid (h1.kept hbX)
  have HB := Lib.hid (h2.kept hbX)
  have hla := h1.len
  have hlb := h2.len
  rw [← hN] at hX1 hk1' hla ⊢
  rw [← hM] at hX hk2 hlb ⊢
  have HBX := Lib.hid hbX
  have a0 := hk1'.cell 0
  have a1 := hk1'.cell 1
  have b0 := hk2.cell 0
  have b1 := hk2.cell 1
  simp at a0 a1 b0 b1
  have HX1 := Lib.hid hX1
  have HX := Lib.hid hX
  have HG1 := Lib.hid hg1
  have HG2 := Lib.hid hg2
  clear h1 h2 hr hN hM hb1 hb2 hk1 hk2 hk1' hbX hX1 hX hg1 hg2 hs1
  by_cases hpq : p = q
  · subst hpq
    have n1 : (p != p) = false := by simp
    by_cases hNM : N = M
    · subst hNM
      have n2 : ((N : Int) != (N : Int)) = false := by simp
      have n2' : (N != N) = false := by simp
      have HEQ : Hid ((∀ q (h1 : q < l.length) (h2 : q < m.length), toNd l[q] = toNd m[q]) → r = true) := fun h => by
        rw [HR.out]; exact decide_eq_true ⟨rfl, (ndsOf_eq (HN.out.symm.trans HM.out)).2 h⟩
      have HNE : Hid (∀ q (h1 : q < l.length) (h2 : q < m.length), toNd l[q] ≠ toNd m[q] → r = false) := fun q x1 x2 h => by
        rw [HR.out]; exact decide_eq_false fun e => h ((ndsOf_eq (HN.out.symm.trans HM.out)).1 e.2 q x1 x2)
      clear HR
      go_enter Try.func36, Try.ntmps36
      go_upto_region 1 with fail
      rw [← HX1.out, ← HX.out, ← HG2.out, ← HG1.out]
      go_wp2_with fail
      go_loopw [5] (fun iv wr => ∃ i : Nat, iv = .int .i64 (i : Nat) ∧ i ≤ N ∧ Hid (∀ q (h1 : q < l.length) (h2 : q < m.length), q < i → toNd l[q] = toNd m[q]) ∧ Hid (Below X.heap.size X wr)) (fun iv _ => N - (RowKit.intOf iv).toNat)
      case atStart => exact ⟨0, rfl, Nat.zero_le _, fun q _ _ h => by omega, Below.refl _ _⟩
      case round =>
        obtain ⟨i, rfl, hi, HE, HW⟩ := hrel
        have aa1 := cell_next HW.out a1
        have bb1 := cell_next HW.out b1
        by_cases hlt : i < N
        · have d1 : decide ((i : Int) < (N : Int)) = true := decide_eq_true (by omega)
          have d1' : decide (i < N) = true := decide_eq_true hlt
          have hii : (i : Int) < (N : Int) := by omega
          have hia : i < l.length := by rw [← HN.out]; exact hlt
          have hib : i < m.length := by rw [← HM.out]; exact hlt
          obtain ⟨o1, f1, e, x0, x1, hu, hul⟩ := NRw.at HA.out HW.out hia
          subst e
          obtain ⟨o2, f2, e, z0, z1, hv, hvl⟩ := NRw.at HB.out HW.out hib
          subst e
          have HNX : Hid (toNd l[i] = toNd m[i] → ∀ q (h1 : q < l.length) (h2 : q < m.length), q < i + 1 → toNd l[q] = toNd m[q]) := fun hh q y1 y2 h3 => by
            by_cases e : q = i
            · subst e; exact hh
            · exact HE.out q y1 y2 (by omega)
          have HNF := Lib.hid (HNE.out i hia hib)
          obtain ⟨s, hs⟩ : ∃ s, s = l[i] := ⟨_, rfl⟩
          obtain ⟨t, ht⟩ : ∃ s, s = m[i] := ⟨_, rfl⟩
          rw [← hs] at x0 x1 hu hul HNX HNF
          rw [← ht] at z0 z1 hv hvl HNX HNF
          obtain ⟨k1, v1, j1⟩ := s
          obtain ⟨k2, v2, j2⟩ := t
          unfold toNd at HNX HNF
          dsimp only at x0 x1 hu hul z0 z1 hv hvl HNX HNF
          have SJ : Hid (∀ wq, Below wr.heap.size wr wq → Calls Try.prog 24 #[v1, v2] wq fun e w' => e = .returned (.bool (decide (j1 = j2))) ∧ Below wq.heap.size wq w') := fun wq hb => samejobs_any v1 v2 j1 j2 wq (hu.kept hb) (hv.kept hb) hul hvl
          obtain ⟨pa, pc, rfl⟩ := hu.slice
          obtain ⟨qa, qc, rfl⟩ := hv.slice
          obtain ⟨β, hβ⟩ : ∃ β, β = decide (j1 = j2) := ⟨_, rfl⟩
          have HBT := Lib.hid hβ
          rw [← hβ] at SJ
          generalize j1.length = n1' at *
          generalize j2.length = n2' at *
          clear hs ht hu hv hul hvl HE hβ
          by_cases hk : k1 = k2
          · subst hk
            have q1 : (k1 != k1) = false := by simp
            go_upto_region 6 with fail
            go_cut [55] (fun s wx => s = .bool (!β) ∧ Hid (Below wr.heap.size wr wx))
            case first =>
              go_region_held3 (fun w' => w'.cell? ⟨g1, 1, none⟩ = some (.slice (some ⟨o1, f1, none⟩) N ac) ∧ w'.cell? ⟨g2, 1, none⟩ = some (.slice (some ⟨o2, f2, none⟩) N bc) ∧ w'.cell? ⟨o1, f1 + i * 2, none⟩ = some (.int .i64 k1) ∧ w'.cell? ⟨o2, f2 + i * 2, none⟩ = some (.int .i64 k1) ∧ w'.cell? ⟨o1, f1 + i * 2 + 1, none⟩ = some (.slice pa n1' pc) ∧ w'.cell? ⟨o2, f2 + i * 2 + 1, none⟩ = some (.slice qa n2' qc) ∧ Below wr.heap.size wr w')
                (first
                  | exact ⟨aa1, bb1, x0, z0, x1, z1, (Below.refl _ _).drew⟩
                  | exact ⟨aa1, bb1, x0, z0, x1, z1, Below.refl _ _⟩
                  | (rcases ‹_ ∧ _ ∧ _ ∧ _ ∧ _ ∧ _ ∧ Below wr.heap.size _ _› with ⟨q0, q1, q2, q3, q4, q5, q6⟩; exact ⟨cell_next (by assumption) q0, cell_next (by assumption) q1, cell_next (by assumption) q2, cell_next (by assumption) q3, cell_next (by assumption) q4, cell_next (by assumption) q5, below_next (by assumption) q6⟩))
                (first
                  | (go_at_call 24; ((with_reducible refine (SJ.out _ (‹_ ∧ _ ∧ _ ∧ _ ∧ _ ∧ _ ∧ Below wr.heap.size _ _›).2.2.2.2.2.2).mono ?_); rintro e wm ⟨rfl, bm⟩)))
              all_goals (have HBz := (‹_ ∧ _ ∧ _ ∧ _ ∧ _ ∧ _ ∧ Below wr.heap.size _ _›).2.2.2.2.2.2)
              all_goals (go_wp2_with fail)
              all_goals go_meet
              case rel => exact ⟨rfl, HBz⟩
            case rest =>
              obtain ⟨rfl, HBz⟩ := hcut
              have HBq := Lib.hid (below_next HBz.out HW.out)
              cases β with
              | true =>
                have hj := of_decide_eq_true HBT.out.symm
                have HK := Lib.hid (HNX.out (by rw [hj]))
                clear HNX HNF hj HBT SJ
                go_wp2_with fail
                go_roundw
                case rel => exact ⟨i + 1, by go_num, hlt, HK.out, HBq.out⟩
                case measure => simp [RowKit.intOf]; omega
              | false =>
                have hj := of_decide_eq_false HBT.out.symm
                have HK := Lib.hid (HNF.out (fun e => hj (congrArg Prod.snd e)))
                have HB6 := Lib.hid (below_next HBq.out HBX.out)
                clear HNX HNF hj HBT SJ
                go_wp2_with fail
                go_ret
                exact ⟨by rw [HK.out]; rfl, HB6.out⟩
          · have q1 : (k1 != k2) = true := by simpa using hk
            have HK := Lib.hid (HNF.out (fun e => hk (congrArg Prod.fst e)))
            have HB6 := Lib.hid (below_next HW.out HBX.out)
            go_upto_region 6 with fail
            go_quiet (fail)
            go_wp2_with fail
            go_ret
            exact ⟨by rw [HK.out]; rfl, below_next (below_drewN (Below.refl _ _) _) HB6.out⟩
        · have d1 : decide ((i : Int) < (N : Int)) = false := decide_eq_false (by omega)
          have d1' : decide (i < N) = false := decide_eq_false hlt
          have HK : Hid (r = true) := HEQ.out fun q y1 y2 => HE.out q y1 y2 (by have := HN.out; omega)
          have HB6 := Lib.hid (below_next HW.out HBX.out)
          go_wp2_with fail
          go_ret
          exact ⟨by rw [HK.out]; rfl, HB6.out⟩
    · have n2 : ((N : Int) != (M : Int)) = true := by simp; omega
      have n2' : (N != M) = true := by simp; omega
      have HK : Hid (r = false) := by
        unfold Hid; rw [HR.out]
        refine decide_eq_false fun e => hNM ?_
        have := congrArg List.length e.2
        rw [ndsOf_len, ndsOf_len, ← HN.out, ← HM.out] at this
        exact this
      go_enter Try.func36, Try.ntmps36
      go_upto_region 1 with fail
      rw [← HX1.out, ← HX.out, ← HG2.out, ← HG1.out]
      go_wp2_with fail
      go_ret
      exact ⟨by rw [HK.out]; rfl, HBX.out⟩
  · have n1 : (p != q) = true := by simpa using hpq
    have HK : Hid (r = false) := by unfold Hid; rw [HR.out]; exact decide_eq_false fun e => hpq e.1
    go_enter Try.func36, Try.ntmps36
    go_upto_region 1 with fail
    rw [← HX1.out, ← HX.out, ← HG2.out, ← HG1.out]
    go_wp2_with fail
    go_ret
    exact ⟨by rw [HK.out]; rfl, HBX.out⟩
end Go.Proofs.Ytfabjlhepadkpaa
