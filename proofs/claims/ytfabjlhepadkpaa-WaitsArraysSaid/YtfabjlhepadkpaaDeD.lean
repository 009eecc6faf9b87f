/-
  gangerref08.Check.
-/
import Derived.Test.YtfabjlhepadkpaaDeMC
namespace Go.Proofs.Ytfabjlhepadkpaa
open Go Go.RowKit Go.Lib
set_option linter.unusedVariables false

set_option maxRecDepth 100000 in
set_option maxHeartbeats 4000000 in
theorem rcheck_any (any : Bool) (v : Value) (l : List NdM) (w : World) (h : NRw w v l) :
    Calls Try.prog 28 #[.agg #[.bool any, v]] w fun e w' => e = .returned (.int .i64 (chkD any (ndsOf l))) ∧ Below w.heap.size w w' := by
  obtain ⟨a, c, rfl⟩ := h.row.slice
  obtain ⟨r, hr⟩ : ∃ r, r = chkD any (ndsOf l) := ⟨_, rfl⟩
  have HR := Lib.hid hr
  rw [← hr]
  obtain ⟨N, hN⟩ : ∃ N, N = l.length := ⟨_, rfl⟩
  have HN := Lib.hid hN
  have HL := Lib.hid h
  have hlen := h.len
  rw [← hN] at hlen ⊢
  obtain ⟨gx, hgx⟩ : ∃ g, g = w.heap.size := ⟨_, rfl⟩
  obtain ⟨X, hX⟩ : ∃ X, X = w.alloc (.cells #[.bool any, .slice a N c] 35) := ⟨_, rfl⟩
  have hbX : Below w.heap.size w X := by rw [hX]; exact (Below.refl _ _).alloc (Nat.le_refl _) _
  have hbk : Blk X gx #[.bool any, .slice a N c] 35 := by rw [hX, hgx]; exact Blk.new w _ _
  have HBX := Lib.hid hbX
  have y0 := hbk.cell 0
  have y1 := hbk.cell 1
  simp at y0 y1
  have HXX := Lib.hid hX
  have HGX := Lib.hid hgx
  clear h hr hN hbX hbk hX hgx
  by_cases h20 : 20 < N
  · have g1 : decide ((N : Int) > 20) = true := decide_eq_true (by omega)
    have g1' : decide (20 < (N : Int)) = true := decide_eq_true (by omega)
    have g1'' : decide (20 < N) = true := decide_eq_true h20
    have HE : Hid (r = 2) := by
      unfold Hid; rw [HR.out]; unfold chkD; rw [if_neg]
      rintro ⟨h1, _⟩
      rw [ndsOf_len, ← HN.out] at h1; omega
    go_enter Try.func28, Try.ntmps28
    go_upto_region 1 with fail
    rw [← HGX.out, ← HXX.out]
    go_wp2_with fail
    go_ret
    exact ⟨by rw [HE.out]; rfl, HBX.out⟩
  · have g1 : decide ((N : Int) > 20) = false := decide_eq_false (by omega)
    have g1' : decide (20 < (N : Int)) = false := decide_eq_false (by omega)
    have g1'' : decide (20 < N) = false := decide_eq_false h20
    by_cases hany : any = true ∧ N < 2
    · obtain ⟨rfl, h2⟩ := hany
      have g2 : decide ((N : Int) ≤ 1) = true := decide_eq_true (by omega)
      have g2' : decide (N ≤ 1) = true := decide_eq_true (by omega)
      have HE : Hid (r = 2) := by
        unfold Hid; rw [HR.out]; unfold chkD; rw [if_neg]
        rintro ⟨_, h1, _⟩
        have := h1 rfl
        rw [ndsOf_len, ← HN.out] at this; omega
      go_enter Try.func28, Try.ntmps28
      go_upto_region 1 with fail
      rw [← HGX.out, ← HXX.out]
      go_wp2_with fail
      go_ret
      exact ⟨by rw [HE.out]; rfl, HBX.out⟩
    · have HA2 : Hid (any = true → 2 ≤ N) := fun e => by
        have : ¬ N < 2 := fun h2 => hany ⟨e, h2⟩
        omega
      have HE : Hid ((∀ q (hq : q < l.length), okN (toNd l[q])) → r = 0) := fun hh => by
        rw [HR.out]; unfold chkD; rw [if_pos]
        exact okD_of (by rw [← HN.out]; omega) (by rw [← HN.out]; exact HA2.out) fun p hp => by
          obtain ⟨q, hq, rfl⟩ := List.getElem_of_mem hp
          exact hh q hq
      have HF : Hid (∀ q (hq : q < l.length), ¬ okN (toNd l[q]) → r = 2) := fun q hq hh => by
        rw [HR.out]; unfold chkD; rw [if_neg]
        exact fun h => hh (okD_mem h (List.getElem_mem hq))
      have main : ∀ β, β = any → Calls Try.prog 28 #[.agg #[.bool β, .slice a N c]] w fun e w' => e = .returned (.int .i64 r) ∧ Below w.heap.size w w' := by
        intro β hβ
        cases β with
        | true =>
          have hN2 := HA2.out hβ.symm
          have g2 : decide ((N : Int) ≤ 1) = false := decide_eq_false (by omega)
          have g2' : decide (N ≤ 1) = false := decide_eq_false (by omega)
          rw [← hβ] at y0 HXX
          clear hany hβ HR
          go_enter Try.func28, Try.ntmps28
          go_upto_region 1 with fail
          rw [← HGX.out, ← HXX.out]
          go_wp2_with fail
          go_loopw [3] (fun iv wr => ∃ i : Nat, i ≤ N ∧ iv = .int .i64 (i : Nat) ∧ Hid (∀ q (hq : q < l.length), q < i → okN (toNd l[q])) ∧ Hid (Below X.heap.size X wr)) (fun iv _ => N - (RowKit.intOf iv).toNat)
          case atStart => exact ⟨0, Nat.zero_le _, rfl, fun q _ h => by omega, Below.refl _ _⟩
          case round =>
            obtain ⟨i, hi, rfl, HO, HB⟩ := hrel
            have yy0 := cell_next HB.out y0
            have yy1 := cell_next HB.out y1
            by_cases hlt : i < N
            · have d1 : decide ((i : Int) < (N : Int)) = true := decide_eq_true (by omega)
              have d1' : decide (i < N) = true := decide_eq_true hlt
              have hii : (i : Int) < (N : Int) := by omega
              have hik : i < l.length := by rw [← HN.out]; exact hlt
              have HBw := Lib.hid (below_next HB.out HBX.out)
              obtain ⟨bb, off, e, x0, x1, hu, hul⟩ := NRw.at HL.out HBw.out hik
              subst e
              have HQ : Hid (okN (toNd l[i]) → ∀ q (hq : q < l.length), q < i + 1 → okN (toNd l[q])) := fun hh q hq h2 => by
                by_cases e : q = i
                · subst e; exact hh
                · exact HO.out q hq (by omega)
              have HZ : Hid (¬ okN (toNd l[i]) → r = 2) := fun hh => HF.out i hik hh
              obtain ⟨p, hp⟩ : ∃ p, p = l[i] := ⟨_, rfl⟩
              rw [← hp] at x0 x1 hu hul HQ HZ
              obtain ⟨k, pv, js⟩ := p
              dsimp only at x0 x1 hu hul
              unfold toNd okN at HQ HZ
              dsimp only at HQ HZ
              obtain ⟨W, hW⟩ : ∃ W, W = wr.alloc (.cells #[.int .i64 k, pv] 58) := ⟨_, rfl⟩
              have hbW : Below wr.heap.size wr W := by rw [hW]; exact (Below.refl _ _).alloc (Nat.le_refl _) _
              have hbn : Blk W wr.heap.size #[.int .i64 k, pv] 58 := by rw [hW]; exact Blk.new _ _ _
              have HU := Lib.hid (hu.kept hbW)
              have z0 := hbn.cell 0
              have z1 := hbn.cell 1
              simp at z0 z1
              have HBN := Lib.hid hbn
              have HBW := Lib.hid (below_next hbW HB.out)
              obtain ⟨pa, pc, rfl⟩ := hu.slice
              obtain ⟨M, hM⟩ : ∃ M, M = js.length := ⟨_, rfl⟩
              have HM := Lib.hid hM
              rw [← hM] at hul
              have hz1 : W.cell? ⟨wr.heap.size, 1, none⟩ = some (.slice pa M pc) := by rw [hM]; exact z1
              have hx1 : wr.cell? ⟨bb, off + i * 2 + 1, none⟩ = some (.slice pa M pc) := by rw [hM]; exact x1
              have hW2 : W = wr.alloc (.cells #[.int .i64 k, .slice pa M pc] 58) := by rw [hM]; exact hW
              have HBN2 : Hid (Blk W wr.heap.size #[.int .i64 k, .slice pa M pc] 58) := by unfold Hid; rw [hM]; exact HBN.out
              clear hu hp hbW hbn hM HO z1 x1 hW HBN
              obtain ⟨gn, hgn⟩ : ∃ g, g = wr.heap.size := ⟨_, rfl⟩
              rw [← hgn] at HBN2 z0 hz1
              have ww1 := cell_next HBW.out y1
              go_upto_region 7 with fail
              rw [← hW2, ← hgn]
              clear hW2 hx1 x0 hgn
              by_cases k5 : k = 5
              · subst k5
                by_cases m0 : M = 0
                · have q1 : ((M : Int) != 0) = false := by simp; omega
                  have q2 : (M != 0) = false := by simp; omega
                  have HK := Lib.hid (HQ.out (.inr ⟨rfl, by rw [← HM.out]; exact m0⟩))
                  subst m0
                  clear HQ HZ
                  go_wp2_with fail
                  refine wp_loop_rounds 1 ?_; rw [rounds_succ]
                  go_wp2_with fail
                  go_roundw
                  case rel => exact ⟨i + 1, hlt, by go_num, HK.out, HBW.out⟩
                  case measure => simp [RowKit.intOf]; omega
                · have q1 : ((M : Int) != 0) = true := by simp; omega
                  have q2 : (M != 0) = true := by simp; omega
                  have HE2 : Hid (r = 2) := HZ.out (by rintro (⟨_, h, _⟩ | ⟨_, h⟩); omega; exact m0 (by rw [HM.out]; exact h))
                  have HB6 := Lib.hid (below_next HBW.out HBX.out)
                  go_wp2_with fail
                  go_ret
                  exact ⟨by rw [HE2.out]; rfl, HB6.out⟩
              · by_cases k14 : 1 ≤ k ∧ k ≤ 4
                · have hk : k = 1 ∨ k = 2 ∨ k = 3 ∨ k = 4 := by omega
                  by_cases m0 : M = 0
                  · have q1 : ((M : Int) == 0) = true := by simp; omega
                    have q2 : (M == 0) = true := by simp; omega
                    have HE2 : Hid (r = 2) := HZ.out (by have := HM.out; rintro (⟨_, _, h, _⟩ | ⟨h, _⟩); omega; exact k5 h)
                    have HB6 := Lib.hid (below_next HBW.out HBX.out)
                    clear HQ HZ k5 k14
                    rcases hk with rfl | rfl | rfl | rfl
                    all_goals
                      go_wp2_with fail
                      go_ret
                      exact ⟨by rw [HE2.out]; rfl, HB6.out⟩
                  · have q1 : ((M : Int) == 0) = false := by simp; omega
                    have q2 : (M == 0) = false := by simp; omega
                    by_cases m20 : 20 < M
                    · have q3 : decide ((M : Int) > 20) = true := decide_eq_true (by omega)
                      have q3' : decide (20 < (M : Int)) = true := decide_eq_true (by omega)
                      have q3'' : decide (20 < M) = true := decide_eq_true m20
                      have HE2 : Hid (r = 2) := HZ.out (by have := HM.out; rintro (⟨_, _, _, h, _⟩ | ⟨h, _⟩); omega; exact k5 h)
                      have HB6 := Lib.hid (below_next HBW.out HBX.out)
                      clear HQ HZ k5 k14
                      rcases hk with rfl | rfl | rfl | rfl
                      all_goals
                        go_wp2_with fail
                        go_ret
                        exact ⟨by rw [HE2.out]; rfl, HB6.out⟩
                    · have q3 : decide ((M : Int) > 20) = false := decide_eq_false (by omega)
                      have q3' : decide (20 < (M : Int)) = false := decide_eq_false (by omega)
                      have q3'' : decide (20 < M) = false := decide_eq_false m20
                      have HQ2 : Hid (0 ∉ js → ∀ q (hq : q < l.length), q < i + 1 → okN (toNd l[q])) := fun h0 => HQ.out (.inl ⟨k14.1, k14.2, by rw [← HM.out]; omega, by rw [← HM.out]; omega, h0⟩)
                      have HZ2 : Hid (0 ∈ js → r = 2) := fun h0 => HZ.out (by rintro (⟨_, _, _, _, h⟩ | ⟨h, _⟩); exact h h0; exact k5 h)
                      clear HQ HZ k5 k14
                      rcases hk with rfl | rfl | rfl | rfl
                      all_goals
                        go_wp2_with fail
                        obtain ⟨wv, hwv⟩ : ∃ x, x = wr := ⟨_, rfl⟩
                        subst hwv
                        go_loopw [5] (fun jv wr => ∃ j : Nat, j ≤ M ∧ jv = .int .i64 (j : Nat) ∧ Hid (∀ q (hq : q < js.length), q < j → js[q] ≠ 0) ∧ Hid (Below W.heap.size W wr)) (fun jv _ => M - (RowKit.intOf jv).toNat)
                        case atStart => exact ⟨0, Nat.zero_le _, rfl, fun q _ h => by omega, Below.refl _ _⟩
                        case round =>
                          obtain ⟨j, hj, rfl, HJ, HBj⟩ := hrel
                          have zz1 := cell_next HBj.out hz1
                          by_cases hjl : j < M
                          · have j1 : decide ((j : Int) < (M : Int)) = true := decide_eq_true (by omega)
                            have j1' : decide (j < M) = true := decide_eq_true hjl
                            have jii : (j : Int) < (M : Int) := by omega
                            have hjk : j < js.length := by rw [← HM.out]; exact hjl
                            obtain ⟨b2, off2, e, hc2⟩ := RowG.at (HU.out.kept HBj.out) hjk
                            subst e
                            have u0 := hc2 wr (Below.refl _ _) 0 _ rfl
                            simp only [Nat.mul_one, Nat.add_zero] at u0
                            obtain ⟨x, hx⟩ : ∃ x, x = js[j] := ⟨_, rfl⟩
                            rw [← hx] at u0
                            have HX2 := Lib.hid hx
                            clear hc2 hx
                            by_cases hx0 : x = 0
                            · subst hx0
                              have HE2 : Hid (r = 2) := HZ2.out (by rw [HX2.out]; exact List.getElem_mem hjk)
                              have HB6 := Lib.hid (below_next (below_next HBj.out HBW.out) HBX.out)
                              go_wp2_with fail
                              go_ret
                              exact ⟨by rw [HE2.out]; rfl, HB6.out⟩
                            · have q4 : ((x : Int) == 0) = false := by simp; omega
                              have q4' : (x == 0) = false := by simp; omega
                              have HJ2 : Hid (∀ q (hq : q < js.length), q < j + 1 → js[q] ≠ 0) := fun q hq h2 => by
                                by_cases e : q = j
                                · subst e; rw [← HX2.out]; exact hx0
                                · exact HJ.out q hq (by omega)
                              clear HJ
                              go_wp2_with fail
                              go_roundw
                              case rel => exact ⟨j + 1, hjl, by go_num, HJ2.out, HBj.out⟩
                              case measure => simp [RowKit.intOf]; omega
                          · have j1 : decide ((j : Int) < (M : Int)) = false := decide_eq_false (by omega)
                            have j1' : decide (j < M) = false := decide_eq_false hjl
                            have HK := Lib.hid (HQ2.out (fun h0 => by
                              obtain ⟨q, hq, e⟩ := List.getElem_of_mem h0
                              exact HJ.out q hq (by have := HM.out; omega) e))
                            have HB6 := Lib.hid (below_next HBj.out HBW.out)
                            go_wp2_with fail
                            go_roundw
                            case rel => exact ⟨i + 1, hlt, by go_num, HK.out, HB6.out⟩
                            case measure => simp [RowKit.intOf]; omega
                · have e1 : (k == 1) = false := by simp; omega
                  have e2 : (k == 2) = false := by simp; omega
                  have e3 : (k == 3) = false := by simp; omega
                  have e4 : (k == 4) = false := by simp; omega
                  have e5 : (k == 5) = false := by simp; omega
                  have HE2 : Hid (r = 2) := HZ.out (by rintro (⟨h1, h2, _⟩ | ⟨h, _⟩); exact k14 ⟨h1, h2⟩; exact k5 h)
                  have HB6 := Lib.hid (below_next HBW.out HBX.out)
                  clear HQ HZ k5 k14
                  go_wp2_with fail
                  go_ret
                  exact ⟨by rw [HE2.out]; rfl, HB6.out⟩
            · have d1 : decide ((i : Int) < (N : Int)) = false := decide_eq_false (by omega)
              have d1' : decide (i < N) = false := decide_eq_false hlt
              have HRR : Hid (r = 0) := HE.out fun q hq => HO.out q hq (by have := HN.out; omega)
              have HB6 := Lib.hid (below_next HB.out HBX.out)
              go_wp2_with fail
              go_ret
              exact ⟨by rw [HRR.out]; rfl, HB6.out⟩
        | false =>
          rw [← hβ] at y0 HXX
          clear hany hβ HR
          go_enter Try.func28, Try.ntmps28
          go_upto_region 1 with fail
          rw [← HGX.out, ← HXX.out]
          go_wp2_with fail
          go_loopw [3] (fun iv wr => ∃ i : Nat, i ≤ N ∧ iv = .int .i64 (i : Nat) ∧ Hid (∀ q (hq : q < l.length), q < i → okN (toNd l[q])) ∧ Hid (Below X.heap.size X wr)) (fun iv _ => N - (RowKit.intOf iv).toNat)
          case atStart => exact ⟨0, Nat.zero_le _, rfl, fun q _ h => by omega, Below.refl _ _⟩
          case round =>
            obtain ⟨i, hi, rfl, HO, HB⟩ := hrel
            have yy0 := cell_next HB.out y0
            have yy1 := cell_next HB.out y1
            by_cases hlt : i < N
            · have d1 : decide ((i : Int) < (N : Int)) = true := decide_eq_true (by omega)
              have d1' : decide (i < N) = true := decide_eq_true hlt
              have hii : (i : Int) < (N : Int) := by omega
              have hik : i < l.length := by rw [← HN.out]; exact hlt
              have HBw := Lib.hid (below_next HB.out HBX.out)
              obtain ⟨bb, off, e, x0, x1, hu, hul⟩ := NRw.at HL.out HBw.out hik
              subst e
              have HQ : Hid (okN (toNd l[i]) → ∀ q (hq : q < l.length), q < i + 1 → okN (toNd l[q])) := fun hh q hq h2 => by
                by_cases e : q = i
                · subst e; exact hh
                · exact HO.out q hq (by omega)
              have HZ : Hid (¬ okN (toNd l[i]) → r = 2) := fun hh => HF.out i hik hh
              obtain ⟨p, hp⟩ : ∃ p, p = l[i] := ⟨_, rfl⟩
              rw [← hp] at x0 x1 hu hul HQ HZ
              obtain ⟨k, pv, js⟩ := p
              dsimp only at x0 x1 hu hul
              unfold toNd okN at HQ HZ
              dsimp only at HQ HZ
              obtain ⟨W, hW⟩ : ∃ W, W = wr.alloc (.cells #[.int .i64 k, pv] 58) := ⟨_, rfl⟩
              have hbW : Below wr.heap.size wr W := by rw [hW]; exact (Below.refl _ _).alloc (Nat.le_refl _) _
              have hbn : Blk W wr.heap.size #[.int .i64 k, pv] 58 := by rw [hW]; exact Blk.new _ _ _
              have HU := Lib.hid (hu.kept hbW)
              have z0 := hbn.cell 0
              have z1 := hbn.cell 1
              simp at z0 z1
              have HBN := Lib.hid hbn
              have HBW := Lib.hid (below_next hbW HB.out)
              obtain ⟨pa, pc, rfl⟩ := hu.slice
              obtain ⟨M, hM⟩ : ∃ M, M = js.length := ⟨_, rfl⟩
              have HM := Lib.hid hM
              rw [← hM] at hul
              have hz1 : W.cell? ⟨wr.heap.size, 1, none⟩ = some (.slice pa M pc) := by rw [hM]; exact z1
              have hx1 : wr.cell? ⟨bb, off + i * 2 + 1, none⟩ = some (.slice pa M pc) := by rw [hM]; exact x1
              have hW2 : W = wr.alloc (.cells #[.int .i64 k, .slice pa M pc] 58) := by rw [hM]; exact hW
              have HBN2 : Hid (Blk W wr.heap.size #[.int .i64 k, .slice pa M pc] 58) := by unfold Hid; rw [hM]; exact HBN.out
              clear hu hp hbW hbn hM HO z1 x1 hW HBN
              obtain ⟨gn, hgn⟩ : ∃ g, g = wr.heap.size := ⟨_, rfl⟩
              rw [← hgn] at HBN2 z0 hz1
              have ww1 := cell_next HBW.out y1
              go_upto_region 7 with fail
              rw [← hW2, ← hgn]
              clear hW2 hx1 x0 hgn
              by_cases k5 : k = 5
              · subst k5
                by_cases m0 : M = 0
                · have q1 : ((M : Int) != 0) = false := by simp; omega
                  have q2 : (M != 0) = false := by simp; omega
                  have HK := Lib.hid (HQ.out (.inr ⟨rfl, by rw [← HM.out]; exact m0⟩))
                  subst m0
                  clear HQ HZ
                  go_wp2_with fail
                  refine wp_loop_rounds 1 ?_; rw [rounds_succ]
                  go_wp2_with fail
                  go_roundw
                  case rel => exact ⟨i + 1, hlt, by go_num, HK.out, HBW.out⟩
                  case measure => simp [RowKit.intOf]; omega
                · have q1 : ((M : Int) != 0) = true := by simp; omega
                  have q2 : (M != 0) = true := by simp; omega
                  have HE2 : Hid (r = 2) := HZ.out (by rintro (⟨_, h, _⟩ | ⟨_, h⟩); omega; exact m0 (by rw [HM.out]; exact h))
                  have HB6 := Lib.hid (below_next HBW.out HBX.out)
                  go_wp2_with fail
                  go_ret
                  exact ⟨by rw [HE2.out]; rfl, HB6.out⟩
              · by_cases k14 : 1 ≤ k ∧ k ≤ 4
                · have hk : k = 1 ∨ k = 2 ∨ k = 3 ∨ k = 4 := by omega
                  by_cases m0 : M = 0
                  · have q1 : ((M : Int) == 0) = true := by simp; omega
                    have q2 : (M == 0) = true := by simp; omega
                    have HE2 : Hid (r = 2) := HZ.out (by have := HM.out; rintro (⟨_, _, h, _⟩ | ⟨h, _⟩); omega; exact k5 h)
                    have HB6 := Lib.hid (below_next HBW.out HBX.out)
                    clear HQ HZ k5 k14
                    rcases hk with rfl | rfl | rfl | rfl
                    all_goals
                      go_wp2_with fail
                      go_ret
                      exact ⟨by rw [HE2.out]; rfl, HB6.out⟩
                  · have q1 : ((M : Int) == 0) = false := by simp; omega
                    have q2 : (M == 0) = false := by simp; omega
                    by_cases m20 : 20 < M
                    · have q3 : decide ((M : Int) > 20) = true := decide_eq_true (by omega)
                      have q3' : decide (20 < (M : Int)) = true := decide_eq_true (by omega)
                      have q3'' : decide (20 < M) = true := decide_eq_true m20
                      have HE2 : Hid (r = 2) := HZ.out (by have := HM.out; rintro (⟨_, _, _, h, _⟩ | ⟨h, _⟩); omega; exact k5 h)
                      have HB6 := Lib.hid (below_next HBW.out HBX.out)
                      clear HQ HZ k5 k14
                      rcases hk with rfl | rfl | rfl | rfl
                      all_goals
                        go_wp2_with fail
                        go_ret
                        exact ⟨by rw [HE2.out]; rfl, HB6.out⟩
                    · have q3 : decide ((M : Int) > 20) = false := decide_eq_false (by omega)
                      have q3' : decide (20 < (M : Int)) = false := decide_eq_false (by omega)
                      have q3'' : decide (20 < M) = false := decide_eq_false m20
                      have HQ2 : Hid (0 ∉ js → ∀ q (hq : q < l.length), q < i + 1 → okN (toNd l[q])) := fun h0 => HQ.out (.inl ⟨k14.1, k14.2, by rw [← HM.out]; omega, by rw [← HM.out]; omega, h0⟩)
                      have HZ2 : Hid (0 ∈ js → r = 2) := fun h0 => HZ.out (by rintro (⟨_, _, _, _, h⟩ | ⟨h, _⟩); exact h h0; exact k5 h)
                      clear HQ HZ k5 k14
                      rcases hk with rfl | rfl | rfl | rfl
                      all_goals
                        go_wp2_with fail
                        obtain ⟨wv, hwv⟩ : ∃ x, x = wr := ⟨_, rfl⟩
                        subst hwv
                        go_loopw [5] (fun jv wr => ∃ j : Nat, j ≤ M ∧ jv = .int .i64 (j : Nat) ∧ Hid (∀ q (hq : q < js.length), q < j → js[q] ≠ 0) ∧ Hid (Below W.heap.size W wr)) (fun jv _ => M - (RowKit.intOf jv).toNat)
                        case atStart => exact ⟨0, Nat.zero_le _, rfl, fun q _ h => by omega, Below.refl _ _⟩
                        case round =>
                          obtain ⟨j, hj, rfl, HJ, HBj⟩ := hrel
                          have zz1 := cell_next HBj.out hz1
                          by_cases hjl : j < M
                          · have j1 : decide ((j : Int) < (M : Int)) = true := decide_eq_true (by omega)
                            have j1' : decide (j < M) = true := decide_eq_true hjl
                            have jii : (j : Int) < (M : Int) := by omega
                            have hjk : j < js.length := by rw [← HM.out]; exact hjl
                            obtain ⟨b2, off2, e, hc2⟩ := RowG.at (HU.out.kept HBj.out) hjk
                            subst e
                            have u0 := hc2 wr (Below.refl _ _) 0 _ rfl
                            simp only [Nat.mul_one, Nat.add_zero] at u0
                            obtain ⟨x, hx⟩ : ∃ x, x = js[j] := ⟨_, rfl⟩
                            rw [← hx] at u0
                            have HX2 := Lib.hid hx
                            clear hc2 hx
                            by_cases hx0 : x = 0
                            · subst hx0
                              have HE2 : Hid (r = 2) := HZ2.out (by rw [HX2.out]; exact List.getElem_mem hjk)
                              have HB6 := Lib.hid (below_next (below_next HBj.out HBW.out) HBX.out)
                              go_wp2_with fail
                              go_ret
                              exact ⟨by rw [HE2.out]; rfl, HB6.out⟩
                            · have q4 : ((x : Int) == 0) = false := by simp; omega
                              have q4' : (x == 0) = false := by simp; omega
                              have HJ2 : Hid (∀ q (hq : q < js.length), q < j + 1 → js[q] ≠ 0) := fun q hq h2 => by
                                by_cases e : q = j
                                · subst e; rw [← HX2.out]; exact hx0
                                · exact HJ.out q hq (by omega)
                              clear HJ
                              go_wp2_with fail
                              go_roundw
                              case rel => exact ⟨j + 1, hjl, by go_num, HJ2.out, HBj.out⟩
                              case measure => simp [RowKit.intOf]; omega
                          · have j1 : decide ((j : Int) < (M : Int)) = false := decide_eq_false (by omega)
                            have j1' : decide (j < M) = false := decide_eq_false hjl
                            have HK := Lib.hid (HQ2.out (fun h0 => by
                              obtain ⟨q, hq, e⟩ := List.getElem_of_mem h0
                              exact HJ.out q hq (by have := HM.out; omega) e))
                            have HB6 := Lib.hid (below_next HBj.out HBW.out)
                            go_wp2_with fail
                            go_roundw
                            case rel => exact ⟨i + 1, hlt, by go_num, HK.out, HB6.out⟩
                            case measure => simp [RowKit.intOf]; omega
                · have e1 : (k == 1) = false := by simp; omega
                  have e2 : (k == 2) = false := by simp; omega
                  have e3 : (k == 3) = false := by simp; omega
                  have e4 : (k == 4) = false := by simp; omega
                  have e5 : (k == 5) = false := by simp; omega
                  have HE2 : Hid (r = 2) := HZ.out (by rintro (⟨h1, h2, _⟩ | ⟨h, _⟩); exact k14 ⟨h1, h2⟩; exact k5 h)
                  have HB6 := Lib.hid (below_next HBW.out HBX.out)
                  clear HQ HZ k5 k14
                  go_wp2_with fail
                  go_ret
                  exact ⟨by rw [HE2.out]; rfl, HB6.out⟩
            · have d1 : decide ((i : Int) < (N : Int)) = false := decide_eq_false (by omega)
              have d1' : decide (i < N) = false := decide_eq_false hlt
              have HRR : Hid (r = 0) := HE.out fun q hq => HO.out q hq (by have := HN.out; omega)
              have HB6 := Lib.hid (below_next HB.out HBX.out)
              go_wp2_with fail
              go_ret
              exact ⟨by rw [HRR.out]; rfl, HB6.out⟩
      exact main any rfl
end Go.Proofs.Ytfabjlhepadkpaa
