/-
  gangerref15.Fits.
-/
import Derived.Test.YtioeblljabohbaaBfRef
import Derived.Test.YtioeblljabohbaaBfE
import Derived.Deep.DeepCutAuto
namespace Go.Proofs.Ytioeblljabohbaa
open Go Go.RowKit Go.Lib
set_option linter.unusedVariables false

set_option maxRecDepth 100000 in
set_option maxHeartbeats 4000000 in
theorem refFits_any (n : Nat) (vf vh : Value) (S O : Int) (w : World) (hn : n ≤ 10) (h1 : vf.oneCell' = true) (h2 : vh.oneCell' = true) (hS : S ≤ 9223372036854775807) (r : Bool) (hr : r = true ↔ blkI n S O) :
    Calls Try.prog 38 #[.agg #[.int .i64 (n : Nat), vf, vh], .agg #[.int .i64 S, .int .i64 O]] w fun e w' => e = .returned (.bool r) ∧ Below w.heap.size w w' := by
  obtain ⟨W, hW⟩ : ∃ W, W = (w.alloc (.cells #[.int .i64 (n : Nat), vf, vh] 25)).alloc (.cells #[.int .i64 S, .int .i64 O] 27) := ⟨_, rfl⟩
  obtain ⟨gS, hgS⟩ : ∃ g, g = w.heap.size := ⟨_, rfl⟩
  obtain ⟨gB, hgB⟩ : ∃ g, g = w.heap.size + 1 := ⟨_, rfl⟩
  have HBW : Hid (Below w.heap.size w W) := by unfold Hid; rw [hW]; exact ((Below.refl _ _).alloc (Nat.le_refl _) _).alloc (by simp) _
  have HSB : Blk W gS #[.int .i64 (n : Nat), vf, vh] 25 := by rw [hW, hgS]; exact (Blk.new w _ _).old _
  have HBB : Blk W gB #[.int .i64 S, .int .i64 O] 27 := by rw [hW]; exact Blk.fresh _ _ _ gB (by rw [hgB]; simp)
  have s0 := HSB.cell 0
  have b0 := HBB.cell 0
  have b1 := HBB.cell 1
  simp at s0 b0 b1
  clear HSB HBB
  by_cases hO : O < 0
  · have d1 : decide (O < 0) = true := decide_eq_true hO
    obtain rfl : r = false := by
      cases r with
      | false => rfl
      | true => obtain ⟨s, o', h3, h4, h5⟩ := hr.1 rfl; have := h5.1; omega
    clear hr
    go_enter Try.func38, Try.ntmps38
    go_upto_region 1 with fail
    rw [← hgB, ← hgS, ← hW]
    clear hgB hgS hW
    go_wp2_with fail
    go_ret
    exact ⟨rfl, HBW.out⟩
  · have d1 : decide (O < 0) = false := decide_eq_false hO
    obtain ⟨o, rfl⟩ : ∃ o : Nat, O = (o : Int) := ⟨O.toNat, by omega⟩
    by_cases hon : n < o
    · have d2 : decide ((o : Int) > (n : Int)) = true := decide_eq_true (by omega)
      have d3 : decide ((n : Int) < (o : Int)) = true := decide_eq_true (by omega)
      have d4 : decide (n < o) = true := decide_eq_true hon
      obtain rfl : r = false := by
        cases r with
        | false => rfl
        | true => obtain ⟨s, o', h3, h4, h5⟩ := hr.1 rfl; have := h5.1; omega
      clear hr
      go_enter Try.func38, Try.ntmps38
      go_upto_region 1 with fail
      rw [← hgB, ← hgS, ← hW]
      clear hgB hgS hW
      go_wp2_with fail
      go_ret
      exact ⟨rfl, HBW.out⟩
    · have d2 : decide ((o : Int) > (n : Int)) = false := decide_eq_false (by omega)
      have d3 : decide ((n : Int) < (o : Int)) = false := decide_eq_false (by omega)
      have d4 : decide (n < o) = false := decide_eq_false hon
      by_cases hS0 : S < 0
      · have d5 : decide (S < 0) = true := decide_eq_true hS0
        obtain rfl : r = false := by
          cases r with
          | false => rfl
          | true => obtain ⟨s, o', h3, h4, h5⟩ := hr.1 rfl; have := h5.1; omega
        clear hr
        go_enter Try.func38, Try.ntmps38
        go_upto_region 1 with fail
        rw [← hgB, ← hgS, ← hW]
        clear hgB hgS hW
        go_wp2_with fail
        go_ret
        exact ⟨rfl, HBW.out⟩
      · have d5 : decide (S < 0) = false := decide_eq_false hS0
        obtain ⟨s, rfl⟩ : ∃ s : Nat, S = (s : Int) := ⟨S.toNat, by omega⟩
        have SZ : Hid (∀ (m : Nat) (w' : World), m ≤ 10 → Calls Try.prog 37 #[.int .i64 (m : Int)] w' fun e w'' => e = .returned (.int .i64 ((2 ^ m : Nat) : Int)) ∧ w'' = w') := fun m w' hm => rSize_any m hm w'
        obtain ⟨Z, hZ⟩ : ∃ Z, Z = 2 ^ o := ⟨_, rfl⟩
        obtain ⟨Y, hY⟩ : ∃ Y, Y = 2 ^ n := ⟨_, rfl⟩
        have hZ1 : 1 ≤ Z := by rw [hZ]; exact two_pos o
        have hZ2 : Z ≤ 1024 := by rw [hZ]; exact pow_1024 (by omega)
        have hY2 : Y ≤ 1024 := by rw [hY]; exact pow_1024 hn
        have SO := Lib.hid (SZ.out o W (by omega))
        have SN : Hid (∀ w', Calls Try.prog 37 #[.int .i64 (n : Int)] w' fun e w'' => e = .returned (.int .i64 (Y : Int)) ∧ w'' = w') := fun w' => by rw [hY]; exact SZ.out n w' hn
        rw [← hZ] at SO
        have HBK : Hid (blkI n (s : Int) (o : Int) ↔ s % Z = 0 ∧ s + Z ≤ Y) := by
          unfold Hid
          rw [hZ, hY]
          constructor
          · rintro ⟨s', o', h3, h4, h5⟩
            obtain rfl : s' = s := by omega
            obtain rfl : o' = o := by omega
            exact ⟨h5.2.1, h5.2.2⟩
          · rintro ⟨h3, h4⟩
            exact ⟨s, o, rfl, rfl, by omega, h3, h4⟩
        have HRR : Hid (r = true ↔ s % Z = 0 ∧ s + Z ≤ Y) := hr.trans HBK.out
        clear hZ hY SZ hS hr HBK
        go_enter Try.func38, Try.ntmps38
        go_upto_region 1 with fail
        rw [← hgB, ← hgS, ← hW]
        clear hgB hgS hW
        go_wp2_with fail
        refine SO.out.mono ?_; rintro e w1 ⟨rfl, hw1⟩
        replace hw1 := hw1.symm
        subst hw1
        clear SO
        obtain ⟨R, hR⟩ : ∃ R, R = s % Z := ⟨_, rfl⟩
        have hRi : (s : Int).tmod (Z : Int) = (R : Int) := by rw [hR, Int.tmod_eq_emod_of_nonneg (by omega)]; push_cast; rfl
        rw [← hR] at HRR
        have z0 : ¬ (Z : Int) = 0 := by omega
        have z1 : ¬ Z = 0 := by omega
        clear hR
        go_upto_region 4 with fail
        by_cases hR0 : R = 0
        · have q1 : ((R : Int) == 0) = true := by simp; omega
          have q2 : (R == 0) = true := by simp; omega
          obtain ⟨D, hD⟩ : ∃ D : Int, (Y : Int) - (Z : Int) = D := ⟨_, rfl⟩
          have hDb : -1024 ≤ D ∧ D ≤ 1024 := by omega
          have HY : Hid (decide ((s : Int) ≤ IntKind.i64.wrap D) = r) := by
            unfold Hid
            have eD : IntKind.i64.wrap D = D := by rw [IntKind.wrap_i64]; omega
            rw [eD]
            rw [Bool.eq_iff_iff, decide_eq_true_eq, HRR.out]
            omega
          have HR0 : Hid (R = 0) := hR0
          clear hR0
          go_cut [4] (fun rv wx => rv = .bool r ∧ Hid (Below W.heap.size W wx))
          case first =>
            go_region_held3 (fun w' => w'.cell? ⟨gB, 0, none⟩ = some (.int .i64 (s : Int)) ∧ w'.cell? ⟨gS, 0, none⟩ = some (.int .i64 (n : Int)) ∧ Below W.heap.size W w')
              (first
                | exact ⟨b0, s0, Below.refl _ _⟩
                | exact ⟨b0, s0, (Below.refl _ _).drew⟩
                | (rcases ‹_ ∧ _ ∧ Below W.heap.size _ _› with ⟨q0, q1, q2⟩; exact ⟨cell_next (by assumption) q0, cell_next (by assumption) q1, below_next (by assumption) q2⟩))
              (first
                | (go_at_call 37; ((with_reducible refine (SN.out _).mono ?_); rintro e w5 ⟨rfl, hw5⟩; replace hw5 := hw5.symm; subst hw5)))
            go_wp2_with fail
            go_meet
            exact ⟨by rw [← HY.out], (‹_ ∧ _ ∧ Below W.heap.size W _›).2.2⟩
          case rest =>
            obtain ⟨rfl, hbz⟩ := hcut
            have HBZ := below_next hbz.out HBW.out
            go_wp2_with fail
            go_ret
            exact ⟨rfl, HBZ⟩
        · have q1 : ((R : Int) == 0) = false := by simp; omega
          have q2 : (R == 0) = false := by simp; omega
          obtain rfl : r = false := by
            cases r with
            | false => rfl
            | true => exact absurd (HRR.out.1 rfl).1 hR0
          go_quiet (fail)
          go_wp2_with fail
          go_ret
          exact ⟨rfl, below_next (below_drewN (Below.refl _ _) _) HBW.out⟩
end Go.Proofs.Ytioeblljabohbaa
