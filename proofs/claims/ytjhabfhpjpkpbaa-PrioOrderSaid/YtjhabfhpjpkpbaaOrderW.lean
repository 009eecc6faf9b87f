/-
  gangerlaw12.PrioOrder: the walk.
-/
import Derived.Test.YtjhabfhpjpkpbaaOrder
namespace Go.Proofs.Ytjhabfhpjpkpbaa
open Go.ChangeShapes Go.WideShapes Go.ChangeAt Go.RowKit Go.Lib Go.Sort Go.Maps
set_option linter.unusedVariables false

theorem below4 (w : World) (o1 o2 o3 o4 : Obj) : Below w.heap.size w ((((w.alloc o1).alloc o2).alloc o3).alloc o4) :=
  ((((Below.refl _ _).alloc (Nat.le_refl _) _).alloc (by simp) _).alloc (by simp; omega) _).alloc (by simp; omega) _

set_option maxRecDepth 100000 in
set_option maxHeartbeats 8000000 in
theorem order_short (f a s q p : Int) (x : AskS) (A : Option Addr) (c : Nat) (l : List AskS) (now all later : Int) (w : World) (hrow : ARow w (.slice A l.length c) l) (hok : ∀ x ∈ l, AskOk x) (hx : AskOk x) (h : ¬ 100 < l.length) (hnow : I64 now) (hall : I64 all) (hl0 : 0 ≤ later) (hl1 : later ≤ 65535) :
    Calls Try.prog 8 #[.agg #[.int .i64 f, .int .i64 a, .int .i64 s, .int .i64 q, .int .i64 p], .agg #[.int .u32 x.id, .int .i64 x.since, .int .i64 x.size, .int .i64 x.nice, .int .i64 x.qos, .int .i64 x.part, .int .i64 x.factor], .slice A l.length c, .int .i64 now, .int .i64 all, .int .u16 later] w fun e w' => e = .returned (.bool true) ∧ Below w.heap.size w w' := by
  have t : decide ((l.length : Int) > 100) = false := decide_eq_false (by omega)
  have t' : decide (100 < l.length) = false := decide_eq_false h
  have hn : l.length ≤ 100 := by omega
  obtain ⟨hx0, hx1, hx2, hx3, hx4, hx5, hx6⟩ := hx
  have hi0 : 0 ≤ x.id ∧ x.id ≤ 4294967295 := by simpa [Lit.wf, IntKind.min, IntKind.max, IntKind.bits, IntKind.signed] using hx0
  obtain ⟨hi0, hi1⟩ := hi0
  unfold I64 at hx1
  obtain ⟨hs0, hs1⟩ := hx1
  have okOf : ∀ i t : Int, 0 ≤ i → i ≤ 4294967295 → I64 t → AskOk ⟨i, t, x.size, x.nice, x.qos, x.part, x.factor⟩ := fun i t h1 h2 h3 => ⟨by simp [Lit.wf, IntKind.min, IntKind.max, IntKind.bits, IntKind.signed]; omega, h3, hx2, hx3, hx4, hx5, hx6⟩
  have iS : I64 (min (max x.since 0) 1125899906842624 + later) := by unfold I64; omega
  have iD : I64 ((min (max x.since 0) 1125899906842624 + later) + 1) := by unfold I64; omega
  have okB := okOf (x.id % 4000000000 + 1) (min (max x.since 0) 1125899906842624 + later) (by omega) (by omega) iS
  have okC := okOf (x.id % 4000000000 + 2) (min (max x.since 0) 1125899906842624 + later) (by omega) (by omega) iS
  have okD := okOf (x.id % 4000000000 + 2 + 1) ((min (max x.since 0) 1125899906842624 + later) + 1) (by omega) (by omega) iD
  have KN : Hid (∀ w, Calls Try.prog 16 #[] w fun e w' => e = .returned (.bool true) ∧ Below w.heap.size w w') := fun w => known12_any w
  have KP : Hid (∀ w, Calls Try.prog 17 #[.agg #[.int .i64 f, .int .i64 a, .int .i64 s, .int .i64 q, .int .i64 p], .agg #[.int .u32 (x.id % 4000000000 + 1), .int .i64 (min (max x.since 0) 1125899906842624 + later), .int .i64 x.size, .int .i64 x.nice, .int .i64 x.qos, .int .i64 x.part, .int .i64 x.factor], .int .i64 now, .int .i64 all] w
      fun e w' => e = .returned (.tuple #[.int .i64 (pV ⟨f, a, s, q, p⟩ now all ⟨(x.id % 4000000000 + 1), (min (max x.since 0) 1125899906842624 + later), x.size, x.nice, x.qos, x.part, x.factor⟩), .int .i64 (pE ⟨f, a, s, q, p⟩ now all ⟨(x.id % 4000000000 + 1), (min (max x.since 0) 1125899906842624 + later), x.size, x.nice, x.qos, x.part, x.factor⟩)]) ∧ Below w.heap.size w w') := fun w => prio_ask ⟨f, a, s, q, p⟩ now all hnow hall ⟨(x.id % 4000000000 + 1), (min (max x.since 0) 1125899906842624 + later), x.size, x.nice, x.qos, x.part, x.factor⟩ okB w
  have F1g : ∀ u v : AskS, AskOk u → AskOk v → Hid (∀ y w1, ARow w1 y [u, v] → Calls Try.prog 21 #[.agg #[.int .i64 f, .int .i64 a, .int .i64 s, .int .i64 q, .int .i64 p], y, .int .i64 now, .int .i64 all] w1 fun e w' => e = .returned (.tuple #[.int .u32 (firstV ⟨f, a, s, q, p⟩ now all [u, v]), .int .i64 (firstE ⟨f, a, s, q, p⟩ now all [u, v])]) ∧ Below w1.heap.size w1 w') := fun u v hu hv vv w1 hr => first_any vv ⟨f, a, s, q, p⟩ [u, v] now all w1 (show 2 ≤ 1048576 by decide) hnow hall (fun y hy => by rcases List.mem_cons.1 hy with rfl | hy; exact hu; rw [List.mem_singleton] at hy; subst hy; exact hv) hr
  have FL : Hid (∀ y w1, ARow w1 y l → Calls Try.prog 21 #[.agg #[.int .i64 f, .int .i64 a, .int .i64 s, .int .i64 q, .int .i64 p], y, .int .i64 now, .int .i64 all] w1 fun e w' => e = .returned (.tuple #[.int .u32 (firstV ⟨f, a, s, q, p⟩ now all l), .int .i64 (firstE ⟨f, a, s, q, p⟩ now all l)]) ∧ Below w1.heap.size w1 w') := fun vv w1 hr => first_any vv ⟨f, a, s, q, p⟩ l now all w1 (by omega) hnow hall hok hr
  rcases pE_two ⟨f, a, s, q, p⟩ now all ⟨(x.id % 4000000000 + 1), (min (max x.since 0) 1125899906842624 + later), x.size, x.nice, x.qos, x.part, x.factor⟩ with hE | hE
  · have oB := pE_ok (W := ⟨f, a, s, q, p⟩) (now := now) (all := all) (x := ⟨(x.id % 4000000000 + 1), (min (max x.since 0) 1125899906842624 + later), x.size, x.nice, x.qos, x.part, x.factor⟩) (show 0 ≤ (x.id % 4000000000 + 1) by omega) hE
    have eC : pE ⟨f, a, s, q, p⟩ now all ⟨(x.id % 4000000000 + 2), (min (max x.since 0) 1125899906842624 + later), x.size, x.nice, x.qos, x.part, x.factor⟩ = 0 := ok_pE (by unfold okProp at *; dsimp only at *; omega)
    have eD : pE ⟨f, a, s, q, p⟩ now all ⟨(x.id % 4000000000 + 2 + 1), ((min (max x.since 0) 1125899906842624 + later) + 1), x.size, x.nice, x.qos, x.part, x.factor⟩ = 0 := ok_pE (by unfold okProp at *; dsimp only at *; omega)
    have hfa : 0 ≤ a := by unfold okProp at oB; dsimp only at oB; omega
    have hage := part_mono' hfa (ageV_anti (a := (min (max x.since 0) 1125899906842624 + later)) (a' := (min (max x.since 0) 1125899906842624 + later) + 1) (now := now) (by omega) (by omega))
    have lC : kLess (keyOf ⟨f, a, s, q, p⟩ now all ⟨(x.id % 4000000000 + 1), (min (max x.since 0) 1125899906842624 + later), x.size, x.nice, x.qos, x.part, x.factor⟩) (keyOf ⟨f, a, s, q, p⟩ now all ⟨(x.id % 4000000000 + 2), (min (max x.since 0) 1125899906842624 + later), x.size, x.nice, x.qos, x.part, x.factor⟩) = true := by
      rw [lessB_iff]; unfold keyOf; dsimp only
      rw [pV_ok hE, pV_ok eC]; dsimp only
      omega
    have lD : kLess (keyOf ⟨f, a, s, q, p⟩ now all ⟨(x.id % 4000000000 + 1), (min (max x.since 0) 1125899906842624 + later), x.size, x.nice, x.qos, x.part, x.factor⟩) (keyOf ⟨f, a, s, q, p⟩ now all ⟨(x.id % 4000000000 + 2 + 1), ((min (max x.since 0) 1125899906842624 + later) + 1), x.size, x.nice, x.qos, x.part, x.factor⟩) = true := by
      rw [lessB_iff]; unfold keyOf; dsimp only
      rw [pV_ok hE, pV_ok eD]; dsimp only
      unfold prSum
      omega
    have pC := first_pair eC hE (show (x.id % 4000000000 + 2) ≠ (x.id % 4000000000 + 1) by omega) lC
    have pD := first_pair eD hE (show (x.id % 4000000000 + 2 + 1) ≠ (x.id % 4000000000 + 1) by omega) lD
    have FC := F1g ⟨(x.id % 4000000000 + 2), (min (max x.since 0) 1125899906842624 + later), x.size, x.nice, x.qos, x.part, x.factor⟩ ⟨(x.id % 4000000000 + 1), (min (max x.since 0) 1125899906842624 + later), x.size, x.nice, x.qos, x.part, x.factor⟩ okC okB
    have FD := F1g ⟨(x.id % 4000000000 + 2 + 1), ((min (max x.since 0) 1125899906842624 + later) + 1), x.size, x.nice, x.qos, x.part, x.factor⟩ ⟨(x.id % 4000000000 + 1), (min (max x.since 0) 1125899906842624 + later), x.size, x.nice, x.qos, x.part, x.factor⟩ okD okB
    rw [pC.1, pC.2] at FC
    rw [pD.1, pD.2] at FD
    dsimp only at FC FD
    have FP : Hid (firstE ⟨f, a, s, q, p⟩ now all l = 0 → ∀ i k, i < l.length → k < l.length → (aAt l i).id ≠ firstV ⟨f, a, s, q, p⟩ now all l → (aAt l k).id = firstV ⟨f, a, s, q, p⟩ now all l → Hid (∀ y w1, ARow w1 y [aAt l i, aAt l k] → Calls Try.prog 21 #[.agg #[.int .i64 f, .int .i64 a, .int .i64 s, .int .i64 q, .int .i64 p], y, .int .i64 now, .int .i64 all] w1 fun e w' => e = .returned (.tuple #[.int .u32 (firstV ⟨f, a, s, q, p⟩ now all l), .int .i64 0]) ∧ Below w1.heap.size w1 w')) := by
      intro h1 i k hi hk h2 h3
      have := F1g (aAt l i) (aAt l k) (hok _ (aAt_mem hi)) (hok _ (aAt_mem hk))
      obtain ⟨e1, e2⟩ := first_of_all h1 rfl hi hk h2 h3
      rw [e1, e2] at this; exact this
    have HR := Lib.hid hrow
    rw [hE] at KP
    clear pC pD lC lD hage oB eC eD F1g okOf okB okC okD iD hok hx0 hx2 hx3 hx4 hx5 hx6 h hnow hall hE hrow hfa
    have hb1 : 0 ≤ (x.id % 4000000000 + 1) := by omega
    have hc2 : (x.id % 4000000000 + 2) + 1 ≤ 4294967295 := by omega
    have hS1 : (min (max x.since 0) 1125899906842624 + later) + 1 ≤ 9223372036854775807 := by omega
    have hS0 : 0 ≤ (min (max x.since 0) 1125899906842624 + later) := by omega
    generalize pV ⟨f, a, s, q, p⟩ now all ⟨(x.id % 4000000000 + 1), (min (max x.since 0) 1125899906842624 + later), x.size, x.nice, x.qos, x.part, x.factor⟩ = pv at *
    generalize firstE ⟨f, a, s, q, p⟩ now all l = fe at *
    generalize firstV ⟨f, a, s, q, p⟩ now all l = fv at *
    go_enter Try.func8, Try.ntmps8
    go_wp2_with fail
    refine (KP.out _).mono ?_; rintro e w1 ⟨rfl, b1⟩
    have XW : Hid (Blk w1 w.heap.size #[.int .i64 f, .int .i64 a, .int .i64 s, .int .i64 q, .int .i64 p] 26) := ((((Blk.new _ _ _).old _).old _).old _).kept b1
    have XB : Hid (Blk w1 (w.heap.size + 1 + 1) #[.int .u32 (x.id % 4000000000 + 1), .int .i64 (min (max x.since 0) 1125899906842624 + later), .int .i64 x.size, .int .i64 x.nice, .int .i64 x.qos, .int .i64 x.part, .int .i64 x.factor] 29) := ((Blk.fresh _ _ _ _ (by simp)).old _).kept b1
    have XC : Hid (Blk w1 (w.heap.size + 1 + 1 + 1) #[.int .u32 (x.id % 4000000000 + 2), .int .i64 (min (max x.since 0) 1125899906842624 + later), .int .i64 x.size, .int .i64 x.nice, .int .i64 x.qos, .int .i64 x.part, .int .i64 x.factor] 29) := (Blk.fresh _ _ _ _ (by simp)).kept b1
    have BB := Lib.hid (below_next b1 (below4 _ _ _ _ _))
    clear b1 KP
    have hz1 : w.heap.size + 1 + 1 + 1 < w1.heap.size := XC.out.lt
    have hz1b : w.heap.size + 1 + 1 < w1.heap.size := by omega
    have hz1a : w.heap.size < w1.heap.size := by omega
    have g0 := XW.out.cell 0; simp at g0
    have g1 := XW.out.cell 1; simp at g1
    have g2 := XW.out.cell 2; simp at g2
    have g3 := XW.out.cell 3; simp at g3
    have g4 := XW.out.cell 4; simp at g4
    have m0 := XB.out.cell 0; simp at m0
    have m1 := XB.out.cell 1; simp at m1
    have m2 := XB.out.cell 2; simp at m2
    have m3 := XB.out.cell 3; simp at m3
    have m4 := XB.out.cell 4; simp at m4
    have m5 := XB.out.cell 5; simp at m5
    have m6 := XB.out.cell 6; simp at m6
    have n0 := XC.out.cell 0; simp at n0
    have n1 := XC.out.cell 1; simp at n1
    have n2 := XC.out.cell 2; simp at n2
    have n3 := XC.out.cell 3; simp at n3
    have n4 := XC.out.cell 4; simp at n4
    have n5 := XC.out.cell 5; simp at n5
    have n6 := XC.out.cell 6; simp at n6
    go_wp2_with fail
    refine (FC.out _ _ (acells_two (u := ⟨(x.id % 4000000000 + 2), (min (max x.since 0) 1125899906842624 + later), x.size, x.nice, x.qos, x.part, x.factor⟩) (v := ⟨(x.id % 4000000000 + 1), (min (max x.since 0) 1125899906842624 + later), x.size, x.nice, x.qos, x.part, x.factor⟩) (Blk.new _ _ _))).mono ?_; rintro e w2 ⟨rfl, b2⟩
    replace XW := Lib.hid ((XW.out.old _).kept b2)
    replace XB := Lib.hid ((XB.out.old _).kept b2)
    replace XC := Lib.hid ((XC.out.old _).kept b2)
    replace BB := Lib.hid (below_next b2 (BB.out.alloc BB.out.size _))
    clear b2 FC g0 g1 g2 g3 g4 m0 m1 m2 m3 m4 m5 m6 n0 n1 n2 n3 n4 n5 n6
    have hz2 : w.heap.size + 1 + 1 + 1 < w2.heap.size := XC.out.lt
    have hz2b : w.heap.size + 1 + 1 < w2.heap.size := by omega
    have hz2a : w.heap.size < w2.heap.size := by omega
    have g0 := XW.out.cell 0; simp at g0
    have g1 := XW.out.cell 1; simp at g1
    have g2 := XW.out.cell 2; simp at g2
    have g3 := XW.out.cell 3; simp at g3
    have g4 := XW.out.cell 4; simp at g4
    have m0 := XB.out.cell 0; simp at m0
    have m1 := XB.out.cell 1; simp at m1
    have m2 := XB.out.cell 2; simp at m2
    have m3 := XB.out.cell 3; simp at m3
    have m4 := XB.out.cell 4; simp at m4
    have m5 := XB.out.cell 5; simp at m5
    have m6 := XB.out.cell 6; simp at m6
    have n0 := XC.out.cell 0; simp at n0
    have n1 := XC.out.cell 1; simp at n1
    have n2 := XC.out.cell 2; simp at n2
    have n3 := XC.out.cell 3; simp at n3
    have n4 := XC.out.cell 4; simp at n4
    have n5 := XC.out.cell 5; simp at n5
    have n6 := XC.out.cell 6; simp at n6
    go_wp2_with fail
    refine (FD.out _ _ (acells_two (u := ⟨(x.id % 4000000000 + 2 + 1), ((min (max x.since 0) 1125899906842624 + later) + 1), x.size, x.nice, x.qos, x.part, x.factor⟩) (v := ⟨(x.id % 4000000000 + 1), (min (max x.since 0) 1125899906842624 + later), x.size, x.nice, x.qos, x.part, x.factor⟩) (Blk.fresh (w2.alloc _) _ _ (w2.heap.size + 1) (World.size_alloc _ _)))).mono ?_; rintro e w3 ⟨rfl, b3⟩
    replace XW := Lib.hid (((XW.out.old _).old _).kept b3)
    replace XB := Lib.hid (((XB.out.old _).old _).kept b3)
    replace BB := Lib.hid (below_next b3 ((BB.out.alloc BB.out.size _).alloc (by have := BB.out.size; simp; omega) _))
    clear b3 FD XC g0 g1 g2 g3 g4 m0 m1 m2 m3 m4 m5 m6 n0 n1 n2 n3 n4 n5 n6
    have g0 := XW.out.cell 0; simp at g0
    have g1 := XW.out.cell 1; simp at g1
    have g2 := XW.out.cell 2; simp at g2
    have g3 := XW.out.cell 3; simp at g3
    have g4 := XW.out.cell 4; simp at g4
    have m0 := XB.out.cell 0; simp at m0
    have m1 := XB.out.cell 1; simp at m1
    have m2 := XB.out.cell 2; simp at m2
    have m3 := XB.out.cell 3; simp at m3
    have m4 := XB.out.cell 4; simp at m4
    have m5 := XB.out.cell 5; simp at m5
    have m6 := XB.out.cell 6; simp at m6
    generalize (x.id % 4000000000 + 1) = ib at *
    generalize (min (max x.since 0) 1125899906842624 + later) = sb at *
    have qb : (ib != ib) = false := by simp
    go_wp2_with fail
    refine (FL.out _ _ (HR.out.kept BB.out)).mono ?_; rintro e w4 ⟨rfl, b4⟩
    replace XW := Lib.hid (XW.out.kept b4)
    replace BB := Lib.hid (below_next b4 BB.out)
    clear b4 XB FL g0 g1 g2 g3 g4 m0 m1 m2 m3 m4 m5 m6
    by_cases hfe : fe = 0
    · have FP1 := Lib.hid (FP.out hfe)
      subst hfe
      clear FP
      rcases HR.out.kept BB.out with ⟨el, a1, c1, hv, _⟩ | ⟨b, off, c1, hv, h0, _, hc2', hc⟩
      · injection hv with hv1 hv2 hv3
        subst el hv1 hv3
        clear hv2
        go_wp2_with fail
        refine wp_loop_rounds 1 ?_
        rw [rounds_succ]
        go_wp2_with fail
        refine (KN.out _).mono ?_; rintro e w5 ⟨rfl, b5⟩
        go_wp2_with fail
        go_ret
        exact ⟨rfl, below_next b5 BB.out⟩
      · injection hv with hv1 hv2 hv3
        subst hv1 hv3
        have HC := Lib.hid hc
        clear hv2 hc HR
        go_wp2_with fail
        go_loopw [24] (fun i wr => ∃ j : Nat, j ≤ l.length ∧ i = .int .i64 j ∧ Below w4.heap.size w4 wr) (fun i _ => l.length - (intOf i).toNat)
        case atStart => exact ⟨0, Nat.zero_le _, rfl, Below.refl _ _⟩
        case round =>
          obtain ⟨j, hj, rfl, hB⟩ := hrel
          have HB := Lib.hid hB
          clear hB
          by_cases hlt : j < l.length
          · have hlt' : decide (j < l.length) = true := decide_eq_true hlt
            have hlt2 : (j : Int) < l.length := by omega
            have cj := ((HC.out.kept HB.out).2 j hlt).1
            cases hq : ((aAt l j).id == fv)
            · have hne : (aAt l j).id ≠ fv := by simpa using hq
              have FP2 := Lib.hid (FP1.out j)
              have HNE := Lib.hid hne
              obtain ⟨u, hu⟩ : ∃ u, u = aAt l j := ⟨_, rfl⟩
              rw [← hu] at cj hq
              have HU := Lib.hid hu
              clear hne hu
              go_wp2_with fail
              go_loopw [25] (fun i wr2 => ∃ k : Nat, k ≤ l.length ∧ i = .int .i64 k ∧ Below w4.heap.size w4 wr2) (fun i _ => l.length - (intOf i).toNat)
              case atStart => exact ⟨0, Nat.zero_le _, rfl, HB.out⟩
              case round =>
                obtain ⟨k, hk, rfl, hB2⟩ := hrel
                have HB2 := Lib.hid hB2
                clear hB2 cj
                by_cases hkt : k < l.length
                · have hkt' : decide (k < l.length) = true := decide_eq_true hkt
                  have hkt2 : (k : Int) < l.length := by omega
                  obtain ⟨c0, c1', c2, c3, c4, c5, c6⟩ := (HC.out.kept HB2.out).2 j hlt
                  obtain ⟨d0, d1, d2, d3, d4, d5, d6⟩ := (HC.out.kept HB2.out).2 k hkt
                  cases hq2 : ((aAt l k).id == fv)
                  · clear c0 c1' c2 c3 c4 c5 c6 d1 d2 d3 d4 d5 d6
                    generalize aAt l k = v at *
                    go_wp2_with fail
                    go_roundw
                    case rel => exact ⟨k + 1, hkt, by go_num, HB2.out⟩
                    case measure => simp [intOf]; omega
                  · have FP3 := Lib.hid (FP2.out k hlt hkt HNE.out (by simpa using hq2))
                    rw [← HU.out] at c0 c1' c2 c3 c4 c5 c6 FP3
                    obtain ⟨v, hv⟩ : ∃ v, v = aAt l k := ⟨_, rfl⟩
                    rw [← hv] at d0 d1 d2 d3 d4 d5 d6 FP3 hq2
                    clear hv
                    have XW2 := XW.out.kept HB2.out
                    have g0 := XW2.cell 0; simp at g0
                    have g1 := XW2.cell 1; simp at g1
                    have g2 := XW2.cell 2; simp at g2
                    have g3 := XW2.cell 3; simp at g3
                    have g4 := XW2.cell 4; simp at g4
                    have qf : (fv != fv) = false := by simp
                    clear XW2
                    go_wp2_with fail
                    go_region_held3 (fun w' => w'.cell? ⟨w.heap.size, 0, none⟩ = some (.int .i64 f) ∧ w'.cell? ⟨w.heap.size, 1, none⟩ = some (.int .i64 a) ∧ w'.cell? ⟨w.heap.size, 2, none⟩ = some (.int .i64 s) ∧ w'.cell? ⟨w.heap.size, 3, none⟩ = some (.int .i64 q) ∧ w'.cell? ⟨w.heap.size, 4, none⟩ = some (.int .i64 p) ∧ w'.cell? ⟨b, off + j * 7, none⟩ = some (.int .u32 u.id) ∧ w'.cell? ⟨b, off + j * 7 + 1, none⟩ = some (.int .i64 u.since) ∧ w'.cell? ⟨b, off + j * 7 + 2, none⟩ = some (.int .i64 u.size) ∧ w'.cell? ⟨b, off + j * 7 + 3, none⟩ = some (.int .i64 u.nice) ∧ w'.cell? ⟨b, off + j * 7 + 4, none⟩ = some (.int .i64 u.qos) ∧ w'.cell? ⟨b, off + j * 7 + 5, none⟩ = some (.int .i64 u.part) ∧ w'.cell? ⟨b, off + j * 7 + 6, none⟩ = some (.int .i64 u.factor) ∧ w'.cell? ⟨b, off + k * 7, none⟩ = some (.int .u32 v.id) ∧ w'.cell? ⟨b, off + k * 7 + 1, none⟩ = some (.int .i64 v.since) ∧ w'.cell? ⟨b, off + k * 7 + 2, none⟩ = some (.int .i64 v.size) ∧ w'.cell? ⟨b, off + k * 7 + 3, none⟩ = some (.int .i64 v.nice) ∧ w'.cell? ⟨b, off + k * 7 + 4, none⟩ = some (.int .i64 v.qos) ∧ w'.cell? ⟨b, off + k * 7 + 5, none⟩ = some (.int .i64 v.part) ∧ w'.cell? ⟨b, off + k * 7 + 6, none⟩ = some (.int .i64 v.factor) ∧ Below w4.heap.size w4 w')
                      (first
                        | exact ⟨g0, g1, g2, g3, g4, c0, c1', c2, c3, c4, c5, c6, d0, d1, d2, d3, d4, d5, d6, HB2.out.drew⟩
                        | (rcases ‹_ ∧ _ ∧ _ ∧ _ ∧ _ ∧ _ ∧ _ ∧ _ ∧ _ ∧ _ ∧ _ ∧ _ ∧ _ ∧ _ ∧ _ ∧ _ ∧ _ ∧ _ ∧ _ ∧ Below _ _ _› with ⟨q0, q1, q2, q3, q4, q5, q6, q7, q8, q9, q10, q11, q12, q13, q14, q15, q16, q17, q18, q19⟩; exact ⟨Lib.cell?_alloc_some _ q0, Lib.cell?_alloc_some _ q1, Lib.cell?_alloc_some _ q2, Lib.cell?_alloc_some _ q3, Lib.cell?_alloc_some _ q4, Lib.cell?_alloc_some _ q5, Lib.cell?_alloc_some _ q6, Lib.cell?_alloc_some _ q7, Lib.cell?_alloc_some _ q8, Lib.cell?_alloc_some _ q9, Lib.cell?_alloc_some _ q10, Lib.cell?_alloc_some _ q11, Lib.cell?_alloc_some _ q12, Lib.cell?_alloc_some _ q13, Lib.cell?_alloc_some _ q14, Lib.cell?_alloc_some _ q15, Lib.cell?_alloc_some _ q16, Lib.cell?_alloc_some _ q17, Lib.cell?_alloc_some _ q18, q19.alloc q19.size _⟩)
                        | (rcases ‹_ ∧ _ ∧ _ ∧ _ ∧ _ ∧ _ ∧ _ ∧ _ ∧ _ ∧ _ ∧ _ ∧ _ ∧ _ ∧ _ ∧ _ ∧ _ ∧ _ ∧ _ ∧ _ ∧ Below _ _ _› with ⟨q0, q1, q2, q3, q4, q5, q6, q7, q8, q9, q10, q11, q12, q13, q14, q15, q16, q17, q18, q19⟩; exact ⟨cell_next (by assumption) q0, cell_next (by assumption) q1, cell_next (by assumption) q2, cell_next (by assumption) q3, cell_next (by assumption) q4, cell_next (by assumption) q5, cell_next (by assumption) q6, cell_next (by assumption) q7, cell_next (by assumption) q8, cell_next (by assumption) q9, cell_next (by assumption) q10, cell_next (by assumption) q11, cell_next (by assumption) q12, cell_next (by assumption) q13, cell_next (by assumption) q14, cell_next (by assumption) q15, cell_next (by assumption) q16, cell_next (by assumption) q17, cell_next (by assumption) q18, below_next (by assumption) q19⟩))
                      (first
                        | (go_at_call 21; ((refine (FP3.out _ _ (acells_two (u := u) (v := v) (Blk.drew (Blk.fresh _ _ _ _ rfl)))).mono ?_); rintro e w5 ⟨rfl, b5⟩)))
                    rcases ‹_ ∧ _ ∧ _ ∧ _ ∧ _ ∧ _ ∧ _ ∧ _ ∧ _ ∧ _ ∧ _ ∧ _ ∧ _ ∧ _ ∧ _ ∧ _ ∧ _ ∧ _ ∧ _ ∧ Below _ _ _› with ⟨_, _, _, _, _, _, _, _, _, _, _, _, _, _, _, _, _, _, _, B5⟩
                    go_wp2_with fail
                    go_roundw
                    case rel => exact ⟨k + 1, hkt, by go_num, B5⟩
                    case measure => simp [intOf]; omega
                · obtain rfl : k = l.length := by omega
                  have hkt' : decide (l.length < l.length) = false := decide_eq_false (by omega)
                  go_wp2_with fail
                  go_roundw
                  case rel => exact ⟨j + 1, hlt, by go_num, HB2.out⟩
                  case measure => simp [intOf]; omega
            · generalize aAt l j = u at *
              go_wp2_with fail
              go_roundw
              case rel => exact ⟨j + 1, hlt, by go_num, HB.out⟩
              case measure => simp [intOf]; omega
          · obtain rfl : j = l.length := by omega
            have hlt' : decide (l.length < l.length) = false := decide_eq_false (by omega)
            go_wp2_with fail
            refine (KN.out _).mono ?_; rintro e w5 ⟨rfl, b5⟩
            go_wp2_with fail
            go_ret
            exact ⟨rfl, below_next b5 (below_next HB.out BB.out)⟩
    · have tf : (fe != 0) = true := by simpa using hfe
      clear FP hfe
      go_wp2_with fail
      refine (KN.out _).mono ?_; rintro e w5 ⟨rfl, b5⟩
      go_wp2_with fail
      go_ret
      exact ⟨rfl, below_next b5 BB.out⟩
  · rw [hE] at KP
    clear F1g FL okOf okB okC okD iS iD hok hx0 hx2 hx3 hx4 hx5 hx6 h hnow hall hE hrow
    generalize pV ⟨f, a, s, q, p⟩ now all ⟨(x.id % 4000000000 + 1), (min (max x.since 0) 1125899906842624 + later), x.size, x.nice, x.qos, x.part, x.factor⟩ = pv at *
    go_enter Try.func8, Try.ntmps8
    go_wp2_with fail
    refine (KP.out _).mono ?_; rintro e w1 ⟨rfl, b1⟩
    have BB := Lib.hid (below_next b1 (below4 _ _ _ _ _))
    clear b1
    go_wp2_with fail
    refine (KN.out _).mono ?_; rintro e w5 ⟨rfl, b5⟩
    go_wp2_with fail
    go_ret
    exact ⟨rfl, below_next b5 BB.out⟩
end Go.Proofs.Ytjhabfhpjpkpbaa
