/-
  gangerlaw16.known.
-/
import Derived.Test.YtfobapnncjjeiaaGaW
import Derived.Test.YtfobapnncjjeiaaGaKp
namespace Go.Proofs.Ytfobapnncjjeiaa
open Go Go.ChangeShapes Go.WideShapes Go.ChangeAt Go.RowKit Go.Lib Go.Deep
set_option linter.unusedVariables false

theorem place_is {n : Nat} {l : List Ce} {id o : Nat} {c0 c : Ce} {er : Int} {l' : List Ce} (h0 : IsPlace n l id o (some c0)) (hid : id ≠ 0) (ho : o ≤ n) (h3 : ∀ c ∈ l, c.1 ≠ id) (h : PlaceR n l id (o : Int) c er l') : c = c0 ∧ er = 0 ∧ l' = insG l c0 := by
  cases h with
  | arg h => omega
  | twice h c hc h2 => exact absurd h2 (h3 c hc)
  | full o' h0' h1 h2 h3 h => 
    obtain rfl : o' = o := by omega
    have := h.det h0; cases this
  | ok o' h0' h1 h2 h3 c' h =>
    obtain rfl : o' = o := by omega
    have := h.det h0; injection this with this; subst this
    exact ⟨rfl, rfl, rfl⟩
theorem rem_is {l : List Ce} {a id k : Nat} {er : Int} {a' : Nat} {l' : List Ce} (h0 : IsFind l id (some k)) (h : RemR l a id er a' l') : er = 0 ∧ a' = remA (l.eraseIdx k) a ∧ l' = l.eraseIdx k := by
  cases h with
  | no h => have := h.det h0; cases this
  | yes k' h => have := h.det h0; injection this with this; subst this; exact ⟨rfl, rfl, rfl⟩
theorem find0 {c : Ce} {l : List Ce} : IsFind (c :: l) c.1 (some 0) := .inr ⟨0, by simp, rfl, rfl, fun j _ h => absurd h (Nat.not_lt_zero _)⟩
theorem GM.boxed {w : World} {m n a : Nat} {own : Nat → Prop} {l : List Ce} (h : GM w m own n a l) (o : Obj) : GM (w.alloc o) m (fun k => own k ∧ k ≠ w.heap.size) n a l := (h.gn.boxed o).gm h.act
theorem GM.minus {w w' : World} {m n a g : Nat} {own : Nat → Prop} {l : List Ce} (h : GM w m own n a l) (hb : Below w.heap.size w w') (h1 : w.heap.size ≤ g) (h2 : g < w'.heap.size) : GM w' m (fun k => own k ∧ k ≠ g) n a l := (h.gn.minus hb h1 h2).gm h.act
theorem k1_any (m : Nat) (own : Nat → Prop) (w : World) (h : GM w m own 2 0 []) : Calls Try.prog 29 #[.pointer (some ⟨m, 0, none⟩), .int .u32 1, .int .i64 1] w fun e w' => e = .returned (.tuple #[.agg #[.int .u32 1, .int .i64 0, .int .i64 0, .int .i64 1], .int .i64 0]) ∧ GM w' m own 2 0 [(1, 0, 0, 1)] ∧ Chg own w w' :=
  (gplace_any m 2 0 1 1 own [] w h (by decide)).mono (by
    rintro e w' ⟨c, er, l', rfl, hp, hg, hc⟩
    obtain ⟨rfl, rfl, rfl⟩ := place_is (o := 1) kp1 (by decide) (by decide) (by simp) hp
    rw [ki1] at hg
    exact ⟨rfl, hg, hc⟩)
theorem k2_any (m : Nat) (own : Nat → Prop) (w : World) (h : GM w m own 2 0 [(1, 0, 0, 1)]) : Calls Try.prog 29 #[.pointer (some ⟨m, 0, none⟩), .int .u32 2, .int .i64 2] w fun e w' => e = .returned (.tuple #[.agg #[.int .u32 2, .int .i64 1, .int .i64 0, .int .i64 2], .int .i64 0]) ∧ GM w' m own 2 0 [(1, 0, 0, 1), (2, 1, 0, 2)] ∧ Chg own w w' :=
  (gplace_any m 2 0 2 2 own _ w h (by decide)).mono (by
    rintro e w' ⟨c, er, l', rfl, hp, hg, hc⟩
    obtain ⟨rfl, rfl, rfl⟩ := place_is (o := 2) kp2 (by decide) (by decide) (by simp) hp
    rw [ki2] at hg
    exact ⟨rfl, hg, hc⟩)
theorem k3_any (m : Nat) (own : Nat → Prop) (w : World) (h : GM w m own 2 0 [(1, 0, 0, 1), (2, 1, 0, 2)]) : Calls Try.prog 29 #[.pointer (some ⟨m, 0, none⟩), .int .u32 3, .int .i64 1] w fun e w' => e = .returned (.tuple #[.agg #[.int .u32 3, .int .i64 0, .int .i64 2, .int .i64 1], .int .i64 0]) ∧ GM w' m own 2 0 [(1, 0, 0, 1), (3, 0, 2, 1), (2, 1, 0, 2)] ∧ Chg own w w' :=
  (gplace_any m 2 0 3 1 own _ w h (by decide)).mono (by
    rintro e w' ⟨c, er, l', rfl, hp, hg, hc⟩
    obtain ⟨rfl, rfl, rfl⟩ := place_is (o := 1) kp3 (by decide) (by decide) (by simp) hp
    rw [ki3] at hg
    exact ⟨rfl, hg, hc⟩)
theorem k4_any (m : Nat) (own : Nat → Prop) (w : World) (h : GM w m own 2 0 [(1, 0, 0, 1), (3, 0, 2, 1), (2, 1, 0, 2)]) : Calls Try.prog 30 #[.pointer (some ⟨m, 0, none⟩), .int .u32 1] w fun e w' => e = .returned (.int .i64 0) ∧ GM w' m own 2 0 [(3, 0, 2, 1), (2, 1, 0, 2)] ∧ Chg own w w' :=
  (gremove_any m 2 0 1 own _ w h).mono (by
    rintro e w' ⟨er, a', l', rfl, hp, hg, hc⟩
    obtain ⟨rfl, rfl, rfl⟩ := rem_is (find0 (c := (1, 0, 0, 1))) hp
    exact ⟨rfl, hg, hc⟩)
theorem k5_any (m : Nat) (own : Nat → Prop) (w : World) (h : GM w m own 2 0 [(3, 0, 2, 1), (2, 1, 0, 2)]) : Calls Try.prog 27 #[.pointer (some ⟨m, 0, none⟩)] w fun e w' => e = .returned (.tuple #[]) ∧ GM w' m own 2 1 [(3, 0, 2, 1), (2, 1, 0, 2)] ∧ Chg own w w' :=
  turn_any m 2 0 own _ w h
theorem k6_any (m : Nat) (own : Nat → Prop) (w : World) (h : GM w m own 2 1 [(3, 0, 2, 1), (2, 1, 0, 2)]) : Calls Try.prog 30 #[.pointer (some ⟨m, 0, none⟩), .int .u32 3] w fun e w' => e = .returned (.int .i64 0) ∧ GM w' m own 2 1 [(2, 1, 0, 2)] ∧ Chg own w w' :=
  (gremove_any m 2 1 3 own _ w h).mono (by
    rintro e w' ⟨er, a', l', rfl, hp, hg, hc⟩
    obtain ⟨rfl, rfl, rfl⟩ := rem_is (find0 (c := (3, 0, 2, 1))) hp
    exact ⟨rfl, hg, hc⟩)
theorem k7_any (m : Nat) (own : Nat → Prop) (w : World) (h : GM w m own 2 1 [(2, 1, 0, 2)]) : Calls Try.prog 28 #[.pointer (some ⟨m, 0, none⟩)] w fun e w' => e = .returned (.int .i64 1) ∧ GM w' m own 2 0 [(2, 0, 0, 2)] ∧ Chg own w w' :=
  (unify_any m 2 1 own _ w h).mono (by
    rintro e w' ⟨l', d, rfl, hu, hg, hc⟩
    obtain ⟨rfl, rfl⟩ := ku_step hu
    exact ⟨rfl, hg, hc⟩)
theorem kruns {m a : Nat} {own : Nat → Prop} {l : List Ce} (w : World) (h : GM w m own 2 a l) (xs : List Nat) (hx : ∀ ys : List Nat, ys.Perm (ids (runsG l a)) → ys.Pairwise (· ≤ ·) → ys = xs) (hl : (runsG l a).length ≤ 12) :
    Calls Try.prog 15 #[.pointer (some ⟨m, 0, none⟩)] w fun e w' => (∃ v, e = .returned v ∧ UOwn w' w.heap.size v xs) ∧ Below w.heap.size w w' :=
  (runs_any 12 m 2 a own l w h.gn h.act sort12 hl).mono (by
    rintro e w' ⟨⟨v, ys, rfl, hp, hs, ho⟩, hb⟩
    obtain rfl := hx ys hp hs
    exact ⟨⟨v, rfl, ho⟩, hb⟩)
theorem kr_a (m : Nat) (own : Nat → Prop) (w : World) (h : GM w m own 2 0 [(1, 0, 0, 1), (3, 0, 2, 1), (2, 1, 0, 2)]) : Calls Try.prog 15 #[.pointer (some ⟨m, 0, none⟩)] w fun e w' => (∃ v, e = .returned v ∧ UOwn w' w.heap.size v [1, 3]) ∧ Below w.heap.size w w' :=
  kruns w h [1, 3] (fun ys hp hs => by rw [kr1] at hp; exact perm_two (by decide) hp hs) (by rw [kr1]; decide)
theorem kr_b (m : Nat) (own : Nat → Prop) (w : World) (h : GM w m own 2 0 [(3, 0, 2, 1), (2, 1, 0, 2)]) : Calls Try.prog 15 #[.pointer (some ⟨m, 0, none⟩)] w fun e w' => (∃ v, e = .returned v ∧ UOwn w' w.heap.size v [3]) ∧ Below w.heap.size w w' :=
  kruns w h [3] (fun ys hp hs => by rw [kr2] at hp; exact perm_one hp) (by rw [kr2]; decide)
theorem kr_c (m : Nat) (own : Nat → Prop) (w : World) (h : GM w m own 2 1 [(3, 0, 2, 1), (2, 1, 0, 2)]) : Calls Try.prog 15 #[.pointer (some ⟨m, 0, none⟩)] w fun e w' => (∃ v, e = .returned v ∧ UOwn w' w.heap.size v [2]) ∧ Below w.heap.size w w' :=
  kruns w h [2] (fun ys hp hs => by rw [kr3] at hp; exact perm_one hp) (by rw [kr3]; decide)
theorem rowG_of_blk {α : Type} {s : Nat} {enc : α → List Value} (hs : ∀ x, (enc x).length = s) {w : World} {g : Nat} {t : TypeId} {l : List α} {m : Nat} (hm : l.length = m) (h : Blk w g (l.flatMap enc).toArray t) (h0 : 0 < m) (c : Nat) : RowG s enc w (.slice (some ⟨g, 0, none⟩) m c) l := by
  subst hm
  refine .inr ⟨g, 0, c, rfl, h0, fun i hi j u hu => ?_⟩
  have hj : j < s := by have := (List.getElem?_eq_some_iff.1 hu).1; rw [hs] at this; exact this
  rw [Nat.zero_add, h.cell, ← Array.getElem?_toList]
  exact (flatG_get hs l i hi j hj).trans hu
/-- Runs' answer against a row that the law wrote. -/
theorem same_lit {va : Value} {xs : List Nat} {g k : Nat} {w : World} (h1 : URow w va xs) (hB : Blk w g (uL xs).toArray 32) (hk : xs.length = k) (h0 : 0 < k) (h2 : k ≤ 1000) :
    Calls Try.prog 22 #[va, .slice (some ⟨g, 0, none⟩) k k] w fun e w' => e = .returned (.bool true) ∧ Below w.heap.size w w' := by
  subst hk
  have h := samejobs_any va _ xs xs w h1 (rowG_of_blk (s := 1) (enc := uV) (l := xs) (m := xs.length) uV_len rfl hB h0 xs.length) (by omega) (by omega)
  rwa [decide_eq_true rfl] at h
attribute [local go_sem ↓] ce_eql ce_neq ce_grd
set_option maxRecDepth 100000 in
set_option maxHeartbeats 8000000 in
theorem known16_any (w : World) : Calls Try.prog 10 #[] w fun e w' => e = .returned (.bool true) ∧ Below w.heap.size w w' := by
  have NW := Lib.hid (gnew_ok 2 w (by omega) w.heap.size (Nat.le_refl _))
  go_enter Try.func10, Try.ntmps10
  go_wp2_with fail
  refine NW.out.mono ?_; rintro e w1 ⟨⟨m, rfl, hmlo, hg1⟩, b1⟩
  obtain ⟨o1, hown⟩ : ∃ own : Nat → Prop, own = fun k => w.heap.size ≤ k := ⟨_, rfl⟩
  rw [← hown] at hg1
  have HO1 : Hid (∀ k, o1 k → w.heap.size ≤ k) := fun k => by rw [hown]; exact id
  have HG1 := Lib.hid hg1
  have HB1 := Lib.hid b1
  clear hown hmlo hg1 b1 NW
  have P := Lib.hid (k1_any m o1 w1 HG1.out)
  go_wp2_with fail
  refine P.out.mono ?_; rintro e w2 ⟨rfl, hg, hc⟩
  have HGn := Lib.hid hg
  have HBn := Lib.hid (HB1.out.trans (hc.to_below HB1.out.size (fun k hk h => by have := HO1.out k h; omega)))
  clear hg hc P HG1 HB1 
  go_upto_region 5 with fail
  obtain ⟨g2, hg2⟩ : ∃ g, g = w2.heap.size := ⟨_, rfl⟩
  obtain ⟨X2, hX⟩ : ∃ x, x = w2.alloc (.cells #[.int .u32 1, .int .i64 0, .int .i64 0, .int .i64 1] 48) := ⟨_, rfl⟩
  obtain ⟨o2, ho⟩ : ∃ own : Nat → Prop, own = fun k => o1 k ∧ k ≠ g2 := ⟨_, rfl⟩
  have HG2 : Hid (GM X2 m o2 2 0 [(1, 0, 0, 1)]) := by unfold Hid; rw [ho, hX, hg2]; exact HGn.out.boxed _
  have HB2 : Hid (Below w.heap.size w X2) := by unfold Hid; rw [hX]; exact HBn.out.alloc HBn.out.size _
  have HO2 : Hid (∀ k, o2 k → w.heap.size ≤ k) := fun k h => by rw [ho] at h; exact HO1.out k h.1
  have Ng22 : Hid (¬ o2 g2) := fun h => by rw [ho] at h; exact h.2 rfl
  have Bg22 : Hid (Blk X2 g2 #[.int .u32 1, .int .i64 0, .int .i64 0, .int .i64 1] 48) := by unfold Hid; rw [hX, hg2]; exact Blk.new _ _ _
  rw [← hg2, ← hX]
  clear hg2 hX ho HGn HBn HO1 
  have P := Lib.hid (k2_any m o2 X2 HG2.out)
  go_wp2_with fail
  refine P.out.mono ?_; rintro e w3 ⟨rfl, hg, hc⟩
  have HGn := Lib.hid hg
  have HBn := Lib.hid (HB2.out.trans (hc.to_below HB2.out.size (fun k hk h => by have := HO2.out k h; omega)))
  have Bg22' := Lib.hid (Bg22.out.chgC hc Ng22.out)
  clear hg hc P HG2 HB2 Bg22
  go_upto_region 6 with fail
  obtain ⟨g3, hg2⟩ : ∃ g, g = w3.heap.size := ⟨_, rfl⟩
  obtain ⟨X3, hX⟩ : ∃ x, x = w3.alloc (.cells #[.int .u32 2, .int .i64 1, .int .i64 0, .int .i64 2] 48) := ⟨_, rfl⟩
  obtain ⟨o3, ho⟩ : ∃ own : Nat → Prop, own = fun k => o2 k ∧ k ≠ g3 := ⟨_, rfl⟩
  have HG3 : Hid (GM X3 m o3 2 0 [(1, 0, 0, 1), (2, 1, 0, 2)]) := by unfold Hid; rw [ho, hX, hg2]; exact HGn.out.boxed _
  have HB3 : Hid (Below w.heap.size w X3) := by unfold Hid; rw [hX]; exact HBn.out.alloc HBn.out.size _
  have HO3 : Hid (∀ k, o3 k → w.heap.size ≤ k) := fun k h => by rw [ho] at h; exact HO2.out k h.1
  have Ng23 : Hid (¬ o3 g2) := fun h => by rw [ho] at h; exact Ng22.out h.1
  have Bg23 : Hid (Blk X3 g2 #[.int .u32 1, .int .i64 0, .int .i64 0, .int .i64 1] 48) := by unfold Hid; rw [hX]; exact Bg22'.out.old _
  have Ng33 : Hid (¬ o3 g3) := fun h => by rw [ho] at h; exact h.2 rfl
  have Bg33 : Hid (Blk X3 g3 #[.int .u32 2, .int .i64 1, .int .i64 0, .int .i64 2] 48) := by unfold Hid; rw [hX, hg2]; exact Blk.new _ _ _
  rw [← hg2, ← hX]
  clear hg2 hX ho HGn HBn HO2 Ng22 Bg22'
  have P := Lib.hid (k3_any m o3 X3 HG3.out)
  go_wp2_with fail
  refine P.out.mono ?_; rintro e w4 ⟨rfl, hg, hc⟩
  have HGn := Lib.hid hg
  have HBn := Lib.hid (HB3.out.trans (hc.to_below HB3.out.size (fun k hk h => by have := HO3.out k h; omega)))
  have Bg23' := Lib.hid (Bg23.out.chgC hc Ng23.out)
  have Bg33' := Lib.hid (Bg33.out.chgC hc Ng33.out)
  clear hg hc P HG3 HB3 Bg23 Bg33
  go_upto_region 7 with fail
  obtain ⟨g4, hg2⟩ : ∃ g, g = w4.heap.size := ⟨_, rfl⟩
  obtain ⟨X4, hX⟩ : ∃ x, x = w4.alloc (.cells #[.int .u32 3, .int .i64 0, .int .i64 2, .int .i64 1] 48) := ⟨_, rfl⟩
  obtain ⟨o4, ho⟩ : ∃ own : Nat → Prop, own = fun k => o3 k ∧ k ≠ g4 := ⟨_, rfl⟩
  have HG4 : Hid (GM X4 m o4 2 0 [(1, 0, 0, 1), (3, 0, 2, 1), (2, 1, 0, 2)]) := by unfold Hid; rw [ho, hX, hg2]; exact HGn.out.boxed _
  have HB4 : Hid (Below w.heap.size w X4) := by unfold Hid; rw [hX]; exact HBn.out.alloc HBn.out.size _
  have HO4 : Hid (∀ k, o4 k → w.heap.size ≤ k) := fun k h => by rw [ho] at h; exact HO3.out k h.1
  have Ng24 : Hid (¬ o4 g2) := fun h => by rw [ho] at h; exact Ng23.out h.1
  have Bg24 : Hid (Blk X4 g2 #[.int .u32 1, .int .i64 0, .int .i64 0, .int .i64 1] 48) := by unfold Hid; rw [hX]; exact Bg23'.out.old _
  have Ng34 : Hid (¬ o4 g3) := fun h => by rw [ho] at h; exact Ng33.out h.1
  have Bg34 : Hid (Blk X4 g3 #[.int .u32 2, .int .i64 1, .int .i64 0, .int .i64 2] 48) := by unfold Hid; rw [hX]; exact Bg33'.out.old _
  have Ng44 : Hid (¬ o4 g4) := fun h => by rw [ho] at h; exact h.2 rfl
  have Bg44 : Hid (Blk X4 g4 #[.int .u32 3, .int .i64 0, .int .i64 2, .int .i64 1] 48) := by unfold Hid; rw [hX, hg2]; exact Blk.new _ _ _
  rw [← hg2, ← hX]
  clear hg2 hX ho HGn HBn HO3 Ng23 Bg23' Ng33 Bg33'
  have P := Lib.hid (kr_a m o4 X4 HG4.out)
  go_wp2_with fail
  refine P.out.mono ?_; rintro e R1 ⟨⟨v1, rfl, ov⟩, b⟩
  obtain ⟨a1, c1, rfl⟩ := own_slice ov
  have HR := Lib.hid (urow_of_own ov)
  have HGr := Lib.hid (HG4.out.kept b)
  have HBr := Lib.hid (below_next b HB4.out)
  have RBg24 := Lib.hid (Bg24.out.kept b)
  have RBg34 := Lib.hid (Bg34.out.kept b)
  have RBg44 := Lib.hid (Bg44.out.kept b)
  clear ov b P HG4 HB4 Bg24 Bg34 Bg44
  dsimp only [List.length]
  go_wp2_with fail
  have bS : Below R1.heap.size R1 (R1.alloc (.cells #[.int .u32 1, .int .u32 3] 32)) := (Below.refl _ _).alloc (Nat.le_refl _) _
  refine (same_lit (xs := [1, 3]) (k := 2) (HR.out.kept bS) (Blk.new R1 #[.int .u32 1, .int .u32 3] 32) rfl (by decide) (by decide)).mono ?_; rintro e S1 ⟨rfl, b⟩
  have b2 := below_next b bS
  have HG4s := Lib.hid (HGr.out.kept b2)
  have HB4s := Lib.hid (below_next b2 HBr.out)
  have Bg24s := Lib.hid (RBg24.out.kept b2)
  have Bg34s := Lib.hid (RBg34.out.kept b2)
  have Bg44s := Lib.hid (RBg44.out.kept b2)
  clear b b2 bS HR HGr HBr RBg24 RBg34 RBg44
  have P := Lib.hid (k4_any m o4 S1 HG4s.out)
  go_wp2_with fail
  refine P.out.mono ?_; rintro e T1 ⟨rfl, hg, hc⟩
  have HG4st := Lib.hid hg
  have HB4st := Lib.hid (HB4s.out.trans (hc.to_below HB4s.out.size (fun k hk h => by have := HO4.out k h; omega)))
  have Bg24st := Lib.hid (Bg24s.out.chgC hc Ng24.out)
  have Bg34st := Lib.hid (Bg34s.out.chgC hc Ng34.out)
  have Bg44st := Lib.hid (Bg44s.out.chgC hc Ng44.out)
  clear hg hc P HG4s HB4s Bg24s Bg34s Bg44s
  have P := Lib.hid (kr_b m o4 T1 HG4st.out)
  go_wp2_with fail
  refine P.out.mono ?_; rintro e R2 ⟨⟨v2, rfl, ov⟩, b⟩
  obtain ⟨a2, c2, rfl⟩ := own_slice ov
  have HR := Lib.hid (urow_of_own ov)
  have HGr := Lib.hid (HG4st.out.kept b)
  have HBr := Lib.hid (below_next b HB4st.out)
  have RBg24st := Lib.hid (Bg24st.out.kept b)
  have RBg34st := Lib.hid (Bg34st.out.kept b)
  have RBg44st := Lib.hid (Bg44st.out.kept b)
  clear ov b P HG4st HB4st Bg24st Bg34st Bg44st
  dsimp only [List.length]
  go_wp2_with fail
  have bS : Below R2.heap.size R2 (R2.alloc (.cells #[.int .u32 3] 32)) := (Below.refl _ _).alloc (Nat.le_refl _) _
  refine (same_lit (xs := [3]) (k := 1) (HR.out.kept bS) (Blk.new R2 #[.int .u32 3] 32) rfl (by decide) (by decide)).mono ?_; rintro e S2 ⟨rfl, b⟩
  have b2 := below_next b bS
  have HG4sts := Lib.hid (HGr.out.kept b2)
  have HB4sts := Lib.hid (below_next b2 HBr.out)
  have Bg24sts := Lib.hid (RBg24st.out.kept b2)
  have Bg34sts := Lib.hid (RBg34st.out.kept b2)
  have Bg44sts := Lib.hid (RBg44st.out.kept b2)
  clear b b2 bS HR HGr HBr RBg24st RBg34st RBg44st
  have P := Lib.hid (k5_any m o4 S2 HG4sts.out)
  go_wp2_with fail
  refine P.out.mono ?_; rintro e T2 ⟨rfl, hg, hc⟩
  have HG4stst := Lib.hid hg
  have HB4stst := Lib.hid (HB4sts.out.trans (hc.to_below HB4sts.out.size (fun k hk h => by have := HO4.out k h; omega)))
  have Bg24stst := Lib.hid (Bg24sts.out.chgC hc Ng24.out)
  have Bg34stst := Lib.hid (Bg34sts.out.chgC hc Ng34.out)
  have Bg44stst := Lib.hid (Bg44sts.out.chgC hc Ng44.out)
  clear hg hc P HG4sts HB4sts Bg24sts Bg34sts Bg44sts
  have P := Lib.hid (kr_c m o4 T2 HG4stst.out)
  go_wp2_with fail
  refine P.out.mono ?_; rintro e R3 ⟨⟨v3, rfl, ov⟩, b⟩
  obtain ⟨a3, c3, rfl⟩ := own_slice ov
  have HR := Lib.hid (urow_of_own ov)
  have HGr := Lib.hid (HG4stst.out.kept b)
  have HBr := Lib.hid (below_next b HB4stst.out)
  have RBg24stst := Lib.hid (Bg24stst.out.kept b)
  have RBg34stst := Lib.hid (Bg34stst.out.kept b)
  have RBg44stst := Lib.hid (Bg44stst.out.kept b)
  clear ov b P HG4stst HB4stst Bg24stst Bg34stst Bg44stst
  dsimp only [List.length]
  go_wp2_with fail
  have bS : Below R3.heap.size R3 (R3.alloc (.cells #[.int .u32 2] 32)) := (Below.refl _ _).alloc (Nat.le_refl _) _
  refine (same_lit (xs := [2]) (k := 1) (HR.out.kept bS) (Blk.new R3 #[.int .u32 2] 32) rfl (by decide) (by decide)).mono ?_; rintro e S3 ⟨rfl, b⟩
  have b2 := below_next b bS
  have HG4ststs := Lib.hid (HGr.out.kept b2)
  have HB4ststs := Lib.hid (below_next b2 HBr.out)
  have Bg24ststs := Lib.hid (RBg24stst.out.kept b2)
  have Bg34ststs := Lib.hid (RBg34stst.out.kept b2)
  have Bg44ststs := Lib.hid (RBg44stst.out.kept b2)
  clear b b2 bS HR HGr HBr RBg24stst RBg34stst RBg44stst
  have P := Lib.hid (k6_any m o4 S3 HG4ststs.out)
  go_wp2_with fail
  refine P.out.mono ?_; rintro e T3 ⟨rfl, hg, hc⟩
  have HG4ststst := Lib.hid hg
  have HB4ststst := Lib.hid (HB4ststs.out.trans (hc.to_below HB4ststs.out.size (fun k hk h => by have := HO4.out k h; omega)))
  have Bg24ststst := Lib.hid (Bg24ststs.out.chgC hc Ng24.out)
  have Bg34ststst := Lib.hid (Bg34ststs.out.chgC hc Ng34.out)
  have Bg44ststst := Lib.hid (Bg44ststs.out.chgC hc Ng44.out)
  clear hg hc P HG4ststs HB4ststs Bg24ststs Bg34ststs Bg44ststs
  have P := Lib.hid (k7_any m o4 T3 HG4ststst.out)
  go_wp2_with fail
  refine P.out.mono ?_; rintro e T4 ⟨rfl, hg, hc⟩
  have HG4stststt := Lib.hid hg
  have HB4stststt := Lib.hid (HB4ststst.out.trans (hc.to_below HB4ststst.out.size (fun k hk h => by have := HO4.out k h; omega)))
  have Bg24stststt := Lib.hid (Bg24ststst.out.chgC hc Ng24.out)
  have Bg34stststt := Lib.hid (Bg34ststst.out.chgC hc Ng34.out)
  have Bg44stststt := Lib.hid (Bg44ststst.out.chgC hc Ng44.out)
  clear hg hc P HG4ststst HB4ststst Bg24ststst Bg34ststst Bg44ststst
  have x00 := Bg24stststt.out.cell 0
  have x01 := Bg24stststt.out.cell 1
  have x02 := Bg24stststt.out.cell 2
  have x03 := Bg24stststt.out.cell 3
  have x10 := Bg34stststt.out.cell 0
  have x11 := Bg34stststt.out.cell 1
  have x12 := Bg34stststt.out.cell 2
  have x13 := Bg34stststt.out.cell 3
  have x20 := Bg44stststt.out.cell 0
  have x21 := Bg44stststt.out.cell 1
  have x22 := Bg44stststt.out.cell 2
  have x23 := Bg44stststt.out.cell 3
  simp at x00 x01 x02 x03 x10 x11 x12 x13 x20 x21 x22 x23
  have PR : Hid (∀ wq, Below T4.heap.size T4 wq → Calls Try.prog 17 #[.pointer (some ⟨m, 0, none⟩)] wq fun e w' => e = .returned (.int .i64 1) ∧ Below wq.heap.size wq w') := fun wq hb => rows_any m 2 0 o4 _ wq (HG4stststt.out.kept hb).gn
  have PA : Hid (∀ wq, Below T4.heap.size T4 wq → Calls Try.prog 19 #[.pointer (some ⟨m, 0, none⟩)] wq fun e w' => e = .returned (.int .i64 0) ∧ Below wq.heap.size wq w') := fun wq hb => active_any m 2 0 o4 _ wq (HG4stststt.out.kept hb).gn
  clear HG4stststt Bg24stststt Ng24 Bg34stststt Ng34 Bg44stststt Ng44
  have q1 : eqC 1 0 0 1 1 0 0 1 = true := by decide
  have q2 : eqC 3 0 2 1 3 0 2 1 = true := by decide
  go_upto_region 14 with fail
  go_wp2_with fail
  refine (PR.out _ (Below.refl _ _)).mono ?_; rintro e w8 ⟨rfl, b8⟩
  have PA2 := Lib.hid (PA.out _ b8)
  have HB8 := Lib.hid (below_next b8 HB4stststt.out)
  clear b8 PA PR
  go_wp2_with fail
  refine PA2.out.mono ?_; rintro e w9 ⟨rfl, b9⟩
  have HB9 := below_next b9 HB8.out
  clear b9 PA2
  go_wp2_with fail
  go_ret
  exact ⟨rfl, HB9⟩
end Go.Proofs.Ytfobapnncjjeiaa
