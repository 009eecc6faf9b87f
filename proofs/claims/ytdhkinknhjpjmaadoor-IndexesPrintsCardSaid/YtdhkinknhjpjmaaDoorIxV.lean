/-
  gangerlaw06.known: in any world.
-/
import Derived.Test.YtdhkinknhjpjmaaDoorIxU
import Derived.Test.YtdhkinknhjpjmaaDoorIxL
import Derived.Deep.CutRange
namespace Go.Proofs.YtdhkinknhjpjmaaDoor
open Go Go.RowKit Go.Lib
set_option linter.unusedVariables false

/-- Parse, as a walk takes it. -/
theorem parse_at (s : ByteArray) (w : World) (hs : s.size ≤ 4000000000) (l : List Nat) (m p : Nat) (q : Int) (h : mostO (parseM s.data.toList) = m ∧ posO (parseM s.data.toList) = p ∧ errO (parseM s.data.toList) = q ∧ listO (parseM s.data.toList) = l) :
    Calls Tryd.prog 11 #[.string s] w fun e w' => (∃ a c, e = .returned (.tuple #[.agg #[.slice a l.length c, .int .i64 m], .int .i64 p, .int .i64 q]) ∧ NOwn w' w.heap.size (.slice a l.length c) (ofN l)) ∧ Below w.heap.size w w' := by
  refine (parse_any s w hs).mono ?_
  rintro e w' ⟨⟨v, rfl, ho⟩, hb⟩
  obtain ⟨h1, h2, h3, h4⟩ := h
  rw [h4] at ho
  obtain ⟨a, c, hv⟩ := own_slice ho
  rw [ofN_len] at hv
  subst hv
  rw [h1, h2, h3]
  exact ⟨⟨a, c, rfl, ho⟩, hb⟩
set_option maxRecDepth 100000 in
set_option maxHeartbeats 4000000 in
theorem known_any (w : World) (hE : TabW w) : Calls Tryd.prog 10 #[] w fun e w' => e = .returned (.bool true) ∧ Below w.heap.size w w' := by
  have htab0 := Lib.hid hE
  have P1 := Lib.hid (parse_at ⟨#[48, 45, 56, 58, 52, 44, 50, 48, 37, 51]⟩ w (by decide) [0, 4, 8, 20] 3 0 0 ⟨k1_rest.1, k1_rest.2.1, k1_rest.2.2, k1_list⟩)
  have P2 : Hid (∀ w, Calls Tryd.prog 11 #[.string ⟨#[49, 44, 44, 50]⟩] w fun e w' => (∃ a c, e = .returned (.tuple #[.agg #[.slice a 0 c, .int .i64 0], .int .i64 2, .int .i64 60]) ∧ NOwn w' w.heap.size (.slice a 0 c) (ofN [])) ∧ Below w.heap.size w w') := fun w => parse_at ⟨#[49, 44, 44, 50]⟩ w (by decide) [] 0 2 60 k2_rest
  have P3 : Hid (∀ w, Calls Tryd.prog 11 #[.string ⟨#[53, 45, 51]⟩] w fun e w' => (∃ a c, e = .returned (.tuple #[.agg #[.slice a 0 c, .int .i64 0], .int .i64 0, .int .i64 2]) ∧ NOwn w' w.heap.size (.slice a 0 c) (ofN [])) ∧ Below w.heap.size w w') := fun w => parse_at ⟨#[53, 45, 51]⟩ w (by decide) [] 0 0 2 k3_rest
  have PR : Hid (∀ (w : World) (g : Nat), TabW w → Blk w g #[.int .i64 1, .int .i64 2, .int .i64 3, .int .i64 7] 3 → Calls Tryd.prog 15 #[.agg #[.slice (some ⟨g, 0, none⟩) 4 4, .int .i64 0]] w fun e w' => e = .returned (.tuple #[.string ⟨#[49, 45, 51, 44, 55]⟩, .int .i64 0]) ∧ Below w.heap.size w w') := fun w g ht hb => by
    have := print_any (.slice (some ⟨g, 0, none⟩) 4 4) [1, 2, 3, 7] 0 w (by decide) ht (.inr ⟨g, 0, 4, rfl, by decide, by decide, by decide, hb.lt, fun j hj => by
      have hj' : j < 4 := hj
      rcases (by omega : j = 0 ∨ j = 1 ∨ j = 2 ∨ j = 3) with rfl | rfl | rfl | rfl <;> exact hb.cell _⟩)
    rw [k4_print, checkZ_ok k4_ok] at this
    exact this
  have SM : Hid (∀ (w : World) (g : Nat) (a : Option Addr) (c : Nat), NRow w (.slice a 4 c) [0, 4, 8, 20] → Blk w g #[.int .i64 0, .int .i64 4, .int .i64 8, .int .i64 20] 3 → Calls Tryd.prog 13 #[.agg #[.slice a 4 c, .int .i64 3], .agg #[.slice (some ⟨g, 0, none⟩) 4 4, .int .i64 3]] w fun e w' => e = .returned (.bool true) ∧ Below w.heap.size w w') := fun w g a c hr hb =>
    same_any (.slice a 4 c) (.slice (some ⟨g, 0, none⟩) 4 4) [0, 4, 8, 20] [0, 4, 8, 20] 3 3 w (by decide) (by decide) hr (.inr ⟨g, 0, 4, rfl, by decide, by decide, by decide, hb.lt, fun j hj => by
      have hj' : j < 4 := hj
      rcases (by omega : j = 0 ∨ j = 1 ∨ j = 2 ∨ j = 3) with rfl | rfl | rfl | rfl <;> exact hb.cell _⟩)
  clear hE
  go_enter Tryd.func10, Tryd.ntmps10
  go_wp2_with fail
  refine P1.out.mono ?_; rintro e w1 ⟨⟨a1, c1, rfl, o1⟩, b1⟩
  have z1 : w.heap.size ≤ w1.heap.size := b1.size
  have hA := Lib.hid (Blk.new w1 #[.slice a1 4 c1, .int .i64 3] 25)
  have x1 := (Below.refl w1.heap.size w1).alloc (Nat.le_refl _) (.cells #[.slice a1 4 c1, .int .i64 3] 25)
  have R1 : Hid (NRow (w1.alloc (.cells #[.slice a1 4 c1, .int .i64 3] 25)) (.slice a1 4 c1) [0, 4, 8, 20]) := (nrow_of_own o1).kept x1
  have B1 := Lib.hid (below_next x1 b1)
  obtain ⟨g1, hg1⟩ : ∃ g1, g1 = w1.heap.size := ⟨_, rfl⟩
  rw [← hg1] at hA
  clear o1 b1 x1 P1
  go_wp2_with fail
  rw [← hg1]
  generalize w1.alloc (.cells #[.slice a1 4 c1, .int .i64 3] 25) = W1 at *
  clear hg1
  refine (P2.out W1).mono ?_; rintro e w2 ⟨⟨a2, c2, rfl, o2⟩, b2⟩
  have x2 := (Below.refl w2.heap.size w2).alloc (Nat.le_refl _) (.cells #[.slice a2 0 c2, .int .i64 0] 25)
  have y2 := below_next x2 b2
  have A2 := Lib.hid (hA.out.kept y2)
  have R2 := Lib.hid (R1.out.kept y2)
  have B2 := Lib.hid (below_next y2 B1.out)
  clear o2 b2 x2 y2 P2 hA R1 B1
  go_wp2_with fail
  generalize w2.alloc (.cells #[.slice a2 0 c2, .int .i64 0] 25) = W2 at *
  refine (P3.out W2).mono ?_; rintro e w3 ⟨⟨a3, c3, rfl, o3⟩, b3⟩
  have x3 := (Below.refl w3.heap.size w3).alloc (Nat.le_refl _) (.cells #[.slice a3 0 c3, .int .i64 0] 25)
  have y3 := below_next x3 b3
  have A3 := Lib.hid (A2.out.kept y3)
  have R3 := Lib.hid (R2.out.kept y3)
  have B3 := Lib.hid (below_next y3 B2.out)
  clear o3 b3 x3 y3 P3 A2 R2 B2
  have ROWS : Hid (∀ (W : World), Below W.heap.size W (W.alloc (.cells #[.int .i64 1, .int .i64 2, .int .i64 3, .int .i64 7] 3)) ∧ Blk (W.alloc (.cells #[.int .i64 1, .int .i64 2, .int .i64 3, .int .i64 7] 3)) W.heap.size #[.int .i64 1, .int .i64 2, .int .i64 3, .int .i64 7] 3) := fun W => ⟨(Below.refl _ W).alloc (Nat.le_refl _) _, Blk.new _ _ _⟩
  have ROWT : Hid (∀ (W : World), Below W.heap.size W (W.alloc (.cells #[.int .i64 0, .int .i64 4, .int .i64 8, .int .i64 20] 3)) ∧ Blk (W.alloc (.cells #[.int .i64 0, .int .i64 4, .int .i64 8, .int .i64 20] 3)) W.heap.size #[.int .i64 0, .int .i64 4, .int .i64 8, .int .i64 20] 3) := fun W => ⟨(Below.refl _ W).alloc (Nat.le_refl _) _, Blk.new _ _ _⟩
  go_upto_region 4 with fail
  generalize w3.alloc (.cells #[.slice a3 0 c3, .int .i64 0] 25) = W3 at *
  obtain ⟨q1, q2⟩ := ROWS.out W3
  have HP := Lib.hid (PR.out _ W3.heap.size (htab0.out.next (below_next q1 B3.out)) q2)
  have A4 := Lib.hid (A3.out.kept q1)
  have R4 := Lib.hid (R3.out.kept q1)
  have B4 := Lib.hid (below_next q1 B3.out)
  clear q1 q2 A3 R3 B3 PR ROWS
  go_wp2_with fail
  refine HP.out.mono ?_; rintro e w5 ⟨rfl, b5⟩
  have A5 := Lib.hid (A4.out.kept b5)
  have R5 := Lib.hid (R4.out.kept b5)
  have B5 := Lib.hid (below_next b5 B4.out)
  obtain ⟨q1, q2⟩ := ROWT.out w5
  have HS := Lib.hid (SM.out _ w5.heap.size a1 c1 (R5.out.kept q1) q2)
  have B6 := Lib.hid (below_next q1 B5.out)
  have k0 := A5.out.cell 0
  have k1 := A5.out.cell 1
  simp only [List.getElem?_toArray, List.getElem?_cons_zero, List.getElem?_cons_succ] at k0 k1
  clear b5 A4 R4 B4 q1 q2 ROWT HP SM R5
  go_wp2_with fail
  refine HS.out.mono ?_; rintro e w6 ⟨rfl, b6⟩
  have B7 := Lib.hid (below_next b6 B6.out)
  clear b6 HS k0 k1 A5
  go_wp2_with fail
  go_ret
  exact ⟨rfl, B7.out⟩
end Go.Proofs.YtdhkinknhjpjmaaDoor
