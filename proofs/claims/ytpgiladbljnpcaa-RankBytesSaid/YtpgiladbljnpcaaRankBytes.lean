/-
  RankBytes: a key's bytes are gangerref03's, they compare as keys do, and they are their owner's: so the law returns true for every input.
-/
import Derived.Test.YtpgiladbljnpcaaKeyKnown
import Derived.Test.YtpgiladbljnpcaaOwn
import Derived.Test.YtpgiladbljnpcaaKeyD
import Derived.Test.YtpgiladbljnpcaaRows
import Derived.Test.YtpgiladbljnpcaaArgs2
namespace Go.Proofs.Ytpgiladbljnpcaa.rankBytes
open Go.ChangeShapes Go.WideShapes Go.ChangeAt Go.RowKit
set_option linter.unusedVariables false

theorem own : ownKnob Try.prog.godebug = none := by kernel_rfl

open Go.ChangeShapes Go.WideShapes Go.ChangeAt Go.RowKit Go.Lib Go.Sort
attribute [local go_sem ↓] key_eql key_neq key_grd
theorem wfI {n : Int} (h : (Lit.int .i64 n).wf = true) : -9223372036854775808 ≤ n ∧ n ≤ 9223372036854775807 := by
  simpa [Lit.wf, IntKind.min, IntKind.max, IntKind.bits, IntKind.signed] using h
theorem wfU {n : Int} (h : (Lit.int .u32 n).wf = true) : 0 ≤ n ∧ n ≤ 4294967295 := by
  simpa [Lit.wf, IntKind.min, IntKind.max, IntKind.bits, IntKind.signed] using h

/-- What the last region reads. -/
def RB (w : World) (g1 c1 g2 c2 : Nat) (l1 l2 : List Int) (p t i p' t' i' : Int) (W : World) : Prop :=
  W.ownsRow (w.heap.size + 2) 5 1 (.slice (some ⟨g1, 0, none⟩) 20 c1) 20 (cellsB l1) ∧ W.ownsRow (w.heap.size + 2) 5 1 (.slice (some ⟨g2, 0, none⟩) 20 c2) 20 (cellsB l2) ∧
  (convert 48 9 (.slice (some ⟨g1, 0, none⟩) 20 c1)).run Try.prog W = .ok (.string (strOfNums l1)) W ∧
  (convert 48 9 (.slice (some ⟨g2, 0, none⟩) 20 c2)).run Try.prog W = .ok (.string (strOfNums l2)) W ∧
  W.cell? ⟨w.heap.size, 0, none⟩ = some (.int .i64 p) ∧ W.cell? ⟨w.heap.size, 1, none⟩ = some (.int .i64 t) ∧ W.cell? ⟨w.heap.size, 2, none⟩ = some (.int .u32 i) ∧
  W.cell? ⟨w.heap.size + 1, 0, none⟩ = some (.int .i64 p') ∧ W.cell? ⟨w.heap.size + 1, 1, none⟩ = some (.int .i64 t') ∧ W.cell? ⟨w.heap.size + 1, 2, none⟩ = some (.int .u32 i') ∧
  Below w.heap.size w W
theorem RB.kept {w W W' : World} {g1 c1 g2 c2 : Nat} {l1 l2 : List Int} {p t i p' t' i' : Int} (h : RB w g1 c1 g2 c2 l1 l2 p t i p' t' i' W) (b : Below W.heap.size W W') : RB w g1 c1 g2 c2 l1 l2 p t i p' t' i' W' := by
  obtain ⟨o1, o2, _, _, a0, a1, a2, b0, b1, b2, bb⟩ := h
  have o1' := owns_below o1 b
  have o2' := owns_below o2 b
  exact ⟨o1', o2', conv_own o1' _ Try.underlying9, conv_own o2' _ Try.underlying9, cell_next b a0, cell_next b a1, cell_next b a2, cell_next b b0, cell_next b b1, cell_next b b2, below_next b bb⟩
theorem RB.drew {w W : World} {g1 c1 g2 c2 : Nat} {l1 l2 : List Int} {p t i p' t' i' : Int} (h : RB w g1 c1 g2 c2 l1 l2 p t i p' t' i' W) : RB w g1 c1 g2 c2 l1 l2 p t i p' t' i' W.drew :=
  h.kept ⟨rfl, rfl, rfl, Nat.le_refl _, fun _ _ => rfl⟩
theorem RB.alloc {w W : World} {g1 c1 g2 c2 : Nat} {l1 l2 : List Int} {p t i p' t' i' : Int} (h : RB w g1 c1 g2 c2 l1 l2 p t i p' t' i' W) (o : Obj) : RB w g1 c1 g2 c2 l1 l2 p t i p' t' i' (W.alloc o) :=
  h.kept ((Below.refl _ _).alloc (Nat.le_refl _) _)
/-- What stays to the end: both keys. -/
def SB (w : World) (p t i p' t' i' : Int) (W : World) : Prop :=
  W.cell? ⟨w.heap.size, 0, none⟩ = some (.int .i64 p) ∧ W.cell? ⟨w.heap.size, 1, none⟩ = some (.int .i64 t) ∧ W.cell? ⟨w.heap.size, 2, none⟩ = some (.int .u32 i) ∧
  W.cell? ⟨w.heap.size + 1, 0, none⟩ = some (.int .i64 p') ∧ W.cell? ⟨w.heap.size + 1, 1, none⟩ = some (.int .i64 t') ∧ W.cell? ⟨w.heap.size + 1, 2, none⟩ = some (.int .u32 i') ∧
  Below w.heap.size w W
theorem SB.kept {w W W' : World} {p t i p' t' i' : Int} (h : SB w p t i p' t' i' W) (b : Below W.heap.size W W') : SB w p t i p' t' i' W' := by
  obtain ⟨a0, a1, a2, b0, b1, b2, bb⟩ := h
  exact ⟨cell_next b a0, cell_next b a1, cell_next b a2, cell_next b b0, cell_next b b1, cell_next b b2, below_next b bb⟩
theorem SB.drew {w W : World} {p t i p' t' i' : Int} (h : SB w p t i p' t' i' W) : SB w p t i p' t' i' W.drew := h.kept ⟨rfl, rfl, rfl, Nat.le_refl _, fun _ _ => rfl⟩
theorem SB.alloc {w W : World} {p t i p' t' i' : Int} (h : SB w p t i p' t' i' W) (o : Obj) : SB w p t i p' t' i' (W.alloc o) := h.kept ((Below.refl _ _).alloc (Nat.le_refl _) _)
theorem RB.sb {w W : World} {g1 c1 g2 c2 : Nat} {l1 l2 : List Int} {p t i p' t' i' : Int} (h : RB w g1 c1 g2 c2 l1 l2 p t i p' t' i' W) : SB w p t i p' t' i' W := by
  obtain ⟨o1, o2, _, _, a0, a1, a2, b0, b1, b2, bb⟩ := h
  exact ⟨a0, a1, a2, b0, b1, b2, bb⟩
theorem own_two {w W : World} {g1 c1 g2 c2 : Nat} {l1 l2 : List Int} {p t i p' t' i' : Int} (ne : g1 ≠ g2) (h : RB w g1 c1 g2 c2 l1 l2 p t i p' t' i' W) :
    Calls Try.prog 29 #[.slice (some ⟨W.heap.size, 0, none⟩) 2 2] (W.alloc (.cells #[.slice (some ⟨g1, 0, none⟩) 20 c1, .slice (some ⟨g2, 0, none⟩) 20 c2] 48)) fun e w' => e = .returned (.bool true) ∧ SB w p t i p' t' i' w' := by
  have sbA := h.sb.alloc (.cells #[.slice (some ⟨g1, 0, none⟩) 20 c1, .slice (some ⟨g2, 0, none⟩) 20 c2] 48)
  obtain ⟨o1, o2, _, _, a0, a1, a2, b0, b1, b2, bb⟩ := h
  have l1t := (o1.lt g1 rfl).2
  have l2t := (o2.lt g2 rfl).2
  have hB : w.heap.size + 2 ≤ W.heap.size := by have := (o1.lt g1 rfl).1; omega
  have A : OwnArg (w.heap.size + 2) [(.slice (some ⟨g1, 0, none⟩) 20 c1, 20), (.slice (some ⟨g2, 0, none⟩) 20 c2, 20)] W.heap.size (W.alloc (.cells #[.slice (some ⟨g1, 0, none⟩) 20 c1, .slice (some ⟨g2, 0, none⟩) 20 c2] 48)) := by
    refine ⟨Blk.new _ _ _, ?_, ?_, ?_, by simp, ?_, by simp; omega⟩
    · intro a b x y hab hx hy
      match a, b with
      | 0, 0 => exact absurd rfl hab
      | 1, 1 => exact absurd rfl hab
      | 0, 1 => simp at hx hy; subst hx hy; right; simp [Value.ownBlock]; exact ne
      | 1, 0 => simp at hx hy; subst hx hy; right; simp [Value.ownBlock]; exact fun e => ne e.symm
      | 0, b + 2 => simp at hy
      | 1, b + 2 => simp at hy
      | a + 2, _ => simp at hx
    · intro a v n hv
      match a with
      | 0 => simp at hv; obtain ⟨rfl, rfl⟩ := hv; right; simp [Value.ownBlock]; omega
      | 1 => simp at hv; obtain ⟨rfl, rfl⟩ := hv; right; simp [Value.ownBlock]; omega
      | a + 2 => simp at hv
    · intro a v n hv
      match a with
      | 0 => simp at hv; obtain ⟨rfl, rfl⟩ := hv; exact ⟨_, o1.alloc _⟩
      | 1 => simp at hv; obtain ⟨rfl, rfl⟩ := hv; exact ⟨_, o2.alloc _⟩
      | a + 2 => simp at hv
    · intro a v n hv
      match a with
      | 0 => simp at hv; omega
      | 1 => simp at hv; omega
      | a + 2 => simp at hv
  refine (own_any _ _ _ _ A).mono ?_
  rintro e w' ⟨rfl, b⟩
  obtain ⟨x0, x1, x2, y0, y1, y2, xb⟩ := sbA
  have kc := (bcellB b).1
  refine ⟨rfl, ?_, ?_, ?_, ?_, ?_, ?_, xb.trans (b.mono (by omega))⟩
  · rw [kc _ _ (by omega)]; exact x0
  · rw [kc _ _ (by omega)]; exact x1
  · rw [kc _ _ (by omega)]; exact x2
  · rw [kc _ _ (by omega)]; exact y0
  · rw [kc _ _ (by omega)]; exact y1
  · rw [kc _ _ (by omega)]; exact y2

set_option maxRecDepth 100000 in
set_option maxHeartbeats 2000000 in
theorem walkN (p t : Int) (i : Nat) (p' t' : Int) (i' : Nat) (w : World) (hp : -9223372036854775808 ≤ p ∧ p ≤ 9223372036854775807) (ht : -9223372036854775808 ≤ t ∧ t ≤ 9223372036854775807) (hi : i ≤ 4294967295)
    (hp' : -9223372036854775808 ≤ p' ∧ p' ≤ 9223372036854775807) (ht' : -9223372036854775808 ≤ t' ∧ t' ≤ 9223372036854775807) (hi' : i' ≤ 4294967295) :
    Calls Try.prog 8 #[.agg #[.int .i64 p, .int .i64 t, .int .u32 i], .agg #[.int .i64 p', .int .i64 t', .int .u32 i']] w fun e w' => e = .returned (.bool true) ∧ Below w.heap.size w w' := by
  have KN : Hid (∀ w, Calls Try.prog 12 #[] w fun e w' => e = .returned (.bool true) ∧ Below w.heap.size w w') := fun w => known3_any w
  have L1 : Hid (∀ w, Calls Try.prog 10 #[.agg #[.int .i64 p, .int .i64 t, .int .u32 i], .agg #[.int .i64 p', .int .i64 t', .int .u32 i']] w fun e w' => e = .returned (.bool (kLess (p, t, i) (p', t', i'))) ∧ Below w.heap.size w w') := fun w => kless_any (p, t, i) (p', t', i') w
  have Y1 : Hid (∀ w, Calls Try.prog 26 #[.agg #[.int .i64 p, .int .i64 t, .int .u32 i]] w fun e w' => ∃ v', e = .returned v' ∧ w'.ownsRow w.heap.size 5 1 v' 20 (cellsB (bytesK p t i)) ∧ Below w.heap.size w w') := fun w => bytes_any p t i w hp ht hi
  have Y2 : Hid (∀ w, Calls Try.prog 26 #[.agg #[.int .i64 p', .int .i64 t', .int .u32 i']] w fun e w' => ∃ v', e = .returned v' ∧ w'.ownsRow w.heap.size 5 1 v' 20 (cellsB (bytesK p' t' i')) ∧ Below w.heap.size w w') := fun w => bytes_any p' t' i' w hp' ht' hi'
  have Y3 : Hid (∀ w, Calls Try.prog 28 #[.agg #[.int .i64 p, .int .i64 t, .int .u32 i]] w fun e w' => ∃ v', e = .returned v' ∧ w'.ownsRow w.heap.size 5 1 v' 20 (cellsB (bytesK p t i)) ∧ Below w.heap.size w w') := fun w => refBytes_any p t i w hp ht hi
  have E1 : Hid (Op.bytesLess (strOfNums (bytesK p t i)).toList (strOfNums (bytesK p' t' i')).toList = kLess (p, t, i) (p', t', i')) := by
    unfold Hid; rw [strOf_list, strOf_list]; exact less_bytes p t i p' t' i' hp ht hi hp' ht' hi'
  have E2 : Hid (((strOfNums (bytesK p t i)).toList == (strOfNums (bytesK p' t' i')).toList) = keqB p t i p' t' i') := by
    unfold Hid; rw [strOf_list, strOf_list]; exact same_bytes p t i p' t' i' hp ht hi hp' ht' hi'
  clear hp ht hi hp' ht' hi'
  generalize bytesK p t i = l1 at *
  generalize bytesK p' t' i' = l2 at *
  generalize kLess (p, t, i) (p', t', i') = x at *
  generalize ((i : Nat) : Int) = i at *
  generalize ((i' : Nat) : Int) = i' at *
  go_enter Try.func8, Try.ntmps8
  go_wp2_with fail
  refine (Y1.out _).mono ?_; rintro e w1 ⟨v1, rfl, o1, b1⟩
  have B0 : Blk w1 w.heap.size #[.int .i64 p, .int .i64 t, .int .u32 i] 24 := ((Blk.new _ _ _).old _).kept b1
  have B1 : Blk w1 (w.heap.size + 1) #[.int .i64 p', .int .i64 t', .int .u32 i'] 24 := (Blk.fresh _ _ _ _ (by simp)).kept b1
  have bb : Below w.heap.size w w1 := below_next b1 (((Below.refl _ _).alloc (Nat.le_refl _) _).alloc (by simp) _)
  obtain ⟨g1, c1, u1, rfl, gb1, -⟩ := owns_pos o1 (by decide)
  have gb1' : w.heap.size + 2 ≤ g1 := by simpa using gb1
  have O1 := Lib.hid (owns_mono o1 (show w.heap.size + 2 ≤ _ by simp))
  have G1 := Lib.hid gb1'
  clear o1 b1 gb1 gb1' u1
  have c1_0 := B1.cell 0; simp at c1_0
  have c1_1 := B1.cell 1; simp at c1_1
  have c1_2 := B1.cell 2; simp at c1_2
  go_wp2_with fail
  refine (Y2.out _).mono ?_; rintro e w2 ⟨v2, rfl, o2, b2⟩
  clear c1_0 c1_1 c1_2
  have hlt1 := (O1.out.lt g1 rfl).2
  replace B0 := B0.kept b2
  replace B1 := B1.kept b2
  replace bb := below_next b2 bb
  obtain ⟨g2, c2, u2, rfl, gb2, -⟩ := owns_pos o2 (by decide)
  have NE : Hid (g1 ≠ g2) := by unfold Hid; omega
  have O2 := Lib.hid (owns_mono o2 (show w.heap.size + 2 ≤ _ by have := G1.out; omega))
  replace O1 := Lib.hid (owns_below O1.out b2)
  clear o2 b2 gb2 u2 hlt1
  have c0_0 := B0.cell 0; simp at c0_0
  have c0_1 := B0.cell 1; simp at c0_1
  have c0_2 := B0.cell 2; simp at c0_2
  go_wp2_with fail
  refine (Y3.out _).mono ?_; rintro e w3 ⟨v3, rfl, o3, b3⟩
  clear c0_0 c0_1 c0_2
  replace B0 := B0.kept b3
  replace B1 := B1.kept b3
  replace bb := below_next b3 bb
  replace O1 := Lib.hid (owns_below O1.out b3)
  replace O2 := Lib.hid (owns_below O2.out b3)
  have O3 := Lib.hid o3
  clear o3 b3
  have S1 := bytesSame_any _ _ _ _ _ _ _ _ w3 O1.out O3.out
  rw [show (toB l1 == toB l1) = true by simp] at S1
  go_wp2_with fail
  refine S1.mono ?_; rintro e w4 ⟨rfl, rfl⟩
  clear S1
  go_wp2_with fail
  have CV1 := conv_own O1.out 9 Try.underlying9
  have CV2 := conv_own O2.out 9 Try.underlying9
  have OW : Hid (∀ W, RB w g1 c1 g2 c2 l1 l2 p t i p' t' i' W → Calls Try.prog 29 #[.slice (some ⟨W.heap.size, 0, none⟩) 2 2] (W.alloc (.cells #[.slice (some ⟨g1, 0, none⟩) 20 c1, .slice (some ⟨g2, 0, none⟩) 20 c2] 48)) fun e w' => e = .returned (.bool true) ∧ SB w p t i p' t' i' w') := fun W h => own_two NE.out h
  have R0 : RB w g1 c1 g2 c2 l1 l2 p t i p' t' i' w4 := ⟨O1.out, O2.out, CV1, CV2, B0.cell 0, B0.cell 1, B0.cell 2, B1.cell 0, B1.cell 1, B1.cell 2, bb⟩
  clear CV1 CV2 B0 B1 bb O1 O2 O3 G1 NE Y1 Y2 Y3
  have F1 := E1.out
  have F2 := E2.out
  clear E1 E2
  have R1 := R0.drew
  have T1 := R1.sb
  have CV1 := R1.2.2.1
  have CV2 := R1.2.2.2.1
  clear R0
  go_region_held (fun W => W.cell? ⟨w.heap.size, 0, none⟩ = some (.int .i64 p) ∧ W.cell? ⟨w.heap.size, 1, none⟩ = some (.int .i64 t) ∧ W.cell? ⟨w.heap.size, 2, none⟩ = some (.int .u32 i) ∧
  W.cell? ⟨w.heap.size + 1, 0, none⟩ = some (.int .i64 p') ∧ W.cell? ⟨w.heap.size + 1, 1, none⟩ = some (.int .i64 t') ∧ W.cell? ⟨w.heap.size + 1, 2, none⟩ = some (.int .u32 i') ∧
  Below w.heap.size w W)
    (first
      | assumption
      | exact SB.drew (by assumption)
      | exact SB.alloc (by assumption) _)
    (first
      | (go_at_call 10; ((with_reducible refine (L1.out _).mono ?_); rintro e w5 ⟨rfl, b5⟩; have R5 := RB.kept (by assumption) b5; have T5 := R5.sb; have CV3 := R5.2.2.1; have CV4 := R5.2.2.2.1))
      | (go_at_call 29; ((refine (OW.out _ (by assumption)).mono ?_); rintro e w6 ⟨rfl, T6⟩))
      | (go_at_call 12; ((with_reducible refine (KN.out _).mono ?_); rintro e w7 ⟨rfl, b7⟩; have T7 := SB.kept (by assumption) b7)))
  all_goals (go_wp2_with fail; go_ret; exact ⟨rfl, (by assumption : SB w p t i p' t' i' _).2.2.2.2.2.2⟩)

theorem walk (p t i p' t' i' : Int) (w : World) (w0_0 : (Lit.int .i64 p).wf = true) (w0_1 : (Lit.int .i64 t).wf = true) (w0_2 : (Lit.int .u32 i).wf = true) (w1_0 : (Lit.int .i64 p').wf = true) (w1_1 : (Lit.int .i64 t').wf = true) (w1_2 : (Lit.int .u32 i').wf = true) :
    Calls Try.prog 8 #[.agg #[.int .i64 p, .int .i64 t, .int .u32 i], .agg #[.int .i64 p', .int .i64 t', .int .u32 i']] w fun e w' => e = .returned (.bool true) ∧ Below w.heap.size w w' := by
  have h := wfU w0_2
  have h' := wfU w1_2
  obtain ⟨j, rfl⟩ := Int.eq_ofNat_of_zero_le h.1
  obtain ⟨j', rfl⟩ := Int.eq_ofNat_of_zero_le h'.1
  exact walkN p t j p' t' j' w (wfI w0_0) (wfI w0_1) (by omega) (wfI w1_0) (wfI w1_1) (by omega)


set_option maxRecDepth 100000 in
theorem lifted (os : Os) (started : os.Started) (H : Type) (enc : TypeId × Value → H) :
    ReturnsInHanded {} Try.checked os 8 .any (Rows.rankBytesSpec.pre6 enc Try.prog Try.f8 Rows.rankBytesRow.domain false) (Rows.rankBytesSpec.post enc Try.prog Try.f8 false true false false) := by
  refine returnsInHanded_of_change (C := Try.checked) own started (by kernel_rfl) Try.func8
    (ChangeSpec.witness6 (enc := enc) (C := Try.checked) false ⟨#[], #[.agg #[.int .i64 0, .int .i64 0, .int .u32 0], .agg #[.int .i64 0, .int .i64 0, .int .u32 0]], []⟩ 8 (by kernel_rfl) (by kernel_rfl) (by kernel_rfl) (by kernel_rfl)) ?_
  intro W base args ds gs before hval0 hW _ _
  have hval : ∀ (j : Nat) t v, Try.f8.params[j]? = some t → args[j]? = some v → Value.okWide Try.prog W .any base t v := hval0
  have hW' := hW
  obtain ⟨p, q, hA0, hV, rfl, hfz, hnd⟩ := hW
  have hA : DataW.TrodAll enc Try.prog W 0 (fun _ => true) true Try.f8.params.toList args.toList ds p := hA0
  rw [Try.params8] at hA hval
  obtain ⟨v0, vs0, d0, ds0, p0, q0, hargs, rfl, rfl, h0, r0⟩ := trodAll_cons hA
  obtain ⟨v1, vs1, d1, ds1, p1, q1, rfl, rfl, rfl, h1, r1⟩ := trodAll_cons r0
  obtain ⟨rfl, rfl, rfl⟩ := trodAll_nil r1
  obtain rfl : args = #[v0, v1] := by cases args; simp_all
  obtain ⟨cs0, rfl, hs0, hf0⟩ := open_plain_struct Try.underlying24 (by kernel_rfl) (by kernel_rfl) (hval 0 24 v0 rfl rfl) h0
  obtain ⟨c0_0, y0_0, n0_0, e0_0, t0_0⟩ := hf0 0 _ rfl
  obtain ⟨p, rfl, w0_0⟩ := field_int Try.underlying3 t0_0
  obtain ⟨c0_1, y0_1, n0_1, e0_1, t0_1⟩ := hf0 1 _ rfl
  obtain ⟨t, rfl, w0_1⟩ := field_int Try.underlying3 t0_1
  obtain ⟨c0_2, y0_2, n0_2, e0_2, t0_2⟩ := hf0 2 _ rfl
  obtain ⟨i, rfl, w0_2⟩ := field_int Try.underlying22 t0_2
  obtain rfl : cs0 = #[.int .i64 p, .int .i64 t, .int .u32 i] := arr_of cs0 [.int .i64 p, .int .i64 t, .int .u32 i] hs0 (fun j hj => by match j, hj with | 0, _ => exact e0_0 | 1, _ => exact e0_1 | 2, _ => exact e0_2 | j + 3, hj => exact absurd hj (by simp))
  obtain ⟨cs1, rfl, hs1, hf1⟩ := open_plain_struct Try.underlying24 (by kernel_rfl) (by kernel_rfl) (hval 1 24 v1 rfl rfl) h1
  obtain ⟨c1_0, y1_0, n1_0, e1_0, t1_0⟩ := hf1 0 _ rfl
  obtain ⟨p', rfl, w1_0⟩ := field_int Try.underlying3 t1_0
  obtain ⟨c1_1, y1_1, n1_1, e1_1, t1_1⟩ := hf1 1 _ rfl
  obtain ⟨t', rfl, w1_1⟩ := field_int Try.underlying3 t1_1
  obtain ⟨c1_2, y1_2, n1_2, e1_2, t1_2⟩ := hf1 2 _ rfl
  obtain ⟨i', rfl, w1_2⟩ := field_int Try.underlying22 t1_2
  obtain rfl : cs1 = #[.int .i64 p', .int .i64 t', .int .u32 i'] := arr_of cs1 [.int .i64 p', .int .i64 t', .int .u32 i'] hs1 (fun j hj => by match j, hj with | 0, _ => exact e1_0 | 1, _ => exact e1_1 | 2, _ => exact e1_2 | j + 3, hj => exact absurd hj (by simp))
  clear hA0 hval0
  refine (walk p t i p' t' i' W w0_0 w0_1 w0_2 w1_0 w1_1 w1_2).mono fun e W' ⟨he, hb⟩ => ?_
  subst he
  exact ⟨_, rfl, law_post (by kernel_rfl) (by kernel_rfl) rfl Try.underlying4 rfl hW' rfl hb⟩

theorem over : Rows.rankBytesRow.holds Try.pinned (OpenSpec.ofChange Rows.rankBytesSpec) :=
  OpenClaim.holds_of_wide 8 Try.f8 rfl rfl rfl rfl rfl rfl rfl ⟨rfl, rfl, rfl, rfl, rfl⟩ rfl rfl rfl rfl rfl (by kernel_rfl) Try.func8 (by kernel_rfl)
    (of_decide_eq_true (by kernel_rfl)) (by unfold Func.isWrapper; first | (rw [if_pos (by decide +kernel)]; kernel_rfl) | (rw [if_neg (by decide +kernel)]; exact ⟨rfl, rfl⟩))
    (fun os started H enc _ => lifted os started H enc)

theorem proved : Rows.RankBytesSaid :=
  over
#print axioms proved
end Go.Proofs.Ytpgiladbljnpcaa.rankBytes
