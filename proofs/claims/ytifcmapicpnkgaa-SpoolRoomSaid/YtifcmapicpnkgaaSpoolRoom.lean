/-
  SpoolRoom: just as many bytes as there is room for may be added, whatever the numbers: so the law returns true for every input.
-/
import Derived.Test.YtifcmapicpnkgaaSpoolK
import Derived.Test.YtifcmapicpnkgaaRows
import Derived.Test.YtifcmapicpnkgaaArgs2
namespace Go.Proofs.Ytifcmapicpnkgaa.spoolRoom
open Go.ChangeShapes Go.WideShapes Go.ChangeAt Go.RowKit
set_option linter.unusedVariables false

theorem own : ownKnob Try.prog.godebug = none := by kernel_rfl

open Go.Lib
theorem u64_bd (x : Int) : 0 ≤ IntKind.u64.wrap x ∧ IntKind.u64.wrap x ≤ 18446744073709551615 := by rw [IntKind.wrap_u64]; omega
theorem walk (room n cut : Int) (w : World) (w0 : (Lit.int .i64 room).wf = true) (w1 : (Lit.int .i64 n).wf = true) (w2 : (Lit.int .i64 cut).wf = true) :
    Calls Try.prog 5 #[.int .i64 room, .int .i64 n, .int .i64 cut] w fun e w' => e = .returned (.bool true) ∧ Below w.heap.size w w' := by
  clear w0 w1 w2
  have u0 := u64_bd room
  have u1 := u64_bd n
  have u2 := u64_bd cut
  obtain ⟨R, hR⟩ := Int.eq_ofNat_of_zero_le (a := IntKind.u64.wrap room % 300) (by omega)
  have lR : (R : Int) < 300 := by omega
  obtain ⟨k, hk⟩ := Int.eq_ofNat_of_zero_le (a := IntKind.u64.wrap n % (1 + (R : Int) + 1)) (Int.emod_nonneg _ (by omega))
  have lk : (k : Int) ≤ 1 + R := by have := Int.emod_lt_of_pos (IntKind.u64.wrap n) (show (0 : Int) < 1 + R + 1 by omega); omega
  obtain ⟨m, hm⟩ := Int.eq_ofNat_of_zero_le (a := IntKind.u64.wrap cut % (1 + (R : Int) + 1)) (Int.emod_nonneg _ (by omega))
  have lm : (m : Int) ≤ 1 + R := by have := Int.emod_lt_of_pos (IntKind.u64.wrap cut) (show (0 : Int) < 1 + R + 1 by omega); omega
  have HN := Lib.hid (new_any (1 + (R : Int)) w w.heap.size (by omega) (by omega) (Nat.le_refl _))
  go_enter Try.func5, Try.ntmps5
  go_wp2_with fail
  refine HN.out.mono ?_; rintro e w1 ⟨rfl, hs1, hb1, hz1⟩
  have S1 := Lib.hid hs1
  have B1 := Lib.hid hb1
  clear hs1 hb1 hz1
  obtain ⟨N1, hN1⟩ : ∃ N1 : Nat → Prop, N1 = fun b => b = w.heap.size := ⟨_, rfl⟩
  rw [← hN1] at S1
  clear hN1
  have lk' : k ≤ 1 + R := by omega
  have lm' : m ≤ 1 + R := by omega
  go_wp2_with (with_reducible refine wpList_make_rd rfl _ _ rfl _ (k) rfl rfl ?q2 ?p2 ?_)
  case q2 => omega
  case p2 => omega
  intro w2 hr2 hb2 hz2
  have S2 := Lib.hid (S1.out.kept hb2)
  have B2 := Lib.hid (B1.out.trans (hb2.mono B1.out.size))
  have R2 := Lib.hid hr2
  have Q2 : Hid (w1.heap.size = w1.heap.size ∧ ∀ b, b = w1.heap.size → ¬ N1 b) := ⟨rfl, fun b hb h => by have := S1.out.lt b h; omega⟩
  clear hr2 hb2 hz2
  go_wp2_with fail
  refine (add_at (s' := ⟨1 + (R : Int), List.replicate (k) 0, 0, -1, false⟩) (n := 0) (by rw [addS_ok _ _ rfl (by simp; omega) neg1]; rfl) S2.out R2.out Q2.out.2).mono ?_; rintro e w3 ⟨rfl, N3, _, hs3, hF3⟩
  have S3 := Lib.hid hs3
  have B3 := Lib.hid (B2.out.trans (S2.out.below hF3))
  clear hs3 hF3
  go_wp2_with (with_reducible refine wpList_make_rd rfl _ _ rfl _ (1 + R - k + 1) rfl rfl ?q4 ?p4 ?_)
  case q4 => omega
  case p4 => omega
  intro w4 hr4 hb4 hz4
  have S4 := Lib.hid (S3.out.kept hb4)
  have B4 := Lib.hid (B3.out.trans (hb4.mono B3.out.size))
  have R4 := Lib.hid hr4
  have Q4 : Hid (w3.heap.size = w3.heap.size ∧ ∀ b, b = w3.heap.size → ¬ N3 b) := ⟨rfl, fun b hb h => by have := S3.out.lt b h; omega⟩
  clear hr4 hb4 hz4
  go_wp2_with fail
  refine (add_at (s' := ⟨1 + (R : Int), List.replicate (k) 0, 0, -1, false⟩) (n := 5) (addS_full _ _ rfl (by simp; omega)) S4.out R4.out Q4.out.2).mono ?_; rintro e w5 ⟨rfl, N5, _, hs5, hF5⟩
  have S5 := Lib.hid hs5
  have B5 := Lib.hid (B4.out.trans (S4.out.below hF5))
  clear hs5 hF5
  obtain ⟨x3, hx3⟩ : ∃ x3, x3 = List.replicate k (0 : UInt8) ++ List.replicate (1 + R - k) 0 := ⟨_, rfl⟩
  have X3 : Hid (x3.length = 1 + R) := by rw [hx3]; simp [Hid]; omega
  go_wp2_with (with_reducible refine wpList_make_rd rfl _ _ rfl _ (1 + R - k) rfl rfl ?q6 ?p6 ?_)
  case q6 => omega
  case p6 => omega
  intro w6 hr6 hb6 hz6
  have S6 := Lib.hid (S5.out.kept hb6)
  have B6 := Lib.hid (B5.out.trans (hb6.mono B5.out.size))
  have R6 := Lib.hid hr6
  have Q6 : Hid (w5.heap.size = w5.heap.size ∧ ∀ b, b = w5.heap.size → ¬ N5 b) := ⟨rfl, fun b hb h => by have := S5.out.lt b h; omega⟩
  clear hr6 hb6 hz6
  go_wp2_with fail
  refine (add_at (s' := ⟨1 + (R : Int), x3, 0, -1, false⟩) (n := 0) (by rw [addS_ok _ _ rfl (by simp; omega) neg1, hx3]) S6.out R6.out Q6.out.2).mono ?_; rintro e w7 ⟨rfl, N7, _, hs7, hF7⟩
  have S7 := Lib.hid hs7
  have B7 := Lib.hid (B6.out.trans (S6.out.below hF7))
  clear hs7 hF7
  go_wp2_with (with_reducible refine wpList_make_rd rfl _ _ rfl _ (1) rfl rfl ?q8 ?p8 ?_)
  case q8 => omega
  case p8 => omega
  intro w8 hr8 hb8 hz8
  have S8 := Lib.hid (S7.out.kept hb8)
  have B8 := Lib.hid (B7.out.trans (hb8.mono B7.out.size))
  have R8 := Lib.hid hr8
  have Q8 : Hid (w7.heap.size = w7.heap.size ∧ ∀ b, b = w7.heap.size → ¬ N7 b) := ⟨rfl, fun b hb h => by have := S7.out.lt b h; omega⟩
  clear hr8 hb8 hz8
  go_wp2_with fail
  refine (add_at (s' := ⟨1 + (R : Int), x3, 0, -1, false⟩) (n := 5) (addS_full _ _ rfl (by have := X3.out; simp; omega)) S8.out R8.out Q8.out.2).mono ?_; rintro e w9 ⟨rfl, N9, _, hs9, hF9⟩
  have S9 := Lib.hid hs9
  have B9 := Lib.hid (B8.out.trans (S8.out.below hF9))
  clear hs9 hF9
  clear hx3
  go_wp2_with fail
  refine (len_at (n := 1 + (R : Int)) (by have := X3.out; show ((x3.length : Nat) : Int) = _; omega) S9.out).mono ?_; rintro e w' ⟨rfl, rfl⟩
  go_wp2_with fail
  refine (cut_at (k := m) (s' := ⟨1 + (R : Int), x3.take m, m, -1, false⟩) (n := 0) (cutS_ok _ m rfl (by have := X3.out; show m ≤ x3.length; omega) neg1) S9.out).mono ?_; rintro e w10 ⟨rfl, N10, _, hs10, hF10⟩
  have S10 := Lib.hid hs10
  have B10 := Lib.hid (B9.out.trans (S9.out.below hF10))
  clear hs10 hF10
  go_wp2_with fail
  refine (cut_at (k := (m : Int) + 1) (s' := ⟨1 + (R : Int), x3.take m, m, -1, false⟩) (n := 2) (cutS_arg _ _ rfl (.inr (by have := X3.out; show (((x3.take m).length : Nat) : Int) < _; rw [List.length_take]; omega))) S10.out).mono ?_; rintro e w11 ⟨rfl, N11, _, hs11, hF11⟩
  have S11 := Lib.hid hs11
  have B11 := Lib.hid (B10.out.trans (S10.out.below hF11))
  clear hs11 hF11
  obtain ⟨x5, hx5⟩ : ∃ x5, x5 = x3.take m ++ List.replicate (1 + R - m) 0 := ⟨_, rfl⟩
  have X5 : Hid (x5.length = 1 + R) := by have := X3.out; rw [hx5]; simp [Hid]; omega
  go_wp2_with (with_reducible refine wpList_make_rd rfl _ _ rfl _ (1 + R - m) rfl rfl ?q12 ?p12 ?_)
  case q12 => omega
  case p12 => omega
  intro w12 hr12 hb12 hz12
  have S12 := Lib.hid (S11.out.kept hb12)
  have B12 := Lib.hid (B11.out.trans (hb12.mono B11.out.size))
  have R12 := Lib.hid hr12
  have Q12 : Hid (w11.heap.size = w11.heap.size ∧ ∀ b, b = w11.heap.size → ¬ N11 b) := ⟨rfl, fun b hb h => by have := S11.out.lt b h; omega⟩
  clear hr12 hb12 hz12
  go_wp2_with fail
  refine (add_at (s' := ⟨1 + (R : Int), x5, m, -1, false⟩) (n := 0) (by rw [addS_ok _ _ rfl (by have := X3.out; simp; omega) neg1, hx5]) S12.out R12.out Q12.out.2).mono ?_; rintro e w13 ⟨rfl, N13, _, hs13, hF13⟩
  have S13 := Lib.hid hs13
  have B13 := Lib.hid (B12.out.trans (S12.out.below hF13))
  clear hs13 hF13
  clear hx5
  go_wp2_with fail
  refine (len_at (n := 1 + (R : Int)) (by have := X5.out; show ((x5.length : Nat) : Int) = _; omega) S13.out).mono ?_; rintro e w' ⟨rfl, rfl⟩
  go_wp2_with fail
  refine (sure_at (n := (m : Int)) rfl S13.out).mono ?_; rintro e w' ⟨rfl, rfl⟩
  go_wp2_with fail
  refine (cut_at (k := -1) (s' := ⟨1 + (R : Int), x5, m, -1, false⟩) (n := 2) (cutS_arg _ _ rfl (.inl (by decide))) S13.out).mono ?_; rintro e w14 ⟨rfl, N14, _, hs14, hF14⟩
  have S14 := Lib.hid hs14
  have B14 := Lib.hid (B13.out.trans (S13.out.below hF14))
  clear hs14 hF14
  go_wp2_with fail
  refine (known18_any _).mono ?_; rintro e w15 ⟨rfl, bk⟩
  go_wp2_with fail
  go_returns
  exact ⟨rfl, B14.out.trans (bk.mono B14.out.size)⟩


set_option maxRecDepth 100000 in
theorem lifted (os : Os) (started : os.Started) (H : Type) (enc : TypeId × Value → H) :
    ReturnsInHanded {} Try.checked os 5 .any (Rows.spoolRoomSpec.pre6 enc Try.prog Try.f5 Rows.spoolRoomRow.domain false) (Rows.spoolRoomSpec.post enc Try.prog Try.f5 false true false false) := by
  refine returnsInHanded_of_change (C := Try.checked) own started (by kernel_rfl) Try.func5
    (ChangeSpec.witness6 (enc := enc) (C := Try.checked) false ⟨#[], #[.int .i64 0, .int .i64 0, .int .i64 0], []⟩ 8 (by kernel_rfl) (by kernel_rfl) (by kernel_rfl) (by kernel_rfl)) ?_
  intro W base args ds gs before hval0 hW _ _
  have hval : ∀ (j : Nat) t v, Try.f5.params[j]? = some t → args[j]? = some v → Value.okWide Try.prog W .any base t v := hval0
  have hW' := hW
  obtain ⟨p, q, hA0, hV, rfl, hfz, hnd⟩ := hW
  have hA : DataW.TrodAll enc Try.prog W 0 (fun _ => true) true Try.f5.params.toList args.toList ds p := hA0
  rw [Try.params5] at hA hval
  obtain ⟨v0, vs0, d0, ds0, p0, q0, hargs, rfl, rfl, h0, r0⟩ := trodAll_cons hA
  obtain ⟨v1, vs1, d1, ds1, p1, q1, rfl, rfl, rfl, h1, r1⟩ := trodAll_cons r0
  obtain ⟨v2, vs2, d2, ds2, p2, q2, rfl, rfl, rfl, h2, r2⟩ := trodAll_cons r1
  obtain ⟨rfl, rfl, rfl⟩ := trodAll_nil r2
  obtain rfl : args = #[v0, v1, v2] := by cases args; simp_all
  obtain ⟨room, rfl, rfl, rfl, w0⟩ := open_int Try.underlying3 (hval 0 3 v0 rfl rfl) h0
  obtain ⟨n, rfl, rfl, rfl, w1⟩ := open_int Try.underlying3 (hval 1 3 v1 rfl rfl) h1
  obtain ⟨cut, rfl, rfl, rfl, w2⟩ := open_int Try.underlying3 (hval 2 3 v2 rfl rfl) h2
  clear hA0 hval0
  refine (walk room n cut W w0 w1 w2).mono fun e W' ⟨he, hb⟩ => ?_
  subst he
  exact ⟨_, rfl, law_post (by kernel_rfl) (by kernel_rfl) rfl Try.underlying4 rfl hW' rfl hb⟩

theorem over : Rows.spoolRoomRow.holds Try.pinned (OpenSpec.ofChange Rows.spoolRoomSpec) :=
  OpenClaim.holds_of_wide 5 Try.f5 rfl rfl rfl rfl rfl rfl rfl ⟨rfl, rfl, rfl, rfl, rfl⟩ rfl rfl rfl rfl rfl (by kernel_rfl) Try.func5 (by kernel_rfl)
    (of_decide_eq_true (by kernel_rfl)) (by unfold Func.isWrapper; first | (rw [if_pos (by decide +kernel)]; kernel_rfl) | (rw [if_neg (by decide +kernel)]; exact ⟨rfl, rfl⟩))
    (fun os started H enc _ => lifted os started H enc)

theorem proved : Rows.SpoolRoomSaid :=
  over
#print axioms proved
end Go.Proofs.Ytifcmapicpnkgaa.spoolRoom
