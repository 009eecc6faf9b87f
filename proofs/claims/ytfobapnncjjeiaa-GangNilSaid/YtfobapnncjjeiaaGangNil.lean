/-
  GangNil: a matrix that is not there answers so; just as many whole rows as the limit says; two matrices know nothing of one another: so the law returns true for every input.
-/
import Derived.Test.YtfobapnncjjeiaaGaNi
import Derived.Test.YtfobapnncjjeiaaGaNp
import Derived.Test.YtfobapnncjjeiaaLaw
import Derived.Test.YtfobapnncjjeiaaRows
import Derived.Test.YtfobapnncjjeiaaArgs2
namespace Go.Proofs.Ytfobapnncjjeiaa.gangNil
open Go.ChangeShapes Go.WideShapes Go.ChangeAt Go.RowKit
set_option linter.unusedVariables false

theorem own : ownKnob Try.prog.godebug = none := by kernel_rfl

open Go Go.ChangeShapes Go.WideShapes Go.ChangeAt Go.RowKit Go.Lib Go.Deep
/-- A number that the law counts from. -/
theorem first_of (I : Nat) : ∃ f : Nat, 1 ≤ f ∧ f ≤ 1000000 ∧ 1 + (I : Int) % 1000000 = (f : Int) := ⟨1 + I % 1000000, by omega, by omega, by omega⟩
theorem p_row (m f i : Nat) (own : Nat → Prop) (w : World) (hi : i < 16) (hf : 1 ≤ f) (hf2 : f ≤ 1000000) (h : GM w m own 1 0 (lN f i)) : Calls Try.prog 29 #[.pointer (some ⟨m, 0, none⟩), .int .u32 ((f + i : Nat) : Int), .int .i64 1] w fun e w' => e = .returned (.tuple #[.agg #[.int .u32 ((f + i : Nat) : Int), .int .i64 (i : Nat), .int .i64 0, .int .i64 1], .int .i64 0]) ∧ GM w' m own 1 0 (lN f (i + 1)) ∧ Chg own w w' :=
  (gplace_any m 1 0 (f + i) 1 own _ w h (by omega)).mono (by
    rintro e w' ⟨c, er, l', rfl, hp, hg, hc⟩
    obtain ⟨rfl, rfl, rfl⟩ := place_row hi hf hp
    exact ⟨rfl, hg, hc⟩)
theorem p_full (m f : Nat) (own : Nat → Prop) (w : World) (hf : 1 ≤ f) (hf2 : f ≤ 1000000) (h : GM w m own 1 0 (lN f 16)) : Calls Try.prog 29 #[.pointer (some ⟨m, 0, none⟩), .int .u32 ((f + 16 : Nat) : Int), .int .i64 0] w fun e w' => e = .returned (.tuple #[.agg #[.int .u32 0, .int .i64 0, .int .i64 0, .int .i64 0], .int .i64 5]) ∧ GM w' m own 1 0 (lN f 16) ∧ Chg own w w' :=
  (gplace_any m 1 0 (f + 16) 0 own _ w h (by omega)).mono (by
    rintro e w' ⟨c, er, l', rfl, hp, hg, hc⟩
    obtain ⟨rfl, rfl, rfl⟩ := place_full hf hp
    exact ⟨rfl, hg, hc⟩)
theorem p_rem (m f : Nat) (own : Nat → Prop) (w : World) (h : GM w m own 1 0 (lN f 16)) : Calls Try.prog 30 #[.pointer (some ⟨m, 0, none⟩), .int .u32 ((f + 3 : Nat) : Int)] w fun e w' => e = .returned (.int .i64 0) ∧ (∃ a, GM w' m own 1 a (lM f)) ∧ Chg own w w' :=
  (gremove_any m 1 0 (f + 3) own _ w h).mono (by
    rintro e w' ⟨er, a', l', rfl, hp, hg, hc⟩
    obtain ⟨rfl, rfl⟩ := rem_three hp
    exact ⟨rfl, ⟨a', hg⟩, hc⟩)
theorem p_last (m f a : Nat) (own : Nat → Prop) (w : World) (hf : 1 ≤ f) (hf2 : f ≤ 1000000) (h : GM w m own 1 a (lM f)) : Calls Try.prog 29 #[.pointer (some ⟨m, 0, none⟩), .int .u32 ((f + 17 : Nat) : Int), .int .i64 0] w fun e w' => e = .returned (.tuple #[.agg #[.int .u32 ((f + 17 : Nat) : Int), .int .i64 3, .int .i64 0, .int .i64 0], .int .i64 0]) ∧ GM w' m own 1 a (insG (lM f) (f + 17, 3, 0, 0)) ∧ Chg own w w' :=
  (gplace_any m 1 a (f + 17) 0 own _ w h (by omega)).mono (by
    rintro e w' ⟨c, er, l', rfl, hp, hg, hc⟩
    obtain ⟨rfl, rfl, rfl⟩ := place_three hf hp
    exact ⟨rfl, hg, hc⟩)
theorem p_rows (m f a : Nat) (own : Nat → Prop) (w : World) (h : GM w m own 1 a (insG (lM f) (f + 17, 3, 0, 0))) : Calls Try.prog 17 #[.pointer (some ⟨m, 0, none⟩)] w fun e w' => e = .returned (.int .i64 16) ∧ Below w.heap.size w w' := by
  have h1 := rows_any m 1 a own _ w h.gn
  rw [rows_three h.ok] at h1
  exact h1
set_option maxRecDepth 100000 in
set_option maxHeartbeats 8000000 in
theorem walk (v : Value) (L : List AcI) (ID : Int) (w : World) (hA : AcArg w v L) (hI : (Lit.int .u32 ID).wf = true) :
    Calls Try.prog 9 #[v, .int .u32 ID] w fun e w' => e = .returned (.bool true) ∧ Below w.heap.size w w' := by
  have MX : Hid (∀ wq, Below w.heap.size w wq → Calls Try.prog 24 #[v] wq fun e w' => (∃ m a l, e = .returned (.pointer (some ⟨m, 0, none⟩)) ∧ GM w' m (fun k => wq.heap.size ≤ k) 4 a l) ∧ Below wq.heap.size wq w') := fun wq hb => matrix_any v L wq ⟨RowG.kept hA.1 hb, hA.2⟩
  have K : Hid (∀ w1, Calls Try.prog 10 #[] w1 fun e w' => e = .returned (.bool true) ∧ Below w1.heap.size w1 w') := known16_any
  obtain ⟨hi0, hi1⟩ := u32_wf hI
  obtain ⟨id, rfl⟩ := Int.eq_ofNat_of_zero_le hi0
  obtain ⟨f, hf1, hf2, hfw⟩ := first_of id
  clear hi0 hi1 hI hA
  have N1 := Lib.hid (nplace_any 1 0 w)
  go_enter Try.func9, Try.ntmps9
  go_wp2_with fail
  refine N1.out.mono ?_; rintro e w1 ⟨rfl, b1⟩
  have HB1 := Lib.hid b1
  clear b1 N1
  go_upto_region 3 with fail
  obtain ⟨W, hW⟩ : ∃ x, x = w1.alloc (.cells #[.int .u32 0, .int .i64 0, .int .i64 0, .int .i64 0] 48) := ⟨_, rfl⟩
  have HBW : Hid (Below w.heap.size w W) := by unfold Hid; rw [hW]; exact HB1.out.alloc HB1.out.size _
  rw [← hW]
  clear hW HB1
  go_wp2_with fail
  refine (nturn_any W).mono ?_; rintro e w2 ⟨rfl, hw⟩
  obtain rfl := hw
  go_wp2_with fail
  refine (nrem_any 1 w2).mono ?_; rintro e w3 ⟨rfl, hw⟩
  obtain rfl := hw
  go_wp2_with fail
  refine (nunify_any w3).mono ?_; rintro e w4 ⟨rfl, hw⟩
  obtain rfl := hw
  go_wp2_with fail
  refine (nactive_any w4).mono ?_; rintro e w5 ⟨rfl, hw⟩
  obtain rfl := hw
  go_wp2_with fail
  refine (nrows_any w5).mono ?_; rintro e w6 ⟨rfl, hw⟩
  obtain rfl := hw
  go_wp2_with fail
  refine (ncells_any w6).mono ?_; rintro e w7 ⟨rfl, hw⟩
  obtain rfl := hw
  go_wp2_with fail
  refine (nruns_any w7).mono ?_; rintro e w8 ⟨⟨ra, rc, rfl⟩, b8⟩
  have HB8 := Lib.hid (below_next b8 HBW.out)
  clear b8 HBW
  go_wp2_with fail
  refine (nidle_any w8).mono ?_; rintro e w9 ⟨rfl, hw⟩
  obtain rfl := hw
  have MX2 := Lib.hid (MX.out w9 HB8.out)
  clear MX
  go_wp2_with fail
  refine MX2.out.mono ?_; rintro e w10 ⟨⟨mm, am, lm, rfl, _⟩, b10⟩
  have HB10 := Lib.hid (below_next b10 HB8.out)
  have NW := Lib.hid (gnew_ok 1 w10 (by omega) w10.heap.size (Nat.le_refl _))
  clear b10 MX2 HB8
  go_wp2_with fail
  refine NW.out.mono ?_; rintro e w11 ⟨⟨m, rfl, hmlo, hg1⟩, b11⟩
  obtain ⟨o1, ho1⟩ : ∃ own : Nat → Prop, own = fun k => w10.heap.size ≤ k := ⟨_, rfl⟩
  rw [← ho1] at hg1
  have HO1 : Hid (∀ k, o1 k → w.heap.size ≤ k) := fun k h => by rw [ho1] at h; exact Nat.le_trans HB10.out.size h
  have HB11 := Lib.hid (below_next b11 HB10.out)
  have HG1 := Lib.hid hg1
  clear ho1 b11 NW HB10 hmlo hg1
  go_upto_region 10 with fail
  clear hfw
  obtain ⟨J16, hJ16⟩ : ∃ J, J = f + 16 := ⟨_, rfl⟩
  obtain ⟨J3, hJ3⟩ : ∃ J, J = f + 3 := ⟨_, rfl⟩
  obtain ⟨J17, hJ17⟩ : ∃ J, J = f + 17 := ⟨_, rfl⟩
  have P16 := Lib.hid (fun own wq h => p_full m f own wq hf1 hf2 h)
  have P3 := Lib.hid (fun own wq h => p_rem m f own wq h)
  have P17 := Lib.hid (fun a own wq h => p_last m f a own wq hf1 hf2 h)
  rw [← hJ16] at P16
  rw [← hJ3] at P3
  have HJ17 := Lib.hid hJ17
  rw [← hJ17] at P17
  have j16 : (f : Int) + 16 = (J16 : Int) := by omega
  have j3 : (f : Int) + 3 = (J3 : Int) := by omega
  have j17 : (f : Int) + 17 = (J17 : Int) := by omega
  have b16 : J16 ≤ 1000016 := by omega
  have b3 : J3 ≤ 1000016 := by omega
  have b17 : J17 ≤ 1000017 := by omega
  clear hJ16 hJ3 hJ17
  go_upto_region 11 with fail
  go_loopw [13] (fun iv wr => ∃ i : Nat, i ≤ 16 ∧ iv = .int .u32 (i : Nat) ∧ Hid (GM wr m o1 1 0 (lN f i)) ∧ Hid (Below w.heap.size w wr)) (fun iv _ => 16 - (RowKit.intOf iv).toNat)
  case atStart => exact ⟨0, Nat.zero_le _, rfl, HG1.out, HB11.out⟩
  case round =>
    obtain ⟨i, hi, rfl, HG, HB⟩ := hrel
    by_cases hlt : i < 16
    · have d1 : decide ((i : Int) < 16) = true := decide_eq_true (by omega)
      have d1' : decide (i < 16) = true := decide_eq_true hlt
      have PL := Lib.hid (p_row m f i o1 wr hlt hf1 hf2 HG.out)
      obtain ⟨J, hJ⟩ : ∃ J, J = f + i := ⟨_, rfl⟩
      rw [← hJ] at PL
      have hJi : (f : Int) + (i : Int) = (J : Int) := by omega
      have hJ9 : J ≤ 1000016 := by omega
      clear hJ
      go_wp2_with fail
      refine PL.out.mono ?_; rintro e w12 ⟨rfl, hg, hc⟩
      have HG2 := Lib.hid hg
      have HB2 := Lib.hid (HB.out.trans (hc.to_below HB.out.size (fun k hk h => by have := HO1.out k h; omega)))
      clear hg hc PL HG HB
      go_upto_region 14 with fail
      obtain ⟨g, hg⟩ : ∃ g, g = w12.heap.size := ⟨_, rfl⟩
      obtain ⟨X, hX⟩ : ∃ x, x = w12.alloc (.cells #[.int .u32 (J : Nat), .int .i64 (i : Nat), .int .i64 0, .int .i64 1] 48) := ⟨_, rfl⟩
      have bX : Below w12.heap.size w12 X := by rw [hX]; exact (Below.refl _ _).alloc (Nat.le_refl _) _
      have hXB : Blk X g #[.int .u32 (J : Nat), .int .i64 (i : Nat), .int .i64 0, .int .i64 1] 48 := by rw [hX, hg]; exact Blk.new _ _ _
      have c1 := hXB.cell 1
      simp at c1
      have HG3 := Lib.hid (HG2.out.kept bX)
      have HB3 := Lib.hid (below_next bX HB2.out)
      rw [← hg, ← hX]
      clear hg hX bX hXB HG2 HB2
      go_wp2_with fail
      go_roundw
      case rel => exact ⟨i + 1, hlt, by go_num, HG3.out, HB3.out⟩
      case measure => simp [RowKit.intOf]; omega
    · have d1 : decide ((i : Int) < 16) = false := decide_eq_false (by omega)
      have d1' : decide (i < 16) = false := decide_eq_false hlt
      obtain rfl : i = 16 := by omega
      have PL := Lib.hid (P16.out o1 wr HG.out)
      go_wp2_with fail
      refine PL.out.mono ?_; rintro e w12 ⟨rfl, hg, hc⟩
      have b12 : Below w12.heap.size w12 (w12.alloc (.cells #[.int .u32 0, .int .i64 0, .int .i64 0, .int .i64 0] 48)) := (Below.refl _ _).alloc (Nat.le_refl _) _
      have HG2 := Lib.hid (hg.kept b12)
      have HB2 := Lib.hid (below_next b12 (HB.out.trans (hc.to_below HB.out.size (fun k hk h => by have := HO1.out k h; omega))))
      clear hg hc PL HG HB P16 b12
      go_upto_region 17 with fail
      obtain ⟨X, hX⟩ : ∃ x, x = w12.alloc (.cells #[.int .u32 0, .int .i64 0, .int .i64 0, .int .i64 0] 48) := ⟨_, rfl⟩
      rw [← hX] at HG2 HB2 ⊢
      clear hX
      have PL := Lib.hid (P3.out o1 X HG2.out)
      clear P3 HG2
      go_wp2_with fail
      refine PL.out.mono ?_; rintro e w13 ⟨rfl, ⟨a, hg⟩, hc⟩
      have HB3 := Lib.hid (HB2.out.trans (hc.to_below HB2.out.size (fun k hk h => by have := HO1.out k h; omega)))
      have PL2 := Lib.hid (P17.out a o1 w13 hg)
      clear hg hc PL HB2 P17
      go_wp2_with fail
      refine PL2.out.mono ?_; rintro e w14 ⟨rfl, hg, hc⟩
      have HG4 := Lib.hid hg
      have HB4 := Lib.hid (HB3.out.trans (hc.to_below HB3.out.size (fun k hk h => by have := HO1.out k h; omega)))
      clear hg hc PL2 HB3
      go_upto_region 19 with fail
      obtain ⟨g, hg⟩ : ∃ g, g = w14.heap.size := ⟨_, rfl⟩
      obtain ⟨Y, hY⟩ : ∃ x, x = w14.alloc (.cells #[.int .u32 (J17 : Nat), .int .i64 3, .int .i64 0, .int .i64 0] 48) := ⟨_, rfl⟩
      have bY : Below w14.heap.size w14 Y := by rw [hY]; exact (Below.refl _ _).alloc (Nat.le_refl _) _
      have hYB : Blk Y g #[.int .u32 (J17 : Nat), .int .i64 3, .int .i64 0, .int .i64 0] 48 := by rw [hY, hg]; exact Blk.new _ _ _
      have c1 := hYB.cell 1
      simp at c1
      have HG5 := Lib.hid (HG4.out.kept bY)
      have HB5 := Lib.hid (below_next bY HB4.out)
      rw [← hg, ← hY]
      clear hg hY bY hYB HG4 HB4
      have PR := Lib.hid (p_rows m f a o1 Y (by have h := HG5.out; rw [HJ17.out] at h; exact h))
      go_wp2_with fail
      refine PR.out.mono ?_; rintro e w15 ⟨rfl, b15⟩
      have HB6 := Lib.hid (below_next b15 HB5.out)
      clear b15 PR c1
      go_wp2_with fail
      refine (K.out _).mono ?_; rintro e w16 ⟨rfl, b16'⟩
      have HB7 := below_next b16' HB6.out
      clear b16'
      go_wp2_with fail
      go_ret
      exact ⟨rfl, HB7⟩


set_option maxRecDepth 100000 in
theorem lifted (os : Os) (started : os.Started) (H : Type) (enc : TypeId × Value → H) :
    ReturnsInHanded {} Try.checked os 9 .any (Rows.gangNilSpec.pre6 enc Try.prog Try.f9 Rows.gangNilRow.domain false) (Rows.gangNilSpec.post enc Try.prog Try.f9 false true false false) := by
  refine returnsInHanded_of_change (C := Try.checked) own started (by kernel_rfl) Try.func9
    (ChangeSpec.witness6 (enc := enc) (C := Try.checked) false ⟨#[], #[.slice none 0 0, .int .u32 0], []⟩ 8 (by kernel_rfl) (by kernel_rfl) (by kernel_rfl) (by kernel_rfl)) ?_
  intro W base args ds gs before hval0 hW _ _
  have hval : ∀ (j : Nat) t v, Try.f9.params[j]? = some t → args[j]? = some v → Value.okWide Try.prog W .any base t v := hval0
  have hW' := hW
  obtain ⟨p, q, hA0, hV, rfl, hfz, hnd⟩ := hW
  have hA : DataW.TrodAll enc Try.prog W 0 (fun _ => true) true Try.f9.params.toList args.toList ds p := hA0
  rw [Try.params9] at hA hval
  obtain ⟨v0, vs0, d0, ds0, p0, q0, hargs, rfl, rfl, h0, r0⟩ := trodAll_cons hA
  obtain ⟨v1, vs1, d1, ds1, p1, q1, rfl, rfl, rfl, h1, r1⟩ := trodAll_cons r0
  obtain ⟨rfl, rfl, rfl⟩ := trodAll_nil r1
  obtain rfl : args = #[v0, v1] := by cases args; simp_all
  obtain ⟨L, w0⟩ := open_acts h0 (okWide_slice Try.underlying22 (hval 0 22 v0 rfl rfl))
  obtain ⟨id, rfl, rfl, rfl, w1⟩ := open_int Try.underlying32 (hval 1 32 v1 rfl rfl) h1
  clear hA0 hval0
  refine (walk v0 L id W w0 w1).mono fun e W' ⟨he, hb⟩ => ?_
  subst he
  exact ⟨_, rfl, law_post (by kernel_rfl) (by kernel_rfl) rfl Try.underlying4 rfl hW' rfl hb⟩

theorem over : Rows.gangNilRow.holds Try.pinned (OpenSpec.ofChange Rows.gangNilSpec) :=
  OpenClaim.holds_of_wide 9 Try.f9 rfl rfl rfl rfl rfl rfl rfl ⟨rfl, rfl, rfl, rfl, rfl⟩ rfl rfl rfl rfl rfl (by kernel_rfl) Try.func9 (by kernel_rfl)
    (of_decide_eq_true (by kernel_rfl)) (by unfold Func.isWrapper; first | (rw [if_pos (by decide +kernel)]; kernel_rfl) | (rw [if_neg (by decide +kernel)]; exact ⟨rfl, rfl⟩))
    (fun os started H enc _ => lifted os started H enc)

theorem proved : Rows.GangNilSaid :=
  over
#print axioms proved
end Go.Proofs.Ytfobapnncjjeiaa.gangNil
