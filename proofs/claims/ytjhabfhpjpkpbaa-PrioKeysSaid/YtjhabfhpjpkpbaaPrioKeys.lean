/-
  PrioKeys: of any jobs the ranked keys, and who comes first, are what gangerref12 says, and they stay: so the law returns true for every input.
-/
import Derived.Test.YtjhabfhpjpkpbaaAskArgs
import Derived.Test.YtjhabfhpjpkpbaaPrioKnown
import Derived.Test.YtjhabfhpjpkpbaaRows
import Derived.Test.YtjhabfhpjpkpbaaArgs2
namespace Go.Proofs.Ytjhabfhpjpkpbaa.prioKeys
open Go.ChangeShapes Go.WideShapes Go.ChangeAt Go.RowKit
set_option linter.unusedVariables false

theorem own : ownKnob Try.prog.godebug = none := by kernel_rfl

open Go.Lib Go.Sort Go.Maps
attribute [local go_sem ↓] ask_neq ask_grd
theorem long (f a s q p : Int) (A : Option Addr) (n c : Nat) (now all : Int) (w : World) (h : 200 < n) (hm : n ≤ maxLen) :
    Calls Try.prog 5 #[.agg #[.int .i64 f, .int .i64 a, .int .i64 s, .int .i64 q, .int .i64 p], .slice A n c, .int .i64 now, .int .i64 all] w fun e w' => e = .returned (.bool true) ∧ Below w.heap.size w w' := by
  have t : decide ((n : Int) > 200) = true := decide_eq_true (by omega)
  have t' : decide (200 < n) = true := decide_eq_true h
  clear h hm
  go_enter Try.func5, Try.ntmps5
  go_wp2_with fail
  refine (known12_any _).mono ?_; rintro e w2 ⟨rfl, b2⟩
  go_wp2_with fail
  go_ret
  exact ⟨rfl, below_next b2 ((Below.refl _ _).alloc (Nat.le_refl _) _)⟩

set_option maxRecDepth 100000 in
set_option maxHeartbeats 2000000 in
theorem short (f a s q p : Int) (A : Option Addr) (c : Nat) (l : List AskS) (now all : Int) (w : World) (hr : ARow w (.slice A l.length c) l) (hok : ∀ x ∈ l, AskOk x) (h : ¬ 200 < l.length) (hnow : I64 now) (hall : I64 all) :
    Calls Try.prog 5 #[.agg #[.int .i64 f, .int .i64 a, .int .i64 s, .int .i64 q, .int .i64 p], .slice A l.length c, .int .i64 now, .int .i64 all] w fun e w' => e = .returned (.bool true) ∧ Below w.heap.size w w' := by
  obtain ⟨i0, hi, hz0, hz1, hz2⟩ := info_parts Try.infoAsk
  have hn : l.length ≤ 1048576 := by omega
  have t : decide ((l.length : Int) > 200) = false := decide_eq_false (by omega)
  have t' : decide (200 < l.length) = false := decide_eq_false h
  have K1 : Hid (∀ v w1, ARow w1 v l → Calls Try.prog 19 #[.agg #[.int .i64 f, .int .i64 a, .int .i64 s, .int .i64 q, .int .i64 p], v, .int .i64 now, .int .i64 all] w1 fun e w' => ∃ v', e = .returned (.tuple #[v', .int .i64 (keysE ⟨f, a, s, q, p⟩ now all l)]) ∧ KRow w' v' (keysL ⟨f, a, s, q, p⟩ now all l) ∧ Below w1.heap.size w1 w') := fun v w1 hv => keys_any v ⟨f, a, s, q, p⟩ l now all w1 hn hnow hall hok hv
  have K2 : Hid (∀ v w1, ARow w1 v l → Calls Try.prog 20 #[.agg #[.int .i64 f, .int .i64 a, .int .i64 s, .int .i64 q, .int .i64 p], v, .int .i64 now, .int .i64 all] w1 fun e w' => ∃ v', e = .returned (.tuple #[v', .int .i64 (keysE ⟨f, a, s, q, p⟩ now all l)]) ∧ KRow w' v' (keysL ⟨f, a, s, q, p⟩ now all l) ∧ Below w1.heap.size w1 w') := fun v w1 hv => refKeys_any v ⟨f, a, s, q, p⟩ l now all w1 hn hnow hall hok hv
  have F1 : Hid (∀ v w1, ARow w1 v l → Calls Try.prog 21 #[.agg #[.int .i64 f, .int .i64 a, .int .i64 s, .int .i64 q, .int .i64 p], v, .int .i64 now, .int .i64 all] w1 fun e w' => e = .returned (.tuple #[.int .u32 (firstV ⟨f, a, s, q, p⟩ now all l), .int .i64 (firstE ⟨f, a, s, q, p⟩ now all l)]) ∧ Below w1.heap.size w1 w') := fun v w1 hv => first_any v ⟨f, a, s, q, p⟩ l now all w1 hn hnow hall hok hv
  have F2 : Hid (∀ v w1, ARow w1 v l → Calls Try.prog 22 #[.agg #[.int .i64 f, .int .i64 a, .int .i64 s, .int .i64 q, .int .i64 p], v, .int .i64 now, .int .i64 all] w1 fun e w' => e = .returned (.tuple #[.int .u32 (firstV ⟨f, a, s, q, p⟩ now all l), .int .i64 (firstE ⟨f, a, s, q, p⟩ now all l)]) ∧ Below w1.heap.size w1 w') := fun v w1 hv => refFirst_any v ⟨f, a, s, q, p⟩ l now all w1 hn hnow hall hok hv
  have hkl : (keysL ⟨f, a, s, q, p⟩ now all l).length ≤ 1048576 := by
    unfold keysL; split
    · rw [(sortK_perm _).length_eq]; simp [keysR]; exact hn
    · simp
  have HKL := Lib.hid hkl
  have SL := Lib.hid (src_asks hr)
  have HR := Lib.hid hr
  have H1 : Hid (∀ u ∈ flatA l, u.oneCell' = true) := flatA_one l
  have HO : Hid (∀ base v w1, w1.ownsRow base 29 7 v l.length (flatA l) → ARow w1 v l) := fun base v w1 ho => arow_of_owns rfl ho
  clear hr hok hnow hall hkl h
  generalize keysE ⟨f, a, s, q, p⟩ now all l = ke at *
  generalize keysL ⟨f, a, s, q, p⟩ now all l = kl at *
  generalize firstE ⟨f, a, s, q, p⟩ now all l = fe at *
  generalize firstV ⟨f, a, s, q, p⟩ now all l = fv at *
  generalize flatA l = fl at *
  go_enter Try.func5, Try.ntmps5
  go_wp2_with (first
    | (at_builtin; refine wpList_app rfl _ _ 36 rfl (w.heap.size + 1) 29 i0 _ 7 56 Try.underlying36 hi hz0 hz1 hz2 rfl (by decide) _ 0 [] rfl (World.ownsRow_nil _ _ _ _) _ l.length fl rfl (SL.out.kept ((Below.refl _ _).alloc (Nat.le_refl _) _)) H1.out (by unfold maxLen; omega) (by omega) (by simp) ?_; intro vo w1 ho1 hg1 hl1;
       have B1 : Hid (Below w.heap.size w w1) := ((Below.refl _ _).alloc (Nat.le_refl _) _).grown hg1 (by simp) (fun j hj => nomatch (show (none : Option Nat) = some j from hj));
       have X1 : Hid (Blk w1 w.heap.size #[.int .i64 f, .int .i64 a, .int .i64 s, .int .i64 q, .int .i64 p] 26) := Blk.grown (Blk.new _ _ _) hg1 (fun hh => nomatch (show (some w.heap.size : Option Nat) = none from hh));
       have R1 := Lib.hid (HO.out (w.heap.size + 1) vo w1 (by rw [Nat.zero_add, List.nil_append] at ho1; exact ho1));
       have g0 := X1.out.cell 0; simp at g0;
       have g1 := X1.out.cell 1; simp at g1;
       have g2 := X1.out.cell 2; simp at g2;
       have g3 := X1.out.cell 3; simp at g3;
       have g4 := X1.out.cell 4; simp at g4))
  refine (K1.out _ _ R1.out).mono ?_; rintro e w2 ⟨x2, rfl, hx2, b2⟩
  have KX2 := Lib.hid hx2
  have X2 := Lib.hid (X1.out.kept b2)
  have R2 := Lib.hid (R1.out.kept b2)
  have B2 := Lib.hid (below_next b2 B1.out)
  clear hx2 b2 g0 g1 g2 g3 g4 X1 R1 B1
  have g0 := X2.out.cell 0; simp at g0
  have g1 := X2.out.cell 1; simp at g1
  have g2 := X2.out.cell 2; simp at g2
  have g3 := X2.out.cell 3; simp at g3
  have g4 := X2.out.cell 4; simp at g4
  go_wp2_with fail
  refine (K2.out _ _ (HR.out.kept B2.out)).mono ?_; rintro e w3 ⟨y3, rfl, hy3, b3⟩
  have KY3 := Lib.hid hy3
  have KX3 := Lib.hid (KX2.out.kept b3)
  have X3 := Lib.hid (X2.out.kept b3)
  have R3 := Lib.hid (R2.out.kept b3)
  have B3 := Lib.hid (below_next b3 B2.out)
  clear hy3 b3 g0 g1 g2 g3 g4 X2 R2 B2 KX2
  have g0 := X3.out.cell 0; simp at g0
  have g1 := X3.out.cell 1; simp at g1
  have g2 := X3.out.cell 2; simp at g2
  have g3 := X3.out.cell 3; simp at g3
  have g4 := X3.out.cell 4; simp at g4
  go_wp2_with fail
  refine (F1.out _ _ R3.out).mono ?_; rintro e w4 ⟨rfl, b4⟩
  have KY4 := Lib.hid (KY3.out.kept b4)
  have KX4 := Lib.hid (KX3.out.kept b4)
  have X4 := Lib.hid (X3.out.kept b4)
  have R4 := Lib.hid (R3.out.kept b4)
  have B4 := Lib.hid (below_next b4 B3.out)
  clear b4 g0 g1 g2 g3 g4 X3 R3 B3 KX3 KY3
  have g0 := X4.out.cell 0; simp at g0
  have g1 := X4.out.cell 1; simp at g1
  have g2 := X4.out.cell 2; simp at g2
  have g3 := X4.out.cell 3; simp at g3
  have g4 := X4.out.cell 4; simp at g4
  go_wp2_with fail
  refine (F2.out _ _ (HR.out.kept B4.out)).mono ?_; rintro e w5 ⟨rfl, b5⟩
  have KY := Lib.hid (KY4.out.kept b5)
  have KX := Lib.hid (KX4.out.kept b5)
  have RO := Lib.hid (R4.out.kept b5)
  have B5 := Lib.hid (below_next b5 B4.out)
  have RL := Lib.hid (HR.out.kept B5.out)
  clear b5 g0 g1 g2 g3 g4 X4 R4 B4 KX4 KY4 K1 K2 F1 F2 HO SL H1
  have HSa : Hid (∀ wr, Below w5.heap.size w5 wr → Calls Try.prog 23 #[x2, y3] wr fun e w' => e = .returned (.bool true) ∧ Below wr.heap.size wr w') := fun wr hb => by
    have := same_any x2 y3 kl kl wr HKL.out HKL.out (KX.out.kept hb) (KY.out.kept hb)
    rw [decide_eq_true rfl] at this; exact this
  have q1 : (ke == ke) = true := by simp
  have q2 : (fv == fv) = true := by simp
  have q3 : (fe == fe) = true := by simp
  rcases Nat.eq_zero_or_pos l.length with h0 | h0
  · have el : l = [] := List.eq_nil_of_length_eq_zero h0
    subst el
    clear h0
    go_wp2_with fail
    refine wp_loop_rounds 1 ?_
    rw [rounds_succ]
    go_wp2_with fail
    refine (HSa.out _ (Below.refl _ _)).mono ?_; rintro e w6 ⟨rfl, b6⟩
    go_wp2_with fail
    refine (known12_any _).mono ?_; rintro e w7 ⟨rfl, b7⟩
    go_wp2_with fail
    go_ret
    exact ⟨rfl, below_next b7 (below_next b6 B5.out)⟩
  · obtain ⟨bo, oo, co, rfl, hco, hcl⟩ : ∃ b off c, vo = .slice (some ⟨b, off, none⟩) l.length c ∧ l.length ≤ 9223372036854775807 ∧ ACells w5 b off l := by
      rcases RO.out with ⟨h, _⟩ | ⟨b, off, c, hv, _, h1, h2, hc⟩
      · rw [h] at h0; cases h0
      · exact ⟨b, off, c, hv, by unfold maxLen at h2; omega, hc⟩
    obtain ⟨bl, ol, cl, hA, hcl2⟩ : ∃ b off c', Value.slice A l.length c = .slice (some ⟨b, off, none⟩) l.length c' ∧ ACells w5 b off l := by
      rcases RL.out with ⟨h, _⟩ | ⟨b, off, c', hv, _, h1, h2, hc⟩
      · rw [h] at h0; cases h0
      · exact ⟨b, off, c', hv, hc⟩
    injection hA with hA1 _ hA3
    subst hA1 hA3
    have C1 := Lib.hid hcl
    have C2 := Lib.hid hcl2
    clear hcl hcl2 RO RL HR
    go_wp2_with fail
    go_loopw [18] (fun i wr => ∃ j : Nat, j ≤ l.length ∧ i = .int .i64 j ∧ Below w5.heap.size w5 wr) (fun i _ => l.length - (intOf i).toNat)
    case atStart => exact ⟨0, Nat.zero_le _, rfl, Below.refl _ _⟩
    case round =>
      obtain ⟨j, hj, rfl, hB⟩ := hrel
      by_cases hlt : j < l.length
      · have hlt' : decide (j < l.length) = true := decide_eq_true hlt
        have hlt2 : (j : Int) < l.length := by omega
        obtain ⟨c0, c1, c2, c3, c4, c5, c6⟩ := (C1.out.kept hB).2 j hlt
        obtain ⟨d0, d1, d2, d3, d4, d5, d6⟩ := (C2.out.kept hB).2 j hlt
        generalize aAt l j = x at *
        go_wp2_with fail
        go_quiet (fail)
        go_wp2_with fail
        go_roundw
        case rel => exact ⟨j + 1, hlt, by go_num, below_drewN hB _⟩
        case measure => simp [intOf]; omega
      · obtain rfl : j = l.length := by omega
        have hlt' : decide (l.length < l.length) = false := decide_eq_false (by omega)
        go_wp2_with fail
        refine (HSa.out _ hB).mono ?_; rintro e w6 ⟨rfl, b6⟩
        go_wp2_with fail
        refine (known12_any _).mono ?_; rintro e w7 ⟨rfl, b7⟩
        go_wp2_with fail
        go_ret
        exact ⟨rfl, below_next b7 (below_next b6 (below_next hB B5.out))⟩

theorem walk (f a s q p : Int) (v : Value) (l : List AskS) (now all : Int) (w : World) (w0_0 : (Lit.int .i64 f).wf = true) (w0_1 : (Lit.int .i64 a).wf = true) (w0_2 : (Lit.int .i64 s).wf = true) (w0_3 : (Lit.int .i64 q).wf = true) (w0_4 : (Lit.int .i64 p).wf = true) (w1 : AArg w v l) (w2 : (Lit.int .i64 now).wf = true) (w3 : (Lit.int .i64 all).wf = true) :
    Calls Try.prog 5 #[.agg #[.int .i64 f, .int .i64 a, .int .i64 s, .int .i64 q, .int .i64 p], v, .int .i64 now, .int .i64 all] w fun e w' => e = .returned (.bool true) ∧ Below w.heap.size w w' := by
  obtain ⟨hr, ⟨A, c, rfl⟩, hm, hok⟩ := w1
  by_cases h : 200 < l.length
  · exact long f a s q p A _ c now all w h hm
  · exact short f a s q p A c l now all w hr hok h (wf_i64' w2) (wf_i64' w3)

set_option maxRecDepth 100000 in
theorem lifted (os : Os) (started : os.Started) (H : Type) (enc : TypeId × Value → H) :
    ReturnsInHanded {} Try.checked os 5 .any (Rows.prioKeysSpec.pre6 enc Try.prog Try.f5 Rows.prioKeysRow.domain false) (Rows.prioKeysSpec.post enc Try.prog Try.f5 false true false false) := by
  refine returnsInHanded_of_change (C := Try.checked) own started (by kernel_rfl) Try.func5
    (ChangeSpec.witness6 (enc := enc) (C := Try.checked) false ⟨#[], #[.agg #[.int .i64 0, .int .i64 0, .int .i64 0, .int .i64 0, .int .i64 0], .slice none 0 0, .int .i64 0, .int .i64 0], []⟩ 8 (by kernel_rfl) (by kernel_rfl) (by kernel_rfl) (by kernel_rfl)) ?_
  intro W base args ds gs before hval0 hW _ _
  have hval : ∀ (j : Nat) t v, Try.f5.params[j]? = some t → args[j]? = some v → Value.okWide Try.prog W .any base t v := hval0
  have hW' := hW
  obtain ⟨p, q, hA0, hV, rfl, hfz, hnd⟩ := hW
  have hA : DataW.TrodAll enc Try.prog W 0 (fun _ => true) true Try.f5.params.toList args.toList ds p := hA0
  rw [Try.params5] at hA hval
  obtain ⟨v0, vs0, d0, ds0, p0, q0, hargs, rfl, rfl, h0, r0⟩ := trodAll_cons hA
  obtain ⟨v1, vs1, d1, ds1, p1, q1, rfl, rfl, rfl, h1, r1⟩ := trodAll_cons r0
  obtain ⟨v2, vs2, d2, ds2, p2, q2, rfl, rfl, rfl, h2, r2⟩ := trodAll_cons r1
  obtain ⟨v3, vs3, d3, ds3, p3, q3, rfl, rfl, rfl, h3, r3⟩ := trodAll_cons r2
  obtain ⟨rfl, rfl, rfl⟩ := trodAll_nil r3
  obtain rfl : args = #[v0, v1, v2, v3] := by cases args; simp_all
  obtain ⟨cs0, rfl, hs0, hf0⟩ := open_plain_struct Try.underlying26 (by kernel_rfl) (by kernel_rfl) (hval 0 26 v0 rfl rfl) h0
  obtain ⟨c0_0, y0_0, n0_0, e0_0, t0_0⟩ := hf0 0 _ rfl
  obtain ⟨f, rfl, w0_0⟩ := field_int Try.underlying3 t0_0
  obtain ⟨c0_1, y0_1, n0_1, e0_1, t0_1⟩ := hf0 1 _ rfl
  obtain ⟨a, rfl, w0_1⟩ := field_int Try.underlying3 t0_1
  obtain ⟨c0_2, y0_2, n0_2, e0_2, t0_2⟩ := hf0 2 _ rfl
  obtain ⟨s, rfl, w0_2⟩ := field_int Try.underlying3 t0_2
  obtain ⟨c0_3, y0_3, n0_3, e0_3, t0_3⟩ := hf0 3 _ rfl
  obtain ⟨q, rfl, w0_3⟩ := field_int Try.underlying3 t0_3
  obtain ⟨c0_4, y0_4, n0_4, e0_4, t0_4⟩ := hf0 4 _ rfl
  obtain ⟨p, rfl, w0_4⟩ := field_int Try.underlying3 t0_4
  obtain rfl : cs0 = #[.int .i64 f, .int .i64 a, .int .i64 s, .int .i64 q, .int .i64 p] := arr_of cs0 [.int .i64 f, .int .i64 a, .int .i64 s, .int .i64 q, .int .i64 p] hs0 (fun j hj => by match j, hj with | 0, _ => exact e0_0 | 1, _ => exact e0_1 | 2, _ => exact e0_2 | 3, _ => exact e0_3 | 4, _ => exact e0_4 | j + 5, hj => exact absurd hj (by simp))
  obtain ⟨l, w1⟩ := open_asks_arg h1 (okWide_slice Try.underlying36 (hval 1 36 v1 rfl rfl))
  obtain ⟨now, rfl, rfl, rfl, w2⟩ := open_int Try.underlying3 (hval 2 3 v2 rfl rfl) h2
  obtain ⟨all, rfl, rfl, rfl, w3⟩ := open_int Try.underlying3 (hval 3 3 v3 rfl rfl) h3
  clear hA0 hval0
  refine (walk f a s q p v1 l now all W w0_0 w0_1 w0_2 w0_3 w0_4 w1 w2 w3).mono fun e W' ⟨he, hb⟩ => ?_
  subst he
  exact ⟨_, rfl, law_post (by kernel_rfl) (by kernel_rfl) rfl Try.underlying4 rfl hW' rfl hb⟩

theorem over : Rows.prioKeysRow.holds Try.pinned (OpenSpec.ofChange Rows.prioKeysSpec) :=
  OpenClaim.holds_of_wide 5 Try.f5 rfl rfl rfl rfl rfl rfl rfl ⟨rfl, rfl, rfl, rfl, rfl⟩ rfl rfl rfl rfl rfl (by kernel_rfl) Try.func5 (by kernel_rfl)
    (of_decide_eq_true (by kernel_rfl)) (by unfold Func.isWrapper; first | (rw [if_pos (by decide +kernel)]; kernel_rfl) | (rw [if_neg (by decide +kernel)]; exact ⟨rfl, rfl⟩))
    (fun os started H enc _ => lifted os started H enc)

theorem proved : Rows.PrioKeysSaid :=
  over
#print axioms proved
end Go.Proofs.Ytjhabfhpjpkpbaa.prioKeys
