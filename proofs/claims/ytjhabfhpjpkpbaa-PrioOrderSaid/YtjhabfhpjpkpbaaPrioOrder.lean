/-
  PrioOrder: of two alike jobs the elder comes first, and then the lesser number; whoever comes first of some does so of any two of these: so the law returns true for every input.
-/
import Derived.Test.YtjhabfhpjpkpbaaOrderW
import Derived.Test.YtjhabfhpjpkpbaaRows
import Derived.Test.YtjhabfhpjpkpbaaArgs2
namespace Go.Proofs.Ytjhabfhpjpkpbaa.prioOrder
open Go.ChangeShapes Go.WideShapes Go.ChangeAt Go.RowKit
set_option linter.unusedVariables false

theorem own : ownKnob Try.prog.godebug = none := by kernel_rfl

open Go.Lib Go.Sort Go.Maps
theorem wf_u16 {n : Int} (h : (Lit.int .u16 n).wf = true) : 0 ≤ n ∧ n ≤ 65535 := by
  simpa [Lit.wf, IntKind.min, IntKind.max, IntKind.bits, IntKind.signed] using h
set_option maxRecDepth 100000 in
theorem long (f a s q p : Int) (id since size nice qos part factor : Int) (A : Option Addr) (n c : Nat) (now all later : Int) (w : World) (h : 100 < n) (hm : n ≤ maxLen) :
    Calls Try.prog 8 #[.agg #[.int .i64 f, .int .i64 a, .int .i64 s, .int .i64 q, .int .i64 p], .agg #[.int .u32 id, .int .i64 since, .int .i64 size, .int .i64 nice, .int .i64 qos, .int .i64 part, .int .i64 factor], .slice A n c, .int .i64 now, .int .i64 all, .int .u16 later] w fun e w' => e = .returned (.bool true) ∧ Below w.heap.size w w' := by
  have t : decide ((n : Int) > 100) = true := decide_eq_true (by omega)
  have t' : decide (100 < n) = true := decide_eq_true h
  clear h hm
  go_enter Try.func8, Try.ntmps8
  go_wp2_with fail
  refine (known12_any _).mono ?_; rintro e w2 ⟨rfl, b2⟩
  go_wp2_with fail
  go_ret
  exact ⟨rfl, below_next b2 (((Below.refl _ _).alloc (Nat.le_refl _) _).alloc (by simp) _)⟩

theorem walk (f a s q p : Int) (id since size nice qos part factor : Int) (v : Value) (l : List AskS) (now all later : Int) (w : World) (w0_0 : (Lit.int .i64 f).wf = true) (w0_1 : (Lit.int .i64 a).wf = true) (w0_2 : (Lit.int .i64 s).wf = true) (w0_3 : (Lit.int .i64 q).wf = true) (w0_4 : (Lit.int .i64 p).wf = true) (w1_0 : (Lit.int .u32 id).wf = true) (w1_1 : (Lit.int .i64 since).wf = true) (w1_2 : (Lit.int .i64 size).wf = true) (w1_3 : (Lit.int .i64 nice).wf = true) (w1_4 : (Lit.int .i64 qos).wf = true) (w1_5 : (Lit.int .i64 part).wf = true) (w1_6 : (Lit.int .i64 factor).wf = true) (w2 : AArg w v l) (w3 : (Lit.int .i64 now).wf = true) (w4 : (Lit.int .i64 all).wf = true) (w5 : (Lit.int .u16 later).wf = true) :
    Calls Try.prog 8 #[.agg #[.int .i64 f, .int .i64 a, .int .i64 s, .int .i64 q, .int .i64 p], .agg #[.int .u32 id, .int .i64 since, .int .i64 size, .int .i64 nice, .int .i64 qos, .int .i64 part, .int .i64 factor], v, .int .i64 now, .int .i64 all, .int .u16 later] w fun e w' => e = .returned (.bool true) ∧ Below w.heap.size w w' := by
  obtain ⟨hr, ⟨A, c, rfl⟩, hm, hok⟩ := w2
  obtain ⟨hl0, hl1⟩ := wf_u16 w5
  by_cases h : 100 < l.length
  · exact long f a s q p id since size nice qos part factor A _ c now all later w h hm
  · exact order_short f a s q p ⟨id, since, size, nice, qos, part, factor⟩ A c l now all later w hr hok ⟨w1_0, wf_i64' w1_1, wf_i64' w1_2, wf_i64' w1_3, wf_i64' w1_4, wf_i64' w1_5, wf_i64' w1_6⟩ h (wf_i64' w3) (wf_i64' w4) hl0 hl1

set_option maxRecDepth 100000 in
theorem lifted (os : Os) (started : os.Started) (H : Type) (enc : TypeId × Value → H) :
    ReturnsInHanded {} Try.checked os 8 .any (Rows.prioOrderSpec.pre6 enc Try.prog Try.f8 Rows.prioOrderRow.domain false) (Rows.prioOrderSpec.post enc Try.prog Try.f8 false true false false) := by
  refine returnsInHanded_of_change (C := Try.checked) own started (by kernel_rfl) Try.func8
    (ChangeSpec.witness6 (enc := enc) (C := Try.checked) false ⟨#[], #[.agg #[.int .i64 0, .int .i64 0, .int .i64 0, .int .i64 0, .int .i64 0], .agg #[.int .u32 0, .int .i64 0, .int .i64 0, .int .i64 0, .int .i64 0, .int .i64 0, .int .i64 0], .slice none 0 0, .int .i64 0, .int .i64 0, .int .u16 0], []⟩ 8 (by kernel_rfl) (by kernel_rfl) (by kernel_rfl) (by kernel_rfl)) ?_
  intro W base args ds gs before hval0 hW _ _
  have hval : ∀ (j : Nat) t v, Try.f8.params[j]? = some t → args[j]? = some v → Value.okWide Try.prog W .any base t v := hval0
  have hW' := hW
  obtain ⟨p, q, hA0, hV, rfl, hfz, hnd⟩ := hW
  have hA : DataW.TrodAll enc Try.prog W 0 (fun _ => true) true Try.f8.params.toList args.toList ds p := hA0
  rw [Try.params8] at hA hval
  obtain ⟨v0, vs0, d0, ds0, p0, q0, hargs, rfl, rfl, h0, r0⟩ := trodAll_cons hA
  obtain ⟨v1, vs1, d1, ds1, p1, q1, rfl, rfl, rfl, h1, r1⟩ := trodAll_cons r0
  obtain ⟨v2, vs2, d2, ds2, p2, q2, rfl, rfl, rfl, h2, r2⟩ := trodAll_cons r1
  obtain ⟨v3, vs3, d3, ds3, p3, q3, rfl, rfl, rfl, h3, r3⟩ := trodAll_cons r2
  obtain ⟨v4, vs4, d4, ds4, p4, q4, rfl, rfl, rfl, h4, r4⟩ := trodAll_cons r3
  obtain ⟨v5, vs5, d5, ds5, p5, q5, rfl, rfl, rfl, h5, r5⟩ := trodAll_cons r4
  obtain ⟨rfl, rfl, rfl⟩ := trodAll_nil r5
  obtain rfl : args = #[v0, v1, v2, v3, v4, v5] := by cases args; simp_all
  obtain ⟨cs0, rfl, hs0, hf0⟩ := open_plain_struct Try.underlying26 (by kernel_rfl) (by kernel_rfl) (hval 0 26 v0 rfl rfl) h0
  obtain ⟨c0_0, y0_0, n0_0, e0_0, t0_0⟩ := hf0 0 _ rfl
  obtain ⟨f, rfl, w0_0⟩ := field_int Try.underlying3 t0_0
  obtain ⟨c0_1, y0_1, n0_1, e0_1, t0_1⟩ := hf0 1 _ rfl
  obtain ⟨a, rfl, w0_1⟩ := field_int Try.underlying3 t0_1
  obtain ⟨c0_2, y0_2, n0_2, e0_2, t0_2⟩ := hf0 2 _ rfl
  obtain ⟨s, rfl, w0_2⟩ := field_int Try.underlying3 t0_2
  obtain ⟨c0_3, y0_3, n0_3, e0_3, t0_3⟩ := hf0 3 _ rfl
  obtain ⟨q, rfl, w0_3⟩ := field_int Try.underlying3 t0_3
  obtain ⟨c0_4, y0_4, n0_4, e0_4, t0_4⟩ := hf0 4 _ rfl
  obtain ⟨p, rfl, w0_4⟩ := field_int Try.underlying3 t0_4
  obtain rfl : cs0 = #[.int .i64 f, .int .i64 a, .int .i64 s, .int .i64 q, .int .i64 p] := arr_of cs0 [.int .i64 f, .int .i64 a, .int .i64 s, .int .i64 q, .int .i64 p] hs0 (fun j hj => by match j, hj with | 0, _ => exact e0_0 | 1, _ => exact e0_1 | 2, _ => exact e0_2 | 3, _ => exact e0_3 | 4, _ => exact e0_4 | j + 5, hj => exact absurd hj (by simp))
  obtain ⟨cs1, rfl, hs1, hf1⟩ := open_plain_struct Try.underlying29 (by kernel_rfl) (by kernel_rfl) (hval 1 29 v1 rfl rfl) h1
  obtain ⟨c1_0, y1_0, n1_0, e1_0, t1_0⟩ := hf1 0 _ rfl
  obtain ⟨id, rfl, w1_0⟩ := field_int Try.underlying27 t1_0
  obtain ⟨c1_1, y1_1, n1_1, e1_1, t1_1⟩ := hf1 1 _ rfl
  obtain ⟨since, rfl, w1_1⟩ := field_int Try.underlying3 t1_1
  obtain ⟨c1_2, y1_2, n1_2, e1_2, t1_2⟩ := hf1 2 _ rfl
  obtain ⟨size, rfl, w1_2⟩ := field_int Try.underlying3 t1_2
  obtain ⟨c1_3, y1_3, n1_3, e1_3, t1_3⟩ := hf1 3 _ rfl
  obtain ⟨nice, rfl, w1_3⟩ := field_int Try.underlying3 t1_3
  obtain ⟨c1_4, y1_4, n1_4, e1_4, t1_4⟩ := hf1 4 _ rfl
  obtain ⟨qos, rfl, w1_4⟩ := field_int Try.underlying3 t1_4
  obtain ⟨c1_5, y1_5, n1_5, e1_5, t1_5⟩ := hf1 5 _ rfl
  obtain ⟨part, rfl, w1_5⟩ := field_int Try.underlying3 t1_5
  obtain ⟨c1_6, y1_6, n1_6, e1_6, t1_6⟩ := hf1 6 _ rfl
  obtain ⟨factor, rfl, w1_6⟩ := field_int Try.underlying3 t1_6
  obtain rfl : cs1 = #[.int .u32 id, .int .i64 since, .int .i64 size, .int .i64 nice, .int .i64 qos, .int .i64 part, .int .i64 factor] := arr_of cs1 [.int .u32 id, .int .i64 since, .int .i64 size, .int .i64 nice, .int .i64 qos, .int .i64 part, .int .i64 factor] hs1 (fun j hj => by match j, hj with | 0, _ => exact e1_0 | 1, _ => exact e1_1 | 2, _ => exact e1_2 | 3, _ => exact e1_3 | 4, _ => exact e1_4 | 5, _ => exact e1_5 | 6, _ => exact e1_6 | j + 7, hj => exact absurd hj (by simp))
  obtain ⟨l, w2⟩ := open_asks_arg h2 (okWide_slice Try.underlying36 (hval 2 36 v2 rfl rfl))
  obtain ⟨now, rfl, rfl, rfl, w3⟩ := open_int Try.underlying3 (hval 3 3 v3 rfl rfl) h3
  obtain ⟨all, rfl, rfl, rfl, w4⟩ := open_int Try.underlying3 (hval 4 3 v4 rfl rfl) h4
  obtain ⟨later, rfl, rfl, rfl, w5⟩ := open_int Try.underlying48 (hval 5 48 v5 rfl rfl) h5
  clear hA0 hval0
  refine (walk f a s q p id since size nice qos part factor v2 l now all later W w0_0 w0_1 w0_2 w0_3 w0_4 w1_0 w1_1 w1_2 w1_3 w1_4 w1_5 w1_6 w2 w3 w4 w5).mono fun e W' ⟨he, hb⟩ => ?_
  subst he
  exact ⟨_, rfl, law_post (by kernel_rfl) (by kernel_rfl) rfl Try.underlying4 rfl hW' rfl hb⟩

theorem over : Rows.prioOrderRow.holds Try.pinned (OpenSpec.ofChange Rows.prioOrderSpec) :=
  OpenClaim.holds_of_wide 8 Try.f8 rfl rfl rfl rfl rfl rfl rfl ⟨rfl, rfl, rfl, rfl, rfl⟩ rfl rfl rfl rfl rfl (by kernel_rfl) Try.func8 (by kernel_rfl)
    (of_decide_eq_true (by kernel_rfl)) (by unfold Func.isWrapper; first | (rw [if_pos (by decide +kernel)]; kernel_rfl) | (rw [if_neg (by decide +kernel)]; exact ⟨rfl, rfl⟩))
    (fun os started H enc _ => lifted os started H enc)

theorem proved : Rows.PrioOrderSaid :=
  over
#print axioms proved
end Go.Proofs.Ytjhabfhpjpkpbaa.prioOrder
