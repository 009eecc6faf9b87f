/-
  PrioTurns: the keys are the same, whichever way the jobs come, and each job has one, with its own priority: so the law returns true for every input.
-/
import Derived.Test.YtjhabfhpjpkpbaaTurns
import Derived.Test.YtjhabfhpjpkpbaaRows
import Derived.Test.YtjhabfhpjpkpbaaArgs2
namespace Go.Proofs.Ytjhabfhpjpkpbaa.prioTurns
open Go.ChangeShapes Go.WideShapes Go.ChangeAt Go.RowKit
set_option linter.unusedVariables false

theorem own : ownKnob Try.prog.godebug = none := by kernel_rfl

open Go.Lib Go.Sort Go.Maps
theorem long (f a s q p : Int) (A : Option Addr) (n c : Nat) (now all turn : Int) (w : World) (h : 100 < n) (hm : n ≤ maxLen) :
    Calls Try.prog 9 #[.agg #[.int .i64 f, .int .i64 a, .int .i64 s, .int .i64 q, .int .i64 p], .slice A n c, .int .i64 now, .int .i64 all, .int .i64 turn] w fun e w' => e = .returned (.bool true) ∧ Below w.heap.size w w' := by
  have t : decide ((n : Int) > 100) = true := decide_eq_true (by omega)
  have t' : decide (100 < n) = true := decide_eq_true h
  clear h hm
  go_enter Try.func9, Try.ntmps9
  go_wp2_with fail
  refine (known12_any _).mono ?_; rintro e w2 ⟨rfl, b2⟩
  go_wp2_with fail
  go_ret
  exact ⟨rfl, below_next b2 ((Below.refl _ _).alloc (Nat.le_refl _) _)⟩
theorem none' (f a s q p : Int) (A : Option Addr) (c : Nat) (now all turn : Int) (w : World) :
    Calls Try.prog 9 #[.agg #[.int .i64 f, .int .i64 a, .int .i64 s, .int .i64 q, .int .i64 p], .slice A 0 c, .int .i64 now, .int .i64 all, .int .i64 turn] w fun e w' => e = .returned (.bool true) ∧ Below w.heap.size w w' := by
  go_enter Try.func9, Try.ntmps9
  go_wp2_with fail
  refine (known12_any _).mono ?_; rintro e w2 ⟨rfl, b2⟩
  go_wp2_with fail
  go_ret
  exact ⟨rfl, below_next b2 ((Below.refl _ _).alloc (Nat.le_refl _) _)⟩

theorem walk (f a s q p : Int) (v : Value) (l : List AskS) (now all turn : Int) (w : World) (w0_0 : (Lit.int .i64 f).wf = true) (w0_1 : (Lit.int .i64 a).wf = true) (w0_2 : (Lit.int .i64 s).wf = true) (w0_3 : (Lit.int .i64 q).wf = true) (w0_4 : (Lit.int .i64 p).wf = true) (w1 : AArg w v l) (w2 : (Lit.int .i64 now).wf = true) (w3 : (Lit.int .i64 all).wf = true) (w4 : (Lit.int .i64 turn).wf = true) :
    Calls Try.prog 9 #[.agg #[.int .i64 f, .int .i64 a, .int .i64 s, .int .i64 q, .int .i64 p], v, .int .i64 now, .int .i64 all, .int .i64 turn] w fun e w' => e = .returned (.bool true) ∧ Below w.heap.size w w' := by
  obtain ⟨hr, ⟨A, c, hv⟩, hm, hok⟩ := w1
  by_cases h : 100 < l.length
  · subst hv; exact long f a s q p A _ c now all turn w h hm
  · rcases hr with ⟨rfl, a', c', rfl, _⟩ | ⟨b, off, c', rfl, h0, h1, h2, hc⟩
    · exact none' f a s q p a' c' now all turn w
    · exact turns_row f a s q p b off c' l now all turn w h0 h1 h2 hc hok h (wf_i64' w2) (wf_i64' w3)

set_option maxRecDepth 100000 in
theorem lifted (os : Os) (started : os.Started) (H : Type) (enc : TypeId × Value → H) :
    ReturnsInHanded {} Try.checked os 9 .any (Rows.prioTurnsSpec.pre6 enc Try.prog Try.f9 Rows.prioTurnsRow.domain false) (Rows.prioTurnsSpec.post enc Try.prog Try.f9 false true false false) := by
  refine returnsInHanded_of_change (C := Try.checked) own started (by kernel_rfl) Try.func9
    (ChangeSpec.witness6 (enc := enc) (C := Try.checked) false ⟨#[], #[.agg #[.int .i64 0, .int .i64 0, .int .i64 0, .int .i64 0, .int .i64 0], .slice none 0 0, .int .i64 0, .int .i64 0, .int .i64 0], []⟩ 8 (by kernel_rfl) (by kernel_rfl) (by kernel_rfl) (by kernel_rfl)) ?_
  intro W base args ds gs before hval0 hW _ _
  have hval : ∀ (j : Nat) t v, Try.f9.params[j]? = some t → args[j]? = some v → Value.okWide Try.prog W .any base t v := hval0
  have hW' := hW
  obtain ⟨p, q, hA0, hV, rfl, hfz, hnd⟩ := hW
  have hA : DataW.TrodAll enc Try.prog W 0 (fun _ => true) true Try.f9.params.toList args.toList ds p := hA0
  rw [Try.params9] at hA hval
  obtain ⟨v0, vs0, d0, ds0, p0, q0, hargs, rfl, rfl, h0, r0⟩ := trodAll_cons hA
  obtain ⟨v1, vs1, d1, ds1, p1, q1, rfl, rfl, rfl, h1, r1⟩ := trodAll_cons r0
  obtain ⟨v2, vs2, d2, ds2, p2, q2, rfl, rfl, rfl, h2, r2⟩ := trodAll_cons r1
  obtain ⟨v3, vs3, d3, ds3, p3, q3, rfl, rfl, rfl, h3, r3⟩ := trodAll_cons r2
  obtain ⟨v4, vs4, d4, ds4, p4, q4, rfl, rfl, rfl, h4, r4⟩ := trodAll_cons r3
  obtain ⟨rfl, rfl, rfl⟩ := trodAll_nil r4
  obtain rfl : args = #[v0, v1, v2, v3, v4] := by cases args; simp_all
  obtain ⟨cs0, rfl, hs0, hf0⟩ := open_plain_struct Try.underlying26 (by kernel_rfl) (by kernel_rfl) (hval 0 26 v0 rfl rfl) h0
  obtain ⟨c0_0, y0_0, n0_0, e0_0, t0_0⟩ := hf0 0 _ rfl
  obtain ⟨f, rfl, w0_0⟩ := field_int Try.underlying3 t0_0
  obtain ⟨c0_1, y0_1, n0_1, e0_1, t0_1⟩ := hf0 1 _ rfl
  obtain ⟨a, rfl, w0_1⟩ := field_int Try.underlying3 t0_1
  obtain ⟨c0_2, y0_2, n0_2, e0_2, t0_2⟩ := hf0 2 _ rfl
  obtain ⟨s, rfl, w0_2⟩ := field_int Try.underlying3 t0_2
  obtain ⟨c0_3, y0_3, n0_3, e0_3, t0_3⟩ := hf0 3 _ rfl
  obtain ⟨q, rfl, w0_3⟩ := field_int Try.underlying3 t0_3
  obtain ⟨c0_4, y0_4, n0_4, e0_4, t0_4⟩ := hf0 4 _ rfl
  obtain ⟨p, rfl, w0_4⟩ := field_int Try.underlying3 t0_4
  obtain rfl : cs0 = #[.int .i64 f, .int .i64 a, .int .i64 s, .int .i64 q, .int .i64 p] := arr_of cs0 [.int .i64 f, .int .i64 a, .int .i64 s, .int .i64 q, .int .i64 p] hs0 (fun j hj => by match j, hj with | 0, _ => exact e0_0 | 1, _ => exact e0_1 | 2, _ => exact e0_2 | 3, _ => exact e0_3 | 4, _ => exact e0_4 | j + 5, hj => exact absurd hj (by simp))
  obtain ⟨l, w1⟩ := open_asks_arg h1 (okWide_slice Try.underlying36 (hval 1 36 v1 rfl rfl))
  obtain ⟨now, rfl, rfl, rfl, w2⟩ := open_int Try.underlying3 (hval 2 3 v2 rfl rfl) h2
  obtain ⟨all, rfl, rfl, rfl, w3⟩ := open_int Try.underlying3 (hval 3 3 v3 rfl rfl) h3
  obtain ⟨turn, rfl, rfl, rfl, w4⟩ := open_int Try.underlying3 (hval 4 3 v4 rfl rfl) h4
  clear hA0 hval0
  refine (walk f a s q p v1 l now all turn W w0_0 w0_1 w0_2 w0_3 w0_4 w1 w2 w3 w4).mono fun e W' ⟨he, hb⟩ => ?_
  subst he
  exact ⟨_, rfl, law_post (by kernel_rfl) (by kernel_rfl) rfl Try.underlying4 rfl hW' rfl hb⟩

theorem over : Rows.prioTurnsRow.holds Try.pinned (OpenSpec.ofChange Rows.prioTurnsSpec) :=
  OpenClaim.holds_of_wide 9 Try.f9 rfl rfl rfl rfl rfl rfl rfl ⟨rfl, rfl, rfl, rfl, rfl⟩ rfl rfl rfl rfl rfl (by kernel_rfl) Try.func9 (by kernel_rfl)
    (of_decide_eq_true (by kernel_rfl)) (by unfold Func.isWrapper; first | (rw [if_pos (by decide +kernel)]; kernel_rfl) | (rw [if_neg (by decide +kernel)]; exact ⟨rfl, rfl⟩))
    (fun os started H enc _ => lifted os started H enc)

theorem proved : Rows.PrioTurnsSaid :=
  over
#print axioms proved
end Go.Proofs.Ytjhabfhpjpkpbaa.prioTurns
