/-
  rank.compare and rank.Less at any keys, gangerref03.Less too.
-/
import Derived.Test.YtpgiladbljnpcaaKeyA
import Derived.Deep.DeepCutAuto
import Derived.Deep.CutBlock
namespace Go.Proofs.Ytpgiladbljnpcaa
open Go.ChangeShapes Go.WideShapes Go.ChangeAt Go.RowKit Go.Lib Go.Sort
set_option linter.unusedVariables false

/-- w' has grown of w: nothing that was there has turned. -/
structure Grew (w w' : World) : Prop where
  below : Below w.heap.size w w'
  drawn : w.drawn ≤ w'.drawn
theorem world_ext {a b : World} (h1 : a.heap = b.heap) (h2 : a.tape = b.tape) (h3 : a.drawn = b.drawn) (h4 : a.os = b.os) (h5 : a.output = b.output) : a = b := by
  cases a; cases b; simp at h1 h2 h3 h4 h5; subst h1 h2 h3 h4 h5; rfl
theorem Grew.form {w w' : World} (h : Grew w w') : ∃ q os, w' = grow (w.drewN q) os := by
  obtain ⟨⟨h1, h2, h3, h4, h5⟩, hd⟩ := h
  refine ⟨w'.drawn - w.drawn, w'.heap.extract w.heap.size w'.heap.size, ?_⟩
  have hh : w'.heap = w.heap ++ w'.heap.extract w.heap.size w'.heap.size := by
    apply Array.ext_getElem?
    intro i
    rw [Array.getElem?_append]
    split
    · rename_i hi; exact h5 i hi
    · rename_i hi
      rw [Array.getElem?_extract]
      split
      · congr 1; omega
      · rw [Array.getElem?_eq_none (by omega)]
  have hd' : w'.drawn = w.drawn + (w'.drawn - w.drawn) := by omega
  exact world_ext (by exact hh) (by exact h2) (by exact hd') (by exact h1) (by exact h3)
theorem Grew.refl (w : World) : Grew w w := ⟨Below.refl _ _, Nat.le_refl _⟩
theorem Grew.trans {a b c : World} (h : Grew a b) (k : Grew b c) : Grew a c := ⟨below_next k.below h.below, Nat.le_trans h.drawn k.drawn⟩

set_option maxHeartbeats 1000000 in
theorem compare_any (a b : Key) (w : World) :
    Calls Try.prog 32 #[keyV a, keyV b] w fun e w' => e = .returned (.int .i64 (cmpK a b)) ∧ Grew w w' := by
  obtain ⟨p, t, i⟩ := a
  obtain ⟨p', t', i'⟩ := b
  have E : Hid (orI (compareInt p' p) (orI (compareInt t t') (compareInt i i')) = cmpK (p, t, i) (p', t', i')) := rfl
  have H1 : Hid (∀ w, Calls Try.prog 48 #[.int .i64 p', .int .i64 p] w fun e w' => e = .returned (.int .i64 (compareInt p' p)) ∧ w' = w) := fun w => cmp_int_any _ _ w
  have H2 : Hid (∀ w, Calls Try.prog 48 #[.int .i64 t, .int .i64 t'] w fun e w' => e = .returned (.int .i64 (compareInt t t')) ∧ w' = w) := fun w => cmp_int_any _ _ w
  have H3 : Hid (∀ w, Calls Try.prog 49 #[.int .u32 i, .int .u32 i'] w fun e w' => e = .returned (.int .i64 (compareInt i i')) ∧ w' = w) := fun w => cmp_u32_any _ _ w
  generalize cmpK (p, t, i) (p', t', i') = r at E ⊢
  generalize compareInt p' p = x at *
  generalize compareInt t t' = y at *
  generalize compareInt i i' = z at *
  unfold keyV
  go_enter Try.func32, Try.ntmps32
  go_wp2_with fail
  go_region_held3 (fun w' => w'.cell? ⟨w.heap.size, 0, none⟩ = some (.int .i64 p) ∧ w'.cell? ⟨w.heap.size, 1, none⟩ = some (.int .i64 t) ∧ w'.cell? ⟨w.heap.size, 2, none⟩ = some (.int .u32 i) ∧
      w'.cell? ⟨w.heap.size + 1, 0, none⟩ = some (.int .i64 p') ∧ w'.cell? ⟨w.heap.size + 1, 1, none⟩ = some (.int .i64 t') ∧ w'.cell? ⟨w.heap.size + 1, 2, none⟩ = some (.int .u32 i') ∧ Grew w w')
    (first
      | assumption
      | (go_split_ands; refine ⟨?_, ?_, ?_, ?_, ?_, ?_, ?_, ?_⟩ <;> first | go_keep | go_grown | simp))
    (first
      | (go_at_call 48; ((with_reducible refine (H1.out _).mono ?_); rintro e w2 ⟨rfl, rfl⟩))
      | (go_at_call 48; ((with_reducible refine (H2.out _).mono ?_); rintro e w2 ⟨rfl, rfl⟩))
      | (go_at_call 49; ((with_reducible refine (H3.out _).mono ?_); rintro e w3 ⟨rfl, rfl⟩))
      | (go_at_call 47; ((with_reducible refine (or_any (w.heap.size + 1 + 1) x y z _ (Blk.drew (Blk.fresh _ _ _ _ (by simp)))).mono ?_); rintro e w4 ⟨rfl, rfl⟩)))
  all_goals
    go_wp2_with fail
    go_ret
    exact ⟨kret_int E.out, ⟨by go_grown, Nat.le_succ w.drawn⟩⟩

theorem kless_any (a b : Key) (w : World) :
    Calls Try.prog 10 #[keyV a, keyV b] w fun e w' => e = .returned (.bool (kLess a b)) ∧ Below w.heap.size w w' := by
  have H : Hid (∀ w, Calls Try.prog 32 #[keyV a, keyV b] w fun e w' => e = .returned (.int .i64 (cmpK a b)) ∧ Grew w w') := fun w => compare_any a b w
  have E : Hid (decide (cmpK a b < 0) = kLess a b) := rfl
  unfold keyV at *
  generalize cmpK a b = r at *
  generalize kLess a b = q at *
  obtain ⟨p, t, i⟩ := a
  obtain ⟨p', t', i'⟩ := b
  go_enter Try.func10, Try.ntmps10
  go_wp2_with fail
  refine (H.out _).mono ?_; rintro e w1 ⟨rfl, b1⟩
  go_wp2_with fail
  go_ret
  exact ⟨kret_bool E.out, below_next b1.below (((Below.refl _ _).alloc (Nat.le_refl _) _).alloc (by simp) _)⟩

theorem refLess_any (a b : Key) (w : World) :
    Calls Try.prog 11 #[keyV a, keyV b] w fun e w' => e = .returned (.bool (kLess a b)) ∧ Below w.heap.size w w' := by
  have E := lessB_iff a b
  obtain ⟨p, t, i⟩ := a
  obtain ⟨p', t', i'⟩ := b
  unfold keyV
  by_cases h1 : p = p'
  · subst h1
    by_cases h2 : t = t'
    · subst h2
      have e : kLess (p, t, i) (p, t, i') = decide (i < i') := by rw [Bool.eq_iff_iff, E]; simp
      rw [e]
      clear e E
      have g1 : (p != p) = false := by simp
      have g2 : (t != t) = false := by simp
      go_enter Try.func11, Try.ntmps11
      go_wp2_with fail
      go_ret
      exact ⟨rfl, by go_grown⟩
    · have e : kLess (p, t, i) (p, t', i') = decide (t < t') := by rw [Bool.eq_iff_iff, E]; simp [h2]
      rw [e]
      clear e E
      have g2 : (t != t') = true := by simpa using h2
      clear h2
      go_enter Try.func11, Try.ntmps11
      go_wp2_with fail
      go_ret
      exact ⟨rfl, by go_grown⟩
  · have e : kLess (p, t, i) (p', t', i') = decide (p > p') := by rw [Bool.eq_iff_iff, E]; simp [Ne.symm h1]
    rw [e]
    clear e E
    have g2 : (p != p') = true := by simpa using h1
    clear h1
    go_enter Try.func11, Try.ntmps11
    go_wp2_with fail
    go_ret
    exact ⟨rfl, by go_grown⟩
end Go.Proofs.Ytpgiladbljnpcaa
