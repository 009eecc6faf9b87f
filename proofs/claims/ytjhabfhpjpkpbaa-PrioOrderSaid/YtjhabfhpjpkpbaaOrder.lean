/-
  gangerlaw12.PrioOrder: who comes first of two, and the walk.
-/
import Derived.Test.YtjhabfhpjpkpbaaTurns
namespace Go.Proofs.Ytjhabfhpjpkpbaa
open Go.ChangeShapes Go.WideShapes Go.ChangeAt Go.RowKit Go.Lib Go.Sort Go.Maps
set_option linter.unusedVariables false

theorem ageV_anti {a a' now : Int} (h : a ≤ a') (h0 : 0 ≤ a) : ageV a' now ≤ ageV a now := by
  by_cases h1 : now ≤ a'
  · have e : ageV a' now = 0 := by unfold ageV; rw [if_pos (by omega)]
    rw [e]; exact (ageV_bd a now).1
  · unfold ageV
    rw [if_neg (by omega), if_neg (by omega)]
    exact ofV_mono (by omega)
theorem part_mono' {f x y : Int} (h : 0 ≤ f) (hx : x ≤ y) : f * x / 65536 ≤ f * y / 65536 := by
  have h2 : f * x ≤ f * y := Int.mul_le_mul_of_nonneg_left hx h
  omega
section
variable {W : WtS} {now all : Int}
theorem pE_ok {x : AskS} (hid : 0 ≤ x.id) (h : pE W now all x = 0) : okProp W.f W.a W.s W.q W.p x.id x.since x.nice x.factor now all := ok_prop hid (prE_zero.1 h)
theorem ok_pE {x : AskS} (h : okProp W.f W.a W.s W.q W.p x.id x.since x.nice x.factor now all) : pE W now all x = 0 := prE_zero.2 (prOk_yes h)
theorem pV_ok {x : AskS} (h : pE W now all x = 0) : pV W now all x = prSum W.f W.a W.s W.q W.p x.since x.size x.qos x.part x.factor now all - x.nice := by
  unfold pV prV; rw [if_pos (prE_zero.1 h)]
/-- Of two jobs the one whose key is ahead comes first. -/
theorem first_pair {u v : AskS} (hu : pE W now all u = 0) (hv : pE W now all v = 0) (hne : u.id ≠ v.id) (hl : kLess (keyOf W now all v) (keyOf W now all u) = true) : firstV W now all [u, v] = v.id ∧ firstE W now all [u, v] = 0 := by
  have ha : allB W now all [u, v] = true := by simp [allB, hu, hv]
  have ht : twiceB (keysR W now all [u, v]) = false := by
    unfold twiceB
    have : idsOk (keysR W now all [u, v]) := by
      unfold idsOk keysR
      simp [keyOf]; exact hne
    simp [this]
  have hE : keysE W now all [u, v] = 0 := by unfold keysE; rw [ha, ht]; rfl
  have hs : sortK (keysR W now all [u, v]) = [keyOf W now all v, keyOf W now all u] := (sortK_eq (by unfold keysR; exact List.Perm.swap _ _ _) (by
    rw [List.pairwise_cons]
    refine ⟨fun y hy => ?_, List.pairwise_singleton _ _⟩
    rw [List.mem_singleton] at hy
    subst hy
    exact less_asymm hl)).symm
  have hL : keysL W now all [u, v] = [keyOf W now all v, keyOf W now all u] := by unfold keysL; rw [if_pos hE, hs]
  unfold firstV firstE
  rw [hL, hE]
  exact ⟨rfl, by simp⟩
/-- Whoever comes first of all does so of two. -/
theorem first_of_all {l : List AskS} {z : Int} (hE : firstE W now all l = 0) (hV : firstV W now all l = z) {i k : Nat} (hi : i < l.length) (hk : k < l.length) (hzi : (aAt l i).id ≠ z) (hzk : (aAt l k).id = z) :
    firstV W now all [aAt l i, aAt l k] = z ∧ firstE W now all [aAt l i, aAt l k] = 0 := by
  have hE0 : keysE W now all l = 0 := by
    unfold firstE at hE
    by_cases h : keysE W now all l = 0
    · exact h
    · rw [if_pos h] at hE; exact absurd hE h
  have e : keysL W now all l = sortK (keysR W now all l) := by unfold keysL; rw [if_pos hE0]
  have ht := ids_of_twice (keysE_zero hE0).2
  have ki : keyOf W now all (aAt l i) ∈ sortK (keysR W now all l) := (sortK_perm _).mem_iff.2 (List.mem_map.2 ⟨_, aAt_mem hi, rfl⟩)
  have kk : keyOf W now all (aAt l k) ∈ sortK (keysR W now all l) := (sortK_perm _).mem_iff.2 (List.mem_map.2 ⟨_, aAt_mem hk, rfl⟩)
  have hids : (sortK (keysR W now all l)).Pairwise fun x y => x.2.2 ≠ y.2.2 := ((sortK_perm (keysR W now all l)).pairwise_iff fun {a b} hh e => hh e.symm).2 ht
  have hs := sortK_sorted (keysR W now all l)
  have hl : kLess (keyOf W now all (aAt l k)) (keyOf W now all (aAt l i)) = true := by
    unfold firstV at hV
    rw [e] at hV
    cases hd : sortK (keysR W now all l) with
    | nil => rw [hd] at ki; cases ki
    | cons x r =>
      rw [hd] at hV ki kk hids hs
      have hx : x.2.2 = z := hV
      have ex : keyOf W now all (aAt l k) = x := by
        rcases List.mem_cons.1 kk with h | h
        · exact h
        · exact absurd (hx.trans hzk.symm) ((List.pairwise_cons.1 hids).1 _ h)
      have er : keyOf W now all (aAt l i) ∈ r := by
        rcases List.mem_cons.1 ki with h | h
        · exfalso; apply hzi
          have : (keyOf W now all (aAt l i)).2.2 = z := by rw [h]; exact hx
          exact this
        · exact h
      rw [ex]
      have h1 := (List.pairwise_cons.1 hs).1 _ er
      cases h2 : kLess x (keyOf W now all (aAt l i))
      · have := totK _ _ h2 h1
        exact absurd (by rw [this]) ((List.pairwise_cons.1 hids).1 _ er)
      · rfl
  obtain ⟨h1, h2⟩ := first_pair (pE_zero hE0 hi) (pE_zero hE0 hk) (by rw [hzk]; exact hzi) hl
  exact ⟨h1.trans hzk, h2⟩
end
theorem acells_two {w : World} {B : Nat} {u v : AskS} {t : TypeId} (h : Blk w B #[.int .u32 u.id, .int .i64 u.since, .int .i64 u.size, .int .i64 u.nice, .int .i64 u.qos, .int .i64 u.part, .int .i64 u.factor, .int .u32 v.id, .int .i64 v.since, .int .i64 v.size, .int .i64 v.nice, .int .i64 v.qos, .int .i64 v.part, .int .i64 v.factor] t) :
    ARow w (.slice (some ⟨B, 0, none⟩) 2 2) [u, v] := by
  refine .inr ⟨B, 0, 2, rfl, show 0 < 2 by decide, Nat.le_refl 2, by decide, h.lt, fun j hj => ?_⟩
  simp only [h.cell]
  match j, hj with
  | 0, _ => exact ⟨rfl, rfl, rfl, rfl, rfl, rfl, rfl⟩
  | 1, _ => exact ⟨rfl, rfl, rfl, rfl, rfl, rfl, rfl⟩
  | j + 2, hj => exact absurd hj (by simp)
end Go.Proofs.Ytjhabfhpjpkpbaa
