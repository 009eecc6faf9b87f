/-
  Rows of charges that the call makes.
-/
import Derived.Test.YtlafjjdponeeeaaDoorBkF
import Derived.Test.YtlafjjdponeeeaaDoorApp
import Derived.Test.YtlafjjdponeeeaaDoorGrp
namespace Go.Proofs.YtlafjjdponeeeaaDoor
open Go Go.RowKit Go.Lib
set_option linter.unusedVariables false

theorem Tryd.infoChg : (Tryd.prog.info? 24).map (fun i => (i.zero, i.size, i.bytes)) = some (some (.agg #[.int .u32 0, .string ByteArray.empty, .int .i64 0, .int .i64 0, .int .i64 0, .int .i64 0]), 6, 56) := by kernel_rfl
/-- The charges' cells, one behind the other. -/
def flC (xs : List Chg) : List Value := xs.flatMap fun c => (chCs c).toList
theorem flC_len (xs : List Chg) : (flC xs).length = xs.length * 6 := by
  induction xs with
  | nil => rfl
  | cons x xs ih => show ((chCs x).toList ++ flC xs).length = _; rw [List.length_append, ih]; simp; omega
theorem flC_append (xs ys : List Chg) : flC (xs ++ ys) = flC xs ++ flC ys := by simp [flC]
theorem flC_one1 (c : Chg) : flC [c] = (chCs c).toList := by simp [flC]
theorem flC_get (xs : List Chg) : ∀ j i, j < xs.length → i < 6 → (flC xs)[j * 6 + i]? = (chCs (chAt xs j)).toList[i]? := by
  induction xs with
  | nil => intro j i h; simp at h
  | cons x xs ih =>
    intro j i hj hi
    show ((chCs x).toList ++ flC xs)[j * 6 + i]? = _
    rw [List.getElem?_append]
    cases j with
    | zero => rw [if_pos (by simp; omega)]; simp [chAt]
    | succ j =>
      rw [if_neg (by simp; omega)]
      have e : (j + 1) * 6 + i - (chCs x).toList.length = j * 6 + i := by simp; omega
      rw [e, ih j i (by simpa using hj) hi]
      rfl
theorem flC_one (xs : List Chg) : ∀ u ∈ flC xs, u.oneCell' = true := by
  intro u hu
  obtain ⟨x, _, hx⟩ := List.mem_flatMap.1 hu
  simp at hx
  rcases hx with rfl | rfl | rfl | rfl | rfl | rfl <;> rfl
theorem src_of_row {w : World} {v : Value} {cs : List Chg} (h : ChRow w v cs) : Src w 6 v cs.length (flC cs) := by
  obtain ⟨A, c, rfl, hcl, hcm, hrow⟩ := h
  refine ⟨flC_len cs, ?_⟩
  by_cases h0 : 0 < cs.length
  · obtain ⟨b, off, rfl, hb, hc⟩ := hrow h0
    refine .inr ⟨_, c, rfl, fun t u hu => ?_⟩
    have ht : t < cs.length * 6 := by rw [← flC_len]; exact (List.getElem?_eq_some_iff.1 hu).1
    have hj : t / 6 < cs.length := by omega
    have h1 := flC_get cs (t / 6) (t % 6) hj (by omega)
    rw [show t / 6 * 6 + t % 6 = t by omega, hu] at h1
    rw [Addr.add_lit]
    have hx := hc (t / 6) hj
    have e : t = t / 6 * 6 + t % 6 := by omega
    rcases (by omega : t % 6 = 0 ∨ t % 6 = 1 ∨ t % 6 = 2 ∨ t % 6 = 3 ∨ t % 6 = 4 ∨ t % 6 = 5) with hm | hm | hm | hm | hm | hm
    · rw [hm] at e h1; rw [e, ← Nat.add_assoc, Nat.add_zero]; rw [hx.c0, h1]; rfl
    · rw [hm] at e h1; rw [e, ← Nat.add_assoc]; rw [hx.c1, h1]; rfl
    · rw [hm] at e h1; rw [e, ← Nat.add_assoc]; rw [hx.c2, h1]; rfl
    · rw [hm] at e h1; rw [e, ← Nat.add_assoc]; rw [hx.c3, h1]; rfl
    · rw [hm] at e h1; rw [e, ← Nat.add_assoc]; rw [hx.c4, h1]; rfl
    · rw [hm] at e h1; rw [e, ← Nat.add_assoc]; rw [hx.c5, h1]; rfl
  · have e0 : cs = [] := List.eq_nil_of_length_eq_zero (by omega)
    subst e0
    cases A with
    | none => exact .inl ⟨c, rfl, rfl⟩
    | some a => exact .inr ⟨a, c, rfl, fun j u hu => by simp [flC] at hu⟩
theorem row_of_own {w : World} {base : Nat} {v : Value} {cs : List Chg} (h : w.ownsRow base 24 6 v cs.length (flC cs)) : ChRow w v cs := by
  obtain ⟨hl, ⟨rfl, hn⟩ | ⟨g, cap, cur, rfl, hg, hcur, hcap, hmax, hsz, htk⟩⟩ := h
  · refine ⟨none, 0, by rw [hn], by omega, Nat.zero_le _, fun h => by omega⟩
  · refine ⟨some ⟨g, 0, none⟩, cap, rfl, hcap, hmax, fun h0 => ⟨g, 0, rfl, (Array.getElem?_eq_some_iff.1 hcur).1, fun j hj => ?_⟩⟩
    have hc : ∀ i, i < 6 → w.cell? ⟨g, 0 + j * 6 + i, none⟩ = (chCs (chAt cs j)).toList[i]? := by
      intro i hi
      rw [← flC_get cs j i hj hi, ← htk, List.getElem?_take_of_lt (by omega)]
      simp [World.cell?, hcur]
    exact ⟨hc 0 (by omega), hc 1 (by omega), hc 2 (by omega), hc 3 (by omega), hc 4 (by omega), hc 5 (by omega)⟩
theorem src_of_blk {w : World} {b : Nat} {t : TypeId} {c : Chg} (h : Blk w b (chCs c) t) : Src w 6 (.slice (some ⟨b, 0, none⟩) 1 1) 1 (flC [c]) := by
  refine ⟨by rw [flC_one1]; rfl, .inr ⟨_, 1, rfl, fun j u hu => ?_⟩⟩
  rw [flC_one1] at hu
  rw [Addr.add_lit, Nat.zero_add, h.cell, ← Array.getElem?_toList]
  exact hu
theorem blk_grownC {w w' : World} {b : Nat} {cs : Array Value} {t : TypeId} {row : Option Nat} (h : Blk w b cs t) (hg : w.grownBy w' row) (hne : some b ≠ row) : Blk w' b cs t := by
  have hlt := h.lt
  unfold Blk at *
  rw [hg.block b hlt hne]; exact h
/-- A row of the call's own, behind a store to a block ahead of it. -/
theorem owns_set {w : World} {base size n g i : Nat} {e : TypeId} {v : Value} {xs : List Value} (h : w.ownsRow base e size v n xs) (hg : g < base) (u : Value) : (w.setCell ⟨g, i, none⟩ u).ownsRow base e size v n xs := by
  have hB := (Below.refl g w).setCell (p := ⟨g, i, none⟩) (Nat.le_refl _) u
  refine h.kept (row := some g) ⟨hB.os, hB.tape, hB.output, hB.size, fun j hj hne => Below.heap_setCell w ⟨g, i, none⟩ u j (fun e => hne (by rw [e]))⟩ ?_
  obtain ⟨_, ⟨rfl, _⟩ | ⟨g', cap, cur, rfl, hb, _⟩⟩ := h
  · exact .inl rfl
  · refine .inr fun e => ?_
    have : g' = g := by simpa [Value.ownBlock] using e
    omega
end Go.Proofs.YtlafjjdponeeeaaDoor
