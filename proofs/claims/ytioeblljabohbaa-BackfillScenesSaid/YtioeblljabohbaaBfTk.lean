/-
  The ticks hang on what ends alone, not on the order in which it lies; what Earliest answers.
-/
import Derived.Test.YtioeblljabohbaaBfX
namespace Go.Proofs.Ytioeblljabohbaa
open Go Go.RowKit Go.Lib Go.Sort
set_option linter.unusedVariables false

theorem tks_same {B B' : List Nat} (h : B.Pairwise (· ≤ ·)) (h' : B'.Pairwise (· ≤ ·)) (hm : ∀ x, x ∈ B ↔ x ∈ B') : ∀ (k t : Nat), (B.countP fun x => decide (t < x)) ≤ k → tks B t = tks B' t := by
  intro k
  induction k with
  | zero =>
    intro t hk
    rw [tks_step h, tks_step h']
    have e := (find_next h t).det hm (find_next h' t)
    rw [← e]
    rcases find_next h t with ⟨h1, _⟩ | ⟨y, h1, h2, h3, _⟩
    · rw [h1]
    · exfalso
      have : 0 < B.countP fun x => decide (t < x) := List.countP_pos_iff.2 ⟨y, h2, by simpa using h3⟩
      omega
  | succ k ih =>
    intro t hk
    rw [tks_step h, tks_step h']
    have e := (find_next h t).det hm (find_next h' t)
    rw [← e]
    rcases find_next h t with ⟨h1, _⟩ | ⟨y, h1, h2, h3, _⟩
    · rw [h1]
    · rw [h1]
      show t :: tks B y = t :: tks B' y
      rw [ih y ?_]
      have hlt : (B.countP fun x => decide (y < x)) < B.countP fun x => decide (t < x) := by
        have key : ∀ L : List Nat, (L.countP fun x => decide (y < x)) ≤ L.countP (fun x => decide (t < x)) ∧ (y ∈ L → (L.countP fun x => decide (y < x)) < L.countP fun x => decide (t < x)) := by
          intro L
          induction L with
          | nil => exact ⟨Nat.le_refl _, fun h => by cases h⟩
          | cons z L ihL =>
            rw [List.countP_cons, List.countP_cons]
            obtain ⟨i1, i2⟩ := ihL
            refine ⟨?_, fun hy => ?_⟩
            · by_cases hz : y < z
              · rw [decide_eq_true hz, decide_eq_true (show t < z by omega)]; simp; exact i1
              · rw [decide_eq_false hz]; simp; omega
            · rcases List.mem_cons.1 hy with rfl | h4
              · rw [decide_eq_false (Nat.lt_irrefl y), decide_eq_true h3]; simp; omega
              · have := i2 h4
                by_cases hz : y < z
                · rw [decide_eq_true hz, decide_eq_true (show t < z by omega)]; simp; omega
                · rw [decide_eq_false hz]; simp; omega
        exact (key B).2 h2
      omega
/-- All the ticks at which something ends, sorted. -/
def endsC (c : Sc) : List Nat := (endsB c.hl).mergeSort (fun a b => decide (a ≤ b))
theorem endsC_mem (c : Sc) (x : Nat) : x ∈ endsC c ↔ x ∈ endsB c.hl := by unfold endsC; exact List.mem_mergeSort
theorem endsC_sorted (c : Sc) : (endsC c).Pairwise (· ≤ ·) := by
  have h := List.pairwise_mergeSort (le := fun a b : Nat => decide (a ≤ b)) (fun a b c h1 h2 => by simp at *; omega) (fun a b => by simp; omega) (endsB c.hl)
  unfold endsC
  exact h.imp fun h => of_decide_eq_true h
theorem tks_canon {c : Sc} {T : List HeT} (hs : SortedT T) (hp : T.Perm c.hl) (a : Nat) : tks (endsB T) a = tks (endsC c) a := by
  refine tks_same ?_ (endsC_sorted c) (fun x => ?_) _ a (Nat.le_refl _)
  · unfold endsB; exact List.pairwise_map.2 hs
  · rw [endsC_mem]
    unfold endsB
    rw [List.mem_map, List.mem_map]
    exact ⟨fun ⟨y, h1, h2⟩ => ⟨y, hp.mem_iff.1 h1, h2⟩, fun ⟨y, h1, h2⟩ => ⟨y, hp.mem_iff.2 h1, h2⟩⟩
theorem earlyL_perm {n : Nat} {fl : List Nat} {F G : List HeT} (h : F.Perm G) (q len : Nat) (L : List Nat) : earlyL ⟨n, fl, F⟩ q len L = earlyL ⟨n, fl, G⟩ q len L := by
  induction L with
  | nil => rfl
  | cons t L ih => rw [earlyL, earlyL, firstB_perm h, ih]
/-- The first tick at which a block is free, and its start. -/
def earlyC (c : Sc) (q a len : Nat) : Option (Nat × Nat) := earlyL c q len (tks (endsC c) a)
def earlyB (c : Sc) (q a len : Nat) : Int × Int × Bool := match earlyC c q a len with | some (t, s) => ((t : Int), (s : Int), true) | none => (0, 0, false)
def earlyE (c : Sc) (q a len : Nat) : Int × Int × Int := match earlyC c q a len with | some (t, s) => ((t : Int), (s : Int), 0) | none => (0, 0, 5)
theorem earlyV_canon {c : Sc} {F T : List HeT} (hF : F.Perm c.hl) (hs : SortedT T) (hp : T.Perm c.hl) (q a len : Nat) : earlyV ⟨c.n, c.fl, F⟩ q len (tks (endsB T) a) = earlyB c q a len := by
  unfold earlyV earlyB earlyC
  rw [tks_canon hs hp, earlyL_perm hF]
  rfl
end Go.Proofs.Ytioeblljabohbaa
