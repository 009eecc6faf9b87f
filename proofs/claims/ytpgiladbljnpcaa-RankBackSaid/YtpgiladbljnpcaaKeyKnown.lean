/-
  gangerlaw03.known: what the chapter's example fixes holds.
-/
import Derived.Test.YtpgiladbljnpcaaKeyS
namespace Go.Proofs.Ytpgiladbljnpcaa
open Go.ChangeShapes Go.WideShapes Go.ChangeAt Go.RowKit Go.Lib Go.Sort Go.Maps
set_option linter.unusedVariables false
attribute [local go_sem ↓] key_eql key_neq key_grd

def knownL : List Key := [(5, 3, 1), (9, 8, 2), (5, 2, 7)]
theorem known_sort : sortK knownL = [(9, 8, 2), (5, 2, 7), (5, 3, 1)] := (sortK_eq (by decide) (by decide)).symm
theorem known_cells (w : World) (b : Nat) (hb : w.heap.size = b) : KCells (w.alloc (.cells #[.int .i64 5, .int .i64 3, .int .u32 1, .int .i64 9, .int .i64 8, .int .u32 2, .int .i64 5, .int .i64 2, .int .u32 7] 24)) b 0 knownL := by
  have hB := Blk.fresh w #[.int .i64 5, .int .i64 3, .int .u32 1, .int .i64 9, .int .i64 8, .int .u32 2, .int .i64 5, .int .i64 2, .int .u32 7] 24 b hb
  refine ⟨hB.lt, fun j hj => ?_⟩
  rw [hB.cell, hB.cell, hB.cell]
  match j, hj with
  | 0, _ => exact ⟨rfl, rfl, rfl⟩
  | 1, _ => exact ⟨rfl, rfl, rfl⟩
  | 2, _ => exact ⟨rfl, rfl, rfl⟩
  | j + 3, hj => exact absurd hj (by simp [knownL])
theorem known_run (w : World) (b : Nat) (hb : w.heap.size = b) :
    Calls Try.prog 16 #[.slice (some ⟨b, 0, none⟩) 3 3] (w.alloc (.cells #[.int .i64 5, .int .i64 3, .int .u32 1, .int .i64 9, .int .i64 8, .int .u32 2, .int .i64 5, .int .i64 2, .int .u32 7] 24))
      fun e w' => ∃ g c, e = .returned (.tuple #[.slice (some ⟨g, 0, none⟩) 3 c, .int .i64 0]) ∧ KCells w' g 0 [(9, 8, 2), (5, 2, 7), (5, 3, 1)] ∧ 3 ≤ c ∧ c ≤ maxLen ∧ Below w.heap.size w w' := by
  have h := sort_ok (.slice (some ⟨b, 0, none⟩) knownL.length 3) knownL _ (by decide) (by decide) (.inr ⟨b, 0, 3, rfl, by decide, by decide, by decide, known_cells w b hb⟩) (by decide)
  refine Calls.mono (P := Try.prog) h fun e w' ⟨v', he, ho, hB⟩ => ?_
  rw [known_sort] at ho
  have hk : KRow w' v' [(9, 8, 2), (5, 2, 7), (5, 3, 1)] := krow_of_owns ho
  obtain ⟨hl, ⟨hv, hn⟩ | ⟨g, cap, cur, rfl, hg, r1, r2, r3, _⟩⟩ := ho
  · exact absurd hn (by decide)
  · rcases hk with ⟨h0, _⟩ | ⟨b', off', c', hv, _, h2, h3, hc⟩
    · cases h0
    · injection hv with h4 h5 h6
      injection h4 with h4
      injection h4 with h7 h8
      subst h7 h8 h6
      exact ⟨_, _, he, hc, h2, h3, below_next hB ((Below.refl _ _).alloc (Nat.le_refl _) _)⟩

theorem known_check (g c : Nat) (w : World) (hc : KCells w g 0 [(9, 8, 2), (5, 2, 7), (5, 3, 1)]) (h2 : 3 ≤ c) (h3 : c ≤ maxLen) :
    Calls Try.prog 15 #[.slice (some ⟨g, 0, none⟩) 3 c] w fun e w' => e = .returned (.int .i64 0) ∧ Below w.heap.size w w' := by
  have h := check_any (.slice (some ⟨g, 0, none⟩) 3 c) [(9, 8, 2), (5, 2, 7), (5, 3, 1)] w (by decide) (by decide) (.inr ⟨g, 0, c, rfl, by decide, h2, h3, hc⟩)
  exact Calls.mono (P := Try.prog) h fun e w' ⟨he, hb⟩ => ⟨he.trans (kret_int (by decide)), hb⟩

set_option maxRecDepth 100000 in
theorem known3_any (w : World) : Calls Try.prog 12 #[] w fun e w' => e = .returned (.bool true) ∧ Below w.heap.size w w' := by
  go_enter Try.func12, Try.ntmps12
  go_wp2_with fail
  refine (known_run w w.heap.size rfl).mono ?_; rintro e w1 ⟨g, c, rfl, hc, h2, h3, b1⟩
  have HK : Hid (Calls Try.prog 15 #[.slice (some ⟨g, 0, none⟩) 3 c] w1 fun e w' => e = .returned (.int .i64 0) ∧ Below w1.heap.size w1 w') := known_check g c w1 hc h2 h3
  have c00 : w1.cell? ⟨g, 0, none⟩ = some (.int .i64 9) := (hc.2 0 (by decide)).1
  have c01 : w1.cell? ⟨g, 1, none⟩ = some (.int .i64 8) := (hc.2 0 (by decide)).2.1
  have c02 : w1.cell? ⟨g, 2, none⟩ = some (.int .u32 2) := (hc.2 0 (by decide)).2.2
  have c10 : w1.cell? ⟨g, 3, none⟩ = some (.int .i64 5) := (hc.2 1 (by decide)).1
  have c11 : w1.cell? ⟨g, 4, none⟩ = some (.int .i64 2) := (hc.2 1 (by decide)).2.1
  have c12 : w1.cell? ⟨g, 5, none⟩ = some (.int .u32 7) := (hc.2 1 (by decide)).2.2
  have c20 : w1.cell? ⟨g, 6, none⟩ = some (.int .i64 5) := (hc.2 2 (by decide)).1
  have c21 : w1.cell? ⟨g, 7, none⟩ = some (.int .i64 3) := (hc.2 2 (by decide)).2.1
  have c22 : w1.cell? ⟨g, 8, none⟩ = some (.int .u32 1) := (hc.2 2 (by decide)).2.2
  clear hc h2 h3
  have q1 : keqB 9 8 2 9 8 2 = true := by decide
  go_wp2_with fail
  refine HK.out.mono ?_; rintro e w2 ⟨rfl, b2⟩
  go_wp2_with fail
  go_ret
  exact ⟨rfl, below_next b2 b1⟩
end Go.Proofs.Ytpgiladbljnpcaa
