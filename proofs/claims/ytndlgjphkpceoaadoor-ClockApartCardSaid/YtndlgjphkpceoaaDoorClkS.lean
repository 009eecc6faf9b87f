/-
  clock.split: at any text.
-/
import Derived.Test.YtndlgjphkpceoaaDoorClkC
namespace Go.Proofs.YtndlgjphkpceoaaDoor
open Go Go.RowKit Go.Lib
set_option linter.unusedVariables false

/-- v is a row of these texts. -/
def Words (w : World) (v : Value) (ws : List Bs) : Prop := ∃ b c arr, v = .slice (some ⟨b, 0, none⟩) ws.length c ∧ ws.length ≤ c ∧ c ≤ 1024 ∧ Blk w b arr 9 ∧ arr.toList.take ws.length = strs ws
def unitCells : Array Value := #[.int .i64 86400, .int .i64 0, .int .i64 3600, .int .i64 23, .int .i64 60, .int .i64 59, .int .i64 1, .int .i64 59]

set_option maxHeartbeats 1000000 in
theorem split_plain (s : ByteArray) (m : Int) (w : World) (hs : s.size < 4294967281) (hm : w.cell? ⟨0, 0, none⟩ = some (.int .i64 m)) (hc : cut1 45 s.data.toList = none) :
    Calls Tryd.prog 18 #[.string s] w fun e w' => ∃ v, e = .returned (.tuple #[v, .slice (some ⟨w.heap.size, (if (splitK 58 3 s.data.toList).length < 3 then 4 else 2), none⟩) (if (splitK 58 3 s.data.toList).length < 3 then 2 else 3) (if (splitK 58 3 s.data.toList).length < 3 then 2 else 3)]) ∧
      Words w' v (splitK 58 3 s.data.toList) ∧ Blk w' w.heap.size unitCells 54 ∧ Below w.heap.size w w' := by
  have HC : Hid (∀ w1, Below w.heap.size w w1 → Calls Tryd.prog 25 #[.string s, .string ⟨#[45]⟩] w1 fun e w' => e = .returned (.tuple #[.string s, .string ⟨#[]⟩, .bool false]) ∧ Below w1.heap.size w1 w') := fun w1 hb => by
    refine (Tryd.strings_Cut s ⟨#[45]⟩ m w1 hs (cell_next hb hm)).mono ?_
    rintro e w' ⟨rfl, n, rfl⟩
    have e1 := cut_one 45 s.data.toList
    rw [hc] at e1
    have e2 : (⟨#[45]⟩ : ByteArray).data.toList = [45] := rfl
    rw [e2, e1]
    exact ⟨rfl, below_drewN (Below.refl _ _) _⟩
  have HS : Hid (∀ w1, Below w.heap.size w w1 → Calls Tryd.prog 26 #[.string s] w1 fun e w' => ∃ c, e = .returned (.slice (some ⟨w1.heap.size, 0, none⟩) (splitK 58 3 s.data.toList).length c) ∧ (splitK 58 3 s.data.toList).length ≤ c ∧ c ≤ 4 ∧
      (∃ arr, Blk w' w1.heap.size arr 9 ∧ arr.toList.take (splitK 58 3 s.data.toList).length = strs (splitK 58 3 s.data.toList)) ∧ Below w1.heap.size w1 w') := fun w1 hb => colons_any s m w1 hs (cell_next hb hm)
  clear hc hm hs
  generalize splitK 58 3 s.data.toList = ws at *
  obtain ⟨lo, hlo⟩ : ∃ lo, lo = if ws.length < 3 then 4 else 2 := ⟨_, rfl⟩
  obtain ⟨hi, hhi⟩ : ∃ hi, hi = if ws.length < 3 then 2 else 3 := ⟨_, rfl⟩
  rw [← hlo, ← hhi]
  have L1 : Hid (ws.length < 3 → lo = 4 ∧ hi = 2) := fun h => by rw [hlo, hhi, if_pos h, if_pos h]; exact ⟨rfl, rfl⟩
  have L2 : Hid (¬ ws.length < 3 → lo = 2 ∧ hi = 3) := fun h => by rw [hlo, hhi, if_neg h, if_neg h]; exact ⟨rfl, rfl⟩
  clear hlo hhi
  go_enter Tryd.func18, Tryd.ntmps18
  go_wp2_with fail
  have B0 := Lib.hid ((Below.refl w.heap.size w).alloc (Nat.le_refl _) (.cells unitCells 54))
  have U0 := Lib.hid (Blk.new w unitCells 54)
  refine (HC.out _ B0.out).mono ?_; rintro e w1 ⟨rfl, b1⟩
  have B1 := Lib.hid (below_next b1 B0.out)
  have U1 := Lib.hid (U0.out.kept b1)
  clear b1 B0 U0
  go_wp2_with fail
  refine (HS.out _ B1.out).mono ?_; rintro e w2 ⟨c, rfl, hnc, hc4, ⟨arr, hb, ht⟩, b2⟩
  have B2 := Lib.hid (below_next b2 B1.out)
  have U2 := Lib.hid (U1.out.kept b2)
  have W2 : Hid (Words w2 (.slice (some ⟨w1.heap.size, 0, none⟩) ws.length c) ws) := ⟨_, c, arr, rfl, hnc, by omega, hb, ht⟩
  clear b2 B1 U1 hb ht
  by_cases h3 : ws.length < 3
  · have t3 : decide (ws.length < 3) = true := decide_eq_true h3
    have t4 : decide ((ws.length : Int) < 3) = true := decide_eq_true (by omega)
    obtain ⟨rfl, rfl⟩ := L1.out h3
    go_wp2_with fail
    go_quiet (fail)
    go_wp2_with fail
    go_ret2
    exact ⟨_, rfl, W2.out, U2.out, below_drewN B2.out _⟩
  · have t3 : decide (ws.length < 3) = false := decide_eq_false h3
    have t4 : decide ((ws.length : Int) < 3) = false := decide_eq_false (by omega)
    obtain ⟨rfl, rfl⟩ := L2.out h3
    go_wp2_with fail
    go_quiet (fail)
    go_wp2_with fail
    go_ret2
    exact ⟨_, rfl, W2.out, U2.out, below_drewN B2.out _⟩
end Go.Proofs.YtndlgjphkpceoaaDoor
