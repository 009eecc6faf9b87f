/-
  clock.split: a text with days.
-/
import Derived.Test.YtndlgjphkpceoaaDoorClkS
import Derived.Deep.AppendLies
import Derived.Laws.OwnMore
import Derived.Lib.SliceRun
namespace Go.Proofs.YtndlgjphkpceoaaDoor
open Go Go.RowKit Go.Lib
set_option linter.unusedVariables false

theorem strs_one (ws : List Bs) : ∀ u ∈ strs ws, u.oneCell' = true := by
  intro u hu
  obtain ⟨l, _, rfl⟩ := List.mem_map.1 hu
  rfl
theorem Tryd.infoStr : (Tryd.prog.info? 9).map (fun i => (i.zero, i.size, i.bytes)) = some (some (.string ByteArray.empty), 1, 16) := by kernel_rfl
theorem owns_old {w : World} {base size n : Nat} {e : TypeId} {v : Value} {xs : List Value} (h : w.ownsRow base e size v n xs) {w' : World} (hB : Below w.heap.size w w') : w'.ownsRow base e size v n xs :=
  h.kept (row := none) ⟨hB.os, hB.tape, hB.output, hB.size, fun j hj _ => hB.block j hj⟩ (by cases v.ownBlock <;> simp)

theorem blk_grown {w w' : World} {b : Nat} {cs : Array Value} {t : TypeId} {row : Option Nat} (h : Blk w b cs t) (hg : w.grownBy w' row) (hne : some b ≠ row) : Blk w' b cs t := by
  have hlt := h.lt
  unfold Blk at *
  rw [hg.block b hlt hne]; exact h
set_option maxHeartbeats 2000000 in
theorem split_days (s : ByteArray) (d r : Bs) (m : Int) (w : World) (hs : s.size < 4294967281) (hm : w.cell? ⟨0, 0, none⟩ = some (.int .i64 m)) (hc : cut1 45 s.data.toList = some (d, r)) :
    Calls Tryd.prog 18 #[.string s] w fun e w' => ∃ v, e = .returned (.tuple #[v, .slice (some ⟨w.heap.size, 0, none⟩) 4 4]) ∧
      (∃ b c, v = .slice (some ⟨b, 0, none⟩) (1 + (splitK 58 3 r).length) c ∧ w'.ownsRow w.heap.size 9 1 v (1 + (splitK 58 3 r).length) (strs (d :: splitK 58 3 r))) ∧ Blk w' w.heap.size unitCells 54 ∧ Below w.heap.size w w' := by
  obtain ⟨i0, hi, hz0, hz1, hz2⟩ := info_parts Tryd.infoStr
  have hlen : s.data.toList.length = s.size := Array.length_toList
  have hrl : (⟨r.toArray⟩ : ByteArray).size < 4294967281 := by
    have := congrArg List.length (cut1_some hc).1
    rw [List.length_append, List.length_cons, hlen] at this
    show r.toArray.size < _
    simp; omega
  have HC : Hid (∀ w1, Below w.heap.size w w1 → Calls Tryd.prog 25 #[.string s, .string ⟨#[45]⟩] w1 fun e w' => e = .returned (.tuple #[.string ⟨d.toArray⟩, .string ⟨r.toArray⟩, .bool true]) ∧ Below w1.heap.size w1 w') := fun w1 hb => by
    refine (Tryd.strings_Cut s ⟨#[45]⟩ m w1 hs (cell_next hb hm)).mono ?_
    rintro e w' ⟨rfl, n, rfl⟩
    have e1 := cut_one 45 s.data.toList
    rw [hc] at e1
    have e2 : (⟨#[45]⟩ : ByteArray).data.toList = [45] := rfl
    rw [e2, e1]
    exact ⟨rfl, below_drewN (Below.refl _ _) _⟩
  have HS : Hid (∀ w1, Below w.heap.size w w1 → Calls Tryd.prog 26 #[.string ⟨r.toArray⟩] w1 fun e w' => ∃ c, e = .returned (.slice (some ⟨w1.heap.size, 0, none⟩) (splitK 58 3 r).length c) ∧
      (∀ j u, (strs (splitK 58 3 r))[j]? = some u → w'.cell? ((⟨w1.heap.size, 0, none⟩ : Addr).add j) = some u) ∧ Below w1.heap.size w1 w') := fun w1 hb => by
    refine (colons_any ⟨r.toArray⟩ m w1 hrl (cell_next hb hm)).mono ?_
    rintro e w' ⟨c, rfl, _, _, ⟨arr, hB, ht⟩, b⟩
    refine ⟨c, rfl, fun j u hj => ?_, b⟩
    have ht' : arr.toList.take (splitK 58 3 r).length = strs (splitK 58 3 r) := ht
    rw [Addr.add_lit, Nat.zero_add, hB.cell, ← Array.getElem?_toList]
    rw [← ht', List.getElem?_take] at hj
    split at hj
    · exact hj
    · cases hj
  have hp := split_pos 3 r
  have hl4 := split_le 3 r
  have h1 := strs_one (splitK 58 3 r)
  have hsl : (strs (splitK 58 3 r)).length = (splitK 58 3 r).length * 1 := by simp [strs]
  have HE : Hid (strs (d :: splitK 58 3 r) = [.string ⟨d.toArray⟩] ++ strs (splitK 58 3 r)) := rfl
  generalize strs (d :: splitK 58 3 r) = res at *
  generalize strs (splitK 58 3 r) = vs at *
  generalize (splitK 58 3 r).length = n at *
  clear hc hm hs hrl hlen
  go_enter Tryd.func18, Tryd.ntmps18
  go_wp2_with fail
  have B0 := Lib.hid ((Below.refl w.heap.size w).alloc (Nat.le_refl _) (.cells unitCells 54))
  have U0 := Lib.hid (Blk.new w unitCells 54)
  refine (HC.out _ B0.out).mono ?_; rintro e w1 ⟨rfl, b1⟩
  have B1 := Lib.hid (below_next b1 B0.out)
  have U1 := Lib.hid (U0.out.kept b1)
  have hz : w.heap.size < w1.heap.size := U1.out.lt
  clear b1 B0 U0
  go_wp2_with fail
  have hbW : Below w.heap.size w w1.drew := B1.out.drew
  have hbA : Below w.heap.size w (w1.alloc (.cells #[.string ⟨d.toArray⟩] 9)).drew := (B1.out.alloc (Nat.le_of_lt hz) _).drew
  have own0 : ∀ W : World, w.heap.size ≤ W.heap.size → (W.alloc (.cells #[.string ⟨d.toArray⟩] 9)).ownsRow w.heap.size 9 1 (.slice (some ⟨W.heap.size, 0, none⟩) 1 1) 1 [.string ⟨d.toArray⟩] := fun W h => World.ownsRow_lit W #[.string ⟨d.toArray⟩] 1 h (by decide) rfl
  have h63 : 1 + n ≤ maxLen := by unfold maxLen; omega
  have hby : (1 + n) * 16 ≤ 140737488355328 := by omega
  go_region_law
    (first
      | (go_simp; go_at_call 26; refine (HS.out _ ?_).mono ?_; (first | exact hbW | exact hbA); rintro e w2 ⟨c, rfl, hnews, b2⟩; try dsimp only)
      | (refine step_append_lies _ (by rfl) _ _ 41 (by rfl) w.heap.size 9 i0 _ 1 16 Tryd.underlying41 hi hz0 hz1 hz2 rfl (by decide) (.slice (some ⟨w1.heap.size, 0, none⟩) 1 1) 1 [.string ⟨d.toArray⟩] (by rfl) (owns_old (w := (w1.alloc (.cells #[.string ⟨d.toArray⟩] 9)).drew) (own0 w1 (Nat.le_of_lt hz)) b2) ⟨w1.heap.size + 1, 0, none⟩ n c vs (by rfl) hsl ?_ h1 hp h63 hby ?_ w2.heap.size rfl ?_; (first | exact hnews | (simpa using hnews)); exact Nat.le_trans hbA.size b2.size; intro g cap w4 hown hgrow hat _)
      | (refine step_append_lies _ (by rfl) _ _ 41 (by rfl) w.heap.size 9 i0 _ 1 16 Tryd.underlying41 hi hz0 hz1 hz2 rfl (by decide) (.slice (some ⟨w2.heap.size, 0, none⟩) 1 1) 1 [.string ⟨d.toArray⟩] (by rfl) (own0 w2 (Nat.le_trans hbW.size b2.size)) ⟨w1.heap.size, 0, none⟩ n c vs (by rfl) hsl (fun j u h => Lib.cell?_alloc_some _ (hnews j u h)) h1 hp h63 hby ?_ (w2.heap.size + 1) (by simp) ?_; exact Nat.le_trans (Nat.le_trans hbW.size b2.size) (by simp); intro g cap w4 hown hgrow hat _))
  all_goals
    have hfin : Blk w4 w.heap.size unitCells 54 ∧ Below w.heap.size w w4 := by
      first
        | exact ⟨blk_grown (Blk.kept (w := (w1.alloc (.cells #[.string ⟨d.toArray⟩] 9)).drew) (Blk.old U1.out _) b2) hgrow (fun e => by simp [Value.ownBlock] at e; omega), (below_next b2 hbA).grown hgrow (Nat.le_trans hbA.size b2.size) (fun k hk => by simp [Value.ownBlock] at hk; omega)⟩
        | exact ⟨blk_grown (Blk.old (Blk.kept (w := w1.drew) U1.out b2) _) hgrow (fun e => by simp [Value.ownBlock] at e; have := b2.size; simp at this; omega), ((below_next b2 hbW).alloc (Nat.le_trans hbW.size b2.size) _).grown hgrow (Nat.le_trans (Nat.le_trans hbW.size b2.size) (by simp)) (fun k hk => by simp [Value.ownBlock] at hk; have := b2.size; simp at this; omega)⟩
    have HO := Lib.hid hown
    clear hown hgrow
    go_wp2_with fail
    go_ret2
    exact ⟨_, rfl, ⟨g, cap, rfl, by rw [HE.out]; exact HO.out⟩, hfin.1, hfin.2⟩
end Go.Proofs.YtndlgjphkpceoaaDoor
