/-
  A matrix in the memory: its box of 259 cells, and the row of its cells.
-/
import Derived.Test.YtfobapnncjjeiaaProg
import Derived.Test.YtfobapnncjjeiaaGaB
import Derived.Test.YtfobapnncjjeiaaMem
import Derived.Test.YtfobapnncjjeiaaChg
import Derived.Test.YtfobapnncjjeiaaAtB
import Derived.Test.YtfobapnncjjeiaaRwG
import Derived.Test.YtfobapnncjjeiaaRwO
import Derived.Test.YtfobapnncjjeiaaNums
import Derived.Lib.Hide
import Derived.OwnWalk
namespace Go.Proofs.Ytfobapnncjjeiaa
open Go Go.RowKit Go.Lib
set_option linter.unusedVariables false

def ceV (c : Ce) : List Value := [.int .u32 (c.1 : Int), .int .i64 (c.2.1 : Int), .int .i64 (c.2.2.1 : Int), .int .i64 (c.2.2.2 : Int)]
theorem ceV_len (c : Ce) : (ceV c).length = 4 := rfl
theorem ceV_one (l : List Ce) : ∀ u ∈ l.flatMap ceV, u.oneCell' = true := fun u hu => by
  obtain ⟨x, _, h⟩ := List.mem_flatMap.1 hu
  simp [ceV] at h; rcases h with rfl | rfl | rfl | rfl <;> rfl
theorem ceL_take : ∀ (l : List Ce) (p : Nat), (l.flatMap ceV).take (p * 4) = (l.take p).flatMap ceV
  | [], p => by simp
  | a :: r, 0 => by simp
  | a :: r, p + 1 => by
    rw [List.take_succ_cons, List.flatMap_cons, List.flatMap_cons, ← ceL_take r p, show (p + 1) * 4 = 4 + p * 4 by omega, List.take_append, List.take_of_length_le (by rw [ceV_len]; omega), ceV_len, show 4 + p * 4 - 4 = p * 4 by omega]
theorem ceL_drop : ∀ (l : List Ce) (p : Nat), (l.flatMap ceV).drop (p * 4) = (l.drop p).flatMap ceV
  | [], p => by simp
  | a :: r, 0 => by simp
  | a :: r, p + 1 => by
    rw [List.drop_succ_cons, List.flatMap_cons, ← ceL_drop r p, show (p + 1) * 4 = 4 + p * 4 by omega, List.drop_append, List.drop_eq_nil_of_le (by rw [ceV_len]; omega), ceV_len, show 4 + p * 4 - 4 = p * 4 by omega]; rfl
abbrev COwn (w : World) (base : Nat) (v : Value) (l : List Ce) : Prop := w.ownsRow base 48 4 v l.length (l.flatMap ceV)
abbrev CRow : World → Value → List Ce → Prop := RowG 4 ceV
theorem crow_of_own {w : World} {base : Nat} {v : Value} {l : List Ce} (h : COwn w base v l) : CRow w v l := rowG_of_own ceV_len h
theorem CRow.cells {w : World} {bb off n c : Nat} {l : List Ce} (h : CRow w (.slice (some ⟨bb, off, none⟩) n c) l) {k : Nat} (hk : k < l.length) {w' : World} (hb : Below w.heap.size w w') :
    w'.cell? ⟨bb, off + k * 4, none⟩ = some (.int .u32 (l[k].1 : Int)) ∧ w'.cell? ⟨bb, off + k * 4 + 1, none⟩ = some (.int .i64 (l[k].2.1 : Int)) ∧ w'.cell? ⟨bb, off + k * 4 + 2, none⟩ = some (.int .i64 (l[k].2.2.1 : Int)) ∧ w'.cell? ⟨bb, off + k * 4 + 3, none⟩ = some (.int .i64 (l[k].2.2.2 : Int)) := by
  obtain ⟨b', off', e, hc⟩ := RowG.at h hk
  injection e with e; injection e with e1 e2; subst e1; subst e2
  exact ⟨hc w' hb 0 _ rfl, hc w' hb 1 _ rfl, hc w' hb 2 _ rfl, hc w' hb 3 _ rfl⟩
theorem CRow.nil {w : World} {n c : Nat} {l : List Ce} (h : CRow w (.slice none n c) l) : l = [] := by
  rcases h with ⟨rfl, _⟩ | ⟨b, off, c', h1, _⟩
  · rfl
  · cases h1
theorem CRow.addr {w : World} {n c : Nat} {A : Addr} {l : List Ce} (h : CRow w (.slice (some A) n c) l) (hk : 0 < l.length) : ∃ bb off, A = ⟨bb, off, none⟩ := by
  obtain ⟨b, off, e, _⟩ := RowG.at h hk
  exact ⟨b, off, by injection e⟩
/-! The box. -/
def gField (n a : Nat) (v : Value) (W : Nat → Nat) (i : Nat) : Value :=
  if i = 0 then .int .i64 (n : Int) else if i = 1 then .int .i64 (a : Int) else if i = 2 then v else .int .u64 ((W (i - 3) : Nat) : Int)
def gCells (n a : Nat) (v : Value) (W : Nat → Nat) : Array Value := Array.ofFn (n := 259) fun i => gField n a v W i
theorem gCells_size (n a : Nat) (v : Value) (W : Nat → Nat) : (gCells n a v W).size = 259 := by simp [gCells]
theorem gCells_get (n a : Nat) (v : Value) (W : Nat → Nat) {i : Nat} (h : i < 259) : (gCells n a v W)[i]? = some (gField n a v W i) := by
  unfold gCells
  rw [Array.getElem?_ofFn, dif_pos h]
theorem gCells_ext {n a n' a' : Nat} {v v' : Value} {W W' : Nat → Nat} (h : ∀ i, i < 259 → gField n a v W i = gField n' a' v' W' i) : gCells n a v W = gCells n' a' v' W' := by
  unfold gCells
  congr 1
  funext i
  exact h i i.2
structure GB (w : World) (m n a : Nat) (v : Value) (W : Nat → Nat) : Prop where
  blk : Blk w m (gCells n a v W) 65
section
variable {w w' : World} {m n a : Nat} {v : Value} {W : Nat → Nat}
theorem GB.drew (h : GB w m n a v W) : GB w.drew m n a v W := ⟨h.blk⟩
theorem GB.kept (h : GB w m n a v W) (hb : Below w.heap.size w w') : GB w' m n a v W := ⟨h.blk.kept hb⟩
theorem GB.lt (h : GB w m n a v W) : m < w.heap.size := h.blk.lt
theorem GB.cell (h : GB w m n a v W) {i : Nat} (hi : i < 259) : w.cell? ⟨m, i, none⟩ = some (gField n a v W i) := by
  rw [Blk.cell h.blk, gCells_get _ _ _ _ hi]
theorem GB.frozen (h : GB w m n a v W) (i : Nat) : w.frozen? ⟨m, i, none⟩ = false := Blk.free h.blk i
theorem GB.c0 (h : GB w m n a v W) : w.cell? ⟨m, 0, none⟩ = some (.int .i64 (n : Int)) := h.cell (i := 0) (by omega)
theorem GB.c1 (h : GB w m n a v W) : w.cell? ⟨m, 1, none⟩ = some (.int .i64 (a : Int)) := h.cell (i := 1) (by omega)
theorem GB.c2 (h : GB w m n a v W) : w.cell? ⟨m, 2, none⟩ = some v := h.cell (i := 2) (by omega)
theorem gField_w {k : Nat} : gField n a v W (3 + k) = .int .u64 ((W k : Nat) : Int) := by
  unfold gField
  rw [if_neg (by omega), if_neg (by omega), if_neg (by omega), show 3 + k - 3 = k by omega]
theorem GB.cw (h : GB w m n a v W) {k : Nat} (hk : k < 256) : w.cell? ⟨m, 3 + k, none⟩ = some (.int .u64 ((W k : Nat) : Int)) := by
  rw [h.cell (i := 3 + k) (by omega), gField_w]
theorem GB.other (h : GB w m n a v W) {k : Option Nat} (hg : w.grownBy w' k) (hne : k ≠ some m) : GB w' m n a v W := by
  obtain ⟨h⟩ := h
  refine ⟨?_⟩
  unfold Blk at *
  rw [hg.block m (lt_of_block h) (fun e => hne e.symm)]; exact h
theorem GB.store (h : GB w m n a v W) {n' a' : Nat} {v' : Value} {W' : Nat → Nat} {o : Nat} {u : Value} (ho : o < 259) (h1 : gField n' a' v' W' o = u) (h2 : ∀ i, i < 259 → i ≠ o → gField n' a' v' W' i = gField n a v W i) :
    GB (w.setCell ⟨m, o, none⟩ u) m n' a' v' W' := by
  have := Blk.set h.blk o u
  have e : (gCells n a v W).setIfInBounds o u = gCells n' a' v' W' := by
    apply Array.ext_getElem?
    intro i
    rw [Array.getElem?_setIfInBounds]
    split
    · rename_i hi
      subst hi
      rw [gCells_size, if_pos ho, gCells_get _ _ _ _ ho, h1]
    · rename_i hi
      by_cases hi9 : i < 259
      · rw [gCells_get _ _ _ _ hi9, gCells_get _ _ _ _ hi9, h2 i hi9 fun e => hi e.symm]
      · rw [Array.getElem?_eq_none (by rw [gCells_size]; omega), Array.getElem?_eq_none (by rw [gCells_size]; omega)]
  rw [e] at this
  exact ⟨this⟩
theorem GB.setA (h : GB w m n a v W) (a' : Nat) : GB (w.setCell ⟨m, 1, none⟩ (.int .i64 (a' : Int))) m n a' v W :=
  h.store (by omega) rfl fun i _ hi => by unfold gField; simp only [if_neg hi]
theorem GB.setV (h : GB w m n a v W) (v' : Value) : GB (w.setCell ⟨m, 2, none⟩ v') m n a v' W :=
  h.store (by omega) rfl fun i _ hi => by unfold gField; simp only [if_neg hi]
def updW (W : Nat → Nat) (k x : Nat) : Nat → Nat := fun j => if j = k then x else W j
theorem GB.setW (h : GB w m n a v W) {k : Nat} (hk : k < 256) (x : Nat) : GB (w.setCell ⟨m, 3 + k, none⟩ (.int .u64 (x : Int))) m n a v (updW W k x) := by
  refine h.store (by omega) (by rw [gField_w]; unfold updW; rw [if_pos rfl]) fun i hi hne => ?_
  unfold gField updW
  split
  · rfl
  · split
    · rfl
    · split
      · rfl
      · rw [if_neg (by omega)]
theorem GB.congr (h : GB w m n a v W) {W' : Nat → Nat} (e : ∀ k, k < 256 → W k = W' k) : GB w m n a v W' := by
  refine ⟨?_⟩
  rw [← gCells_ext (n := n) (a := a) (v := v) (W := W) (fun i hi => ?_)]
  · exact h.blk
  · unfold gField
    split
    · rfl
    · split
      · rfl
      · split
        · rfl
        · rw [e (i - 3) (by omega)]
end
/-! The matrix: who owns it, its cells, and that the words say the same. -/
structure GI (w : World) (m : Nat) (own : Nat → Prop) (n a : Nat) (v : Value) (W : Nat → Nat) (l : List Ce) : Prop where
  gb : GB w m n a v W
  row : COwn w 0 v l
  bown : own m
  new : ∀ k, w.heap.size ≤ k → own k
  ob : ∀ g, v.ownBlock = some g → own g ∧ g ≠ m
def WordsG (W : Nat → Nat) (l : List Ce) : Prop := ∀ r, r < 16 → Words (fun j => W (r * 16 + j)) (Cov l r)
def GM (w : World) (m : Nat) (own : Nat → Prop) (n a : Nat) (l : List Ce) : Prop := ∃ v W, GI w m own n a v W l ∧ WordsG W l ∧ OkG n l ∧ (a < rowsG l ∨ a = 0)
section
variable {w w' : World} {m n a : Nat} {own : Nat → Prop} {v : Value} {W : Nat → Nat} {l : List Ce}
theorem GI.kept (h : GI w m own n a v W l) (hb : Below w.heap.size w w') : GI w' m own n a v W l :=
  ⟨h.gb.kept hb, own_older h.row hb, h.bown, fun k hk => h.new k (Nat.le_trans hb.size hk), h.ob⟩
theorem GM.kept (h : GM w m own n a l) (hb : Below w.heap.size w w') : GM w' m own n a l := by
  obtain ⟨v, W, h1, h2, h3⟩ := h
  exact ⟨v, W, h1.kept hb, h2, h3⟩
theorem GM.ok (h : GM w m own n a l) : OkG n l := by obtain ⟨v, W, h1, h2, h3, h4⟩ := h; exact h3
theorem GM.act (h : GM w m own n a l) : a < rowsG l ∨ a = 0 := by obtain ⟨v, W, h1, h2, h3, h4⟩ := h; exact h4
theorem GM.lt (h : GM w m own n a l) : m < w.heap.size := by obtain ⟨v, W, h1, h2⟩ := h; exact h1.gb.lt
theorem GM.a16 (h : GM w m own n a l) : a ≤ 15 := by
  have h1 := rowsG_16 h.ok
  rcases h.act with h2 | h2 <;> omega
/-- Only the box is written to. -/
theorem GI.box (h : GI w m own n a v W l) {n' a' : Nat} {W' : Nat → Nat} (hc : Chg (One m) w w') (hg : GB w' m n' a' v W') : GI w' m own n' a' v W' l :=
  ⟨hg, own_one h.row hc (fun e => (h.ob m e).2 rfl), h.bown, fun k hk => h.new k (Nat.le_trans hc.size hk), h.ob⟩
/-- The row of the cells is written anew, and stored. -/
theorem GI.put (h : GI w m own n a v W l) {w1 : World} {v' : Value} {l' : List Ce} (hg : w.grownBy w1 v.ownBlock) (hat : AtB w v v') (ho : COwn w1 0 v' l') :
    GI (w1.setCell ⟨m, 2, none⟩ v') m own n a v' W l' ∧ Chg own w (w1.setCell ⟨m, 2, none⟩ v') ∧ GB w1 m n a v W := by
  have hvm : v.ownBlock ≠ some m := fun e => (h.ob m e).2 rfl
  have hB1 : GB w1 m n a v W := h.gb.other hg hvm
  have hv' : ∀ g, v'.ownBlock = some g → own g ∧ g ≠ m := fun g hg' => by
    rcases hat g hg' with e | e
    · exact h.ob g e
    · exact ⟨h.new g e, by have := h.gb.lt; omega⟩
  refine ⟨⟨hB1.setV v', ownsRow_setCell_other ho (fun e => (hv' m e).2 rfl) v', h.bown, fun k hk => h.new k (Nat.le_trans hg.size (by simpa using hk)), hv'⟩, ?_, hB1⟩
  exact (Chg.of_grown hg fun g e => (h.ob g e).1).trans (Chg.setCell 2 v' h.bown)
end
end Go.Proofs.Ytfobapnncjjeiaa
