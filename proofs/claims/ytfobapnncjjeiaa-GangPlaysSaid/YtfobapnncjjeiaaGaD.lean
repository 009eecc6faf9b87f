/-
  A matrix gets a cell, and loses one: add, drop; hasCells.
-/
import Derived.Test.YtfobapnncjjeiaaGaC
import Derived.Test.YtfobapnncjjeiaaGaE
import Derived.Test.YtfobapnncjjeiaaGaF
import Derived.Test.YtfobapnncjjeiaaSlInsBCell
import Derived.Test.YtfobapnncjjeiaaSlDelBCell
import Derived.Deep.RegionHeld3
namespace Go.Proofs.Ytfobapnncjjeiaa
open Go Go.RowKit Go.Lib
set_option linter.unusedVariables false

/-- A matrix but for its active row. -/
def GN (w : World) (m : Nat) (own : Nat → Prop) (n a : Nat) (l : List Ce) : Prop := ∃ v W, GI w m own n a v W l ∧ WordsG W l ∧ OkG n l
theorem GM.gn {w : World} {m n a : Nat} {own : Nat → Prop} {l : List Ce} (h : GM w m own n a l) : GN w m own n a l := by
  obtain ⟨v, W, h1, h2, h3, h4⟩ := h; exact ⟨v, W, h1, h2, h3⟩
theorem GN.gm {w : World} {m n a : Nat} {own : Nat → Prop} {l : List Ce} (h : GN w m own n a l) (ha : a < rowsG l ∨ a = 0) : GM w m own n a l := by
  obtain ⟨v, W, h1, h2, h3⟩ := h; exact ⟨v, W, h1, h2, h3, ha⟩
section
variable {w w' : World} {m n a : Nat} {own own' : Nat → Prop} {v : Value} {W : Nat → Nat} {l : List Ce}
theorem GI.drewN (h : GI w m own n a v W l) (q : Nat) : GI (w.drewN q) m own n a v W l := h.kept (below_drewN (Below.refl _ _) q)
theorem Chg.drewN {o : Nat → Prop} {a b : World} (h : Chg o a b) (q : Nat) : Chg o a (b.drewN q) := ⟨h.os, h.tape, h.output, h.size, h.block⟩
theorem GN.kept (h : GN w m own n a l) (hb : Below w.heap.size w w') : GN w' m own n a l := by
  obtain ⟨v, W, h1, h2, h3⟩ := h; exact ⟨v, W, h1.kept hb, h2, h3⟩
theorem GN.ok (h : GN w m own n a l) : OkG n l := by obtain ⟨v, W, h1, h2, h3⟩ := h; exact h3
theorem GN.lt (h : GN w m own n a l) : m < w.heap.size := by obtain ⟨v, W, h1, h2⟩ := h; exact h1.gb.lt
theorem GI.wider (h : GI w m own n a v W l) (h1 : ∀ k, own k → own' k) : GI w m own' n a v W l :=
  ⟨h.gb, h.row, h1 _ h.bown, fun k hk => h1 k (h.new k hk), fun g hg => ⟨h1 _ (h.ob g hg).1, (h.ob g hg).2⟩⟩
theorem GN.wider (h : GN w m own n a l) (h1 : ∀ k, own k → own' k) : GN w m own' n a l := by
  obtain ⟨v, W, q1, q2⟩ := h; exact ⟨v, W, q1.wider h1, q2⟩
theorem GM.wider (h : GM w m own n a l) (h1 : ∀ k, own k → own' k) : GM w m own' n a l := by
  obtain ⟨v, W, q1, q2⟩ := h; exact ⟨v, W, q1.wider h1, q2⟩
/-- A box of a function's own lies beside the matrix. -/
theorem GI.boxed (h : GI w m own n a v W l) (o : Obj) : GI (w.alloc o) m (fun k => own k ∧ k ≠ w.heap.size) n a v W l := by
  have hk : Below w.heap.size w (w.alloc o) := (Below.refl _ _).alloc (Nat.le_refl _) _
  have q := h.kept hk
  refine ⟨q.gb, q.row, ⟨h.bown, by have := h.gb.lt; omega⟩, fun k hk => ?_, fun g hg => ?_⟩
  · have : w.heap.size + 1 ≤ k := by simpa using hk
    exact ⟨h.new k (by omega), by omega⟩
  · have := (h.row.lt g hg).2
    exact ⟨⟨(h.ob g hg).1, by omega⟩, (h.ob g hg).2⟩
theorem GN.boxed (h : GN w m own n a l) (o : Obj) : GN (w.alloc o) m (fun k => own k ∧ k ≠ w.heap.size) n a l := by
  obtain ⟨v, W, q1, q2⟩ := h; exact ⟨v, W, q1.boxed o, q2⟩
theorem GI.aside (h : GI w m own n a v W l) {g : Nat} (hg : ¬ own g) (o : Nat) (u : Value) : GI (w.setCell ⟨g, o, none⟩ u) m own n a v W l := by
  refine ⟨⟨h.gb.blk.other (fun (e : m = g) => hg (e ▸ h.bown)) u⟩, ownsRow_setCell_other h.row (fun e => hg (h.ob g e).1) u, h.bown, fun k hk => h.new k (by simpa using hk), h.ob⟩
theorem GN.aside (h : GN w m own n a l) {g : Nat} (hg : ¬ own g) (o : Nat) (u : Value) : GN (w.setCell ⟨g, o, none⟩ u) m own n a l := by
  obtain ⟨v, W, q1, q2⟩ := h; exact ⟨v, W, q1.aside hg o u, q2⟩
theorem GM.aside (h : GM w m own n a l) {g : Nat} (hg : ¬ own g) (o : Nat) (u : Value) : GM (w.setCell ⟨g, o, none⟩ u) m own n a l := by
  obtain ⟨v, W, q1, q2⟩ := h; exact ⟨v, W, q1.aside hg o u, q2⟩
theorem GN.bown (h : GN w m own n a l) : own m := by obtain ⟨v, W, q1, q2⟩ := h; exact q1.bown
theorem GN.new (h : GN w m own n a l) : ∀ k, w.heap.size ≤ k → own k := by obtain ⟨v, W, q1, q2⟩ := h; exact q1.new
end
theorem Blk.chgC {w w' : World} {b : Nat} {cs : Array Value} {t : TypeId} {own : Nat → Prop} (h : Blk w b cs t) (hc : Chg own w w') (hb : ¬ own b) : Blk w' b cs t := by
  unfold Blk at *; rw [hc.block b (lt_of_block h) hb]; exact h
theorem Blk.other' {w w' : World} {b : Nat} {cs : Array Value} {t : TypeId} {r : Option Nat} (h : Blk w b cs t) (hg : w.grownBy w' r) (hr : r ≠ some b) : Blk w' b cs t := by
  unfold Blk at *; rw [hg.block b (lt_of_block h) (fun e => hr e.symm)]; exact h
/-- The words of one row as sixteen cells of the box. -/
theorem GB.col {w : World} {m n a : Nat} {v : Value} {W : Nat → Nat} (h : GB w m n a v W) {r : Nat} (hr : r < 16) : ColB w m (3 + r * 16) 65 (gCells n a v W) (fun j => W (r * 16 + j)) :=
  ⟨h.blk, fun j hj => by rw [gCells_get _ _ _ _ (by omega), show 3 + r * 16 + j = 3 + (r * 16 + j) by omega, gField_w]⟩
def rowW (W : Nat → Nat) (r : Nat) (V : Nat → Nat) : Nat → Nat := fun k => if k / 16 = r then V (k % 16) else W k
theorem GB.ofCol {w w' : World} {m n a r : Nat} {v : Value} {W V : Nat → Nat} {cs : Array Value} (hr : r < 16) (hc : ColB w' m (3 + r * 16) 65 cs V) (hs : cs.size = (gCells n a v W).size)
    (ho : ∀ i, (i < 3 + r * 16 ∨ 3 + r * 16 + 16 ≤ i) → cs[i]? = (gCells n a v W)[i]?) : GB w' m n a v (rowW W r V) := by
  refine ⟨?_⟩
  have e : cs = gCells n a v (rowW W r V) := by
    apply Array.ext_getElem?
    intro i
    by_cases hi : i < 259
    · rw [gCells_get _ _ _ _ hi]
      by_cases h1 : i < 3 + r * 16 ∨ 3 + r * 16 + 16 ≤ i
      · rw [ho i h1, gCells_get _ _ _ _ hi]
        unfold gField
        split
        · rfl
        · split
          · rfl
          · split
            · rfl
            · have : rowW W r V (i - 3) = W (i - 3) := by unfold rowW; rw [if_neg (by omega)]
              rw [this]
      · obtain ⟨j, rfl⟩ : ∃ j, i = 3 + r * 16 + j := ⟨i - (3 + r * 16), by omega⟩
        have hj : j < 16 := by omega
        rw [hc.at_ j hj, show 3 + r * 16 + j = 3 + (r * 16 + j) by omega, gField_w]
        have : rowW W r V (r * 16 + j) = V j := by unfold rowW; rw [if_pos (by omega)]; congr 1; omega
        rw [this]
    · rw [Array.getElem?_eq_none (by rw [hs, gCells_size]; omega), Array.getElem?_eq_none (by rw [gCells_size]; omega)]
  rw [← e]; exact hc.blk
theorem WordsG.row {W V : Nat → Nat} {l l' : List Ce} {r : Nat} (h : WordsG W l) (hv : Words V (Cov l' r)) (hr : ∀ r', r' ≠ r → ∀ x, Cov l' r' x ↔ Cov l r' x) : WordsG (rowW W r V) l' := fun r' h16 => by
  by_cases e : r' = r
  · subst e
    refine ⟨fun j hj => ?_, fun j i hj hi => ?_⟩
    · have : rowW W r' V (r' * 16 + j) = V j := by unfold rowW; rw [if_pos (by omega)]; congr 1; omega
      rw [this]; exact hv.lt j hj
    · have : rowW W r' V (r' * 16 + j) = V j := by unfold rowW; rw [if_pos (by omega)]; congr 1; omega
      rw [this]; exact hv.bit j i hj hi
  · have q := (h r' h16).congr fun x => (hr r' e x).symm
    refine ⟨fun j hj => ?_, fun j i hj hi => ?_⟩
    · have : rowW W r V (r' * 16 + j) = W (r' * 16 + j) := by unfold rowW; rw [if_neg (by omega)]
      rw [this]; exact q.lt j hj
    · have : rowW W r V (r' * 16 + j) = W (r' * 16 + j) := by unfold rowW; rw [if_neg (by omega)]
      rw [this]; exact q.bit j i hj hi
theorem gfind_any (m n a id : Nat) (own : Nat → Prop) (l : List Ce) (w : World) (h : GN w m own n a l) :
    Calls Try.prog 42 #[.pointer (some ⟨m, 0, none⟩), .int .u32 (id : Nat)] w fun e w' => (∃ r, e = .returned (.int .i64 (optF r)) ∧ IsFind l id r) ∧ Below w.heap.size w w' := by
  obtain ⟨v, W, h1, h2, h3⟩ := h
  exact find_gi m n a id own v W l w h1 h3
/-- A row is asked whether a block is free there. -/
theorem rowFree_any (m n a r s o : Nat) (own : Nat → Prop) (l : List Ce) (w : World) (h : GN w m own n a l) (hr : r < 16) (ho : o ≤ n) (hs : s % 2 ^ o = 0) (hb : s + 2 ^ o ≤ 2 ^ n) :
    Calls Try.prog 36 #[.pointer (some ⟨m, 3 + r * 16, none⟩), .agg #[.int .i64 (s : Nat), .int .i64 (o : Nat)]] w fun e w' => ∃ f : Bool, e = .returned (.bool f) ∧ (f = true ↔ FreeG l r s o) ∧ Below w.heap.size w w' := by
  obtain ⟨v, W, hI, hW, hO⟩ := h
  have h1 : 2 ^ n ≤ 1024 := by have := Nat.pow_le_pow_right (n := 2) (by omega) hO.n10; simpa using this
  have hE := (spanE_le hO.n10 ho hb).2
  refine (isFree_any m (3 + r * 16) s o _ _ _ w (hI.gb.col hr) (Nat.le_trans ho hO.n10) hs (by omega) (hW r hr).lt).mono ?_
  rintro e w' ⟨f, rfl, hf, hbl⟩
  exact ⟨f, rfl, by rw [hf, (hW r hr).free hs hE, freeG_iff], hbl⟩
/-- A row gets a block's columns, and loses them. -/
theorem rowAdd_any (m n a r s o : Nat) (own : Nat → Prop) (v : Value) (W : Nat → Nat) (l l0 : List Ce) (w : World) (hI : GI w m own n a v W l) (hW : WordsG W l0) (hn : n ≤ 10) (hr : r < 16) (ho : o ≤ n) (hs : s % 2 ^ o = 0) (hb : s + 2 ^ o ≤ 2 ^ n)
    (hc : ∀ r' x, Cov l r' x ↔ Cov l0 r' x ∨ (r = r' ∧ inC s o x)) :
    Calls Try.prog 37 #[.pointer (some ⟨m, 3 + r * 16, none⟩), .agg #[.int .i64 (s : Nat), .int .i64 (o : Nat)]] w fun e w' => e = .returned (.tuple #[]) ∧ (∃ W', GI w' m own n a v W' l ∧ WordsG W' l) ∧ Chg own w w' := by
  have h1 : 2 ^ n ≤ 1024 := by have := Nat.pow_le_pow_right (n := 2) (by omega) hn; simpa using this
  refine (add_any m (3 + r * 16) s o _ _ _ w (hI.gb.col hr) (Nat.le_trans ho hn) hs (by omega) (hW r hr).lt).mono ?_
  rintro e w' ⟨rfl, cs', h2, h3, h4, h5⟩
  refine ⟨rfl, ⟨_, hI.box h5 (GB.ofCol (w := w) hr h2 h3 h4), hW.row (((hW r hr).or hs).congr fun x => ?_) fun r' hne x => ?_⟩, h5.weak fun k e => by rw [e]; exact hI.bown⟩
  · rw [hc]; simp
  · rw [hc]
    constructor
    · rintro (h | ⟨h, _⟩)
      · exact h
      · exact absurd h.symm hne
    · exact .inl
theorem rowRem_any (m n a r s o : Nat) (own : Nat → Prop) (v : Value) (W : Nat → Nat) (l l0 : List Ce) (w : World) (hI : GI w m own n a v W l) (hW : WordsG W l0) (hn : n ≤ 10) (hr : r < 16) (ho : o ≤ n) (hs : s % 2 ^ o = 0) (hb : s + 2 ^ o ≤ 2 ^ n)
    (hc : ∀ r' x, Cov l r' x ↔ Cov l0 r' x ∧ ¬ (r = r' ∧ inC s o x)) :
    Calls Try.prog 53 #[.pointer (some ⟨m, 3 + r * 16, none⟩), .agg #[.int .i64 (s : Nat), .int .i64 (o : Nat)]] w fun e w' => e = .returned (.tuple #[]) ∧ (∃ W', GI w' m own n a v W' l ∧ WordsG W' l) ∧ Chg own w w' := by
  have h1 : 2 ^ n ≤ 1024 := by have := Nat.pow_le_pow_right (n := 2) (by omega) hn; simpa using this
  refine (remove_any m (3 + r * 16) s o _ _ _ w (hI.gb.col hr) (Nat.le_trans ho hn) hs (by omega) (hW r hr).lt).mono ?_
  rintro e w' ⟨rfl, cs', h2, h3, h4, h5⟩
  refine ⟨rfl, ⟨_, hI.box h5 (GB.ofCol (w := w) hr h2 h3 h4), hW.row (((hW r hr).andNot hs).congr fun x => ?_) fun r' hne x => ?_⟩, h5.weak fun k e => by rw [e]; exact hI.bown⟩
  · rw [hc]; simp
  · rw [hc]
    constructor
    · exact fun h => h.1
    · exact fun h => ⟨h, fun h' => hne h'.1.symm⟩
end Go.Proofs.Ytfobapnncjjeiaa
