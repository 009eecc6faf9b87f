/-
  A matrix that turns, beside a row of numbers that grows.
-/
import Derived.Test.YtfobapnncjjeiaaGaLw
import Derived.Test.YtfobapnncjjeiaaGaRs
namespace Go.Proofs.Ytfobapnncjjeiaa
open Go Go.RowKit Go.Lib
set_option linter.unusedVariables false

section
variable {w w' : World} {m n a : Nat} {own : Nat → Prop} {v : Value} {W : Nat → Nat} {l : List Ce} {r : Option Nat}
theorem GI.grown (h : GI w m own n a v W l) (hg : w.grownBy w' r) (hr : ∀ g, r = some g → ¬ own g) : GI w' m own n a v W l := by
  have hc : Chg (fun k => r = some k) w w' := Chg.of_grown hg fun g e => e
  exact ⟨h.gb.other hg (fun e => hr m e h.bown), own_chg h.row hc (fun k hk e => hr k e (h.ob k hk).1), h.bown, fun k hk => h.new k (Nat.le_trans hg.size hk), h.ob⟩
theorem GM.grown (h : GM w m own n a l) (hg : w.grownBy w' r) (hr : ∀ g, r = some g → ¬ own g) : GM w' m own n a l := by
  obtain ⟨v, W, h1, h2⟩ := h; exact ⟨v, W, h1.grown hg hr, h2⟩
/-- A block that was made meanwhile lies beside. -/
theorem GM.grownMinus (h : GM w m own n a l) (hg : w.grownBy w' r) (hr : ∀ g, r = some g → ¬ own g) {g : Nat} (h1 : w.heap.size ≤ g) (h2 : g < w'.heap.size) : GM w' m (fun k => own k ∧ k ≠ g) n a l := by
  obtain ⟨v, W, q1, q2⟩ := h
  have q := q1.grown hg hr
  refine ⟨v, W, ⟨q.gb, q.row, ⟨q.bown, by have := q1.gb.lt; omega⟩, fun k hk => ⟨q.new k hk, by omega⟩, fun k hk => ⟨⟨(q.ob k hk).1, by have := (q1.row.lt k hk).2; omega⟩, (q.ob k hk).2⟩⟩, q2⟩
end
/-- The matrix as it turns; its cells' copy; the row that grows. -/
def TSt (w0 : World) (m : Nat) (l : List Ce) (va : Value) (B1 B ak : Nat) (v : Value) (zs : List Nat) (w : World) : Prop :=
  ∃ ow : Nat → Prop, GM w m ow 4 ak l ∧ (∀ k, ow k → w0.heap.size ≤ k) ∧ COwn w B1 va l ∧ (∀ g, va.ownBlock = some g → ¬ ow g ∧ g < B) ∧ UOwn w B v zs ∧ (∀ g, v.ownBlock = some g → ¬ ow g) ∧ w0.heap.size ≤ B ∧ B ≤ w.heap.size ∧ Below w0.heap.size w0 w
section
variable {w0 w w' : World} {m B1 B ak n : Nat} {l : List Ce} {va v v' : Value} {zs zs' : List Nat}
theorem TSt.gn (h : TSt w0 m l va B1 B ak v zs w) : ∃ ow, GN w m ow 4 ak l := by obtain ⟨ow, h1, _⟩ := h; exact ⟨ow, h1.gn⟩
theorem TSt.kept (h : TSt w0 m l va B1 B ak v zs w) (hb : Below w.heap.size w w') : TSt w0 m l va B1 B ak v zs w' := by
  obtain ⟨ow, h1, h2, h3, h4, h5, h6, h7, h8, h9⟩ := h
  exact ⟨ow, h1.kept hb, h2, own_older h3 hb, h4, own_older h5 hb, h6, h7, Nat.le_trans h8 hb.size, below_next hb h9⟩
theorem TSt.row (h : TSt w0 m l va B1 B ak v zs w) : UOwn w B v zs := by obtain ⟨ow, h1, h2, h3, h4, h5, h6⟩ := h; exact h5
theorem TSt.cells (h : TSt w0 m l va B1 B ak v zs w) : CRow w va l := by obtain ⟨ow, h1, h2, h3, h4⟩ := h; exact crow_of_own h3
theorem TSt.base (h : TSt w0 m l va B1 B ak v zs w) : B ≤ w.heap.size := by obtain ⟨ow, h1, h2, h3, h4, h5, h6, h7, h8, h9⟩ := h; exact h8
theorem TSt.bel (h : TSt w0 m l va B1 B ak v zs w) : Below w0.heap.size w0 w := by obtain ⟨ow, h1, h2, h3, h4, h5, h6, h7, h8, h9⟩ := h; exact h9
theorem TSt.act (h : TSt w0 m l va B1 B ak v zs w) : ak < rowsG l ∨ ak = 0 := by obtain ⟨ow, h1, _⟩ := h; exact h1.act
/-- The row has grown. -/
theorem TSt.app (h : TSt w0 m l va B1 B ak v zs w) (ho : UOwn w' B v' zs') (hg : w.grownBy w' v.ownBlock) (hat : v'.ownBlock = v.ownBlock ∨ v'.ownBlock = some w.heap.size) : TSt w0 m l va B1 B ak v' zs' w' := by
  obtain ⟨ow, h1, h2, h3, h4, h5, h6, h7, h8, h9⟩ := h
  have hva : COwn w' B1 va l := own_chg h3 (Chg.of_grown (own := fun k => v.ownBlock = some k) hg fun g e => e) (fun k hk e => by
    have e' : v.ownBlock = some k := e
    have := (h5.lt k e').1
    have := (h4 k hk).2
    omega)
  have hbel : Below w0.heap.size w0 w' := h9.trans ((Chg.of_grown (own := fun k => v.ownBlock = some k) hg fun g e => e).to_below h9.size fun k hk e => by
    have e' : v.ownBlock = some k := e
    have := (h5.lt k e').1
    omega)
  rcases hat with e | e
  · exact ⟨ow, h1.grown hg h6, h2, hva, h4, ho, fun g hg' => h6 g (by rw [← e]; exact hg'), h7, Nat.le_trans h8 hg.size, hbel⟩
  · have hlt := (ho.lt w.heap.size e).2
    refine ⟨fun k => ow k ∧ k ≠ w.heap.size, h1.grownMinus hg h6 (Nat.le_refl _) hlt, fun k hk => h2 k hk.1, hva, fun g hg' => ⟨fun hh => (h4 g hg').1 hh.1, (h4 g hg').2⟩, ho, fun g hg' hh => ?_, h7, Nat.le_trans h8 hg.size, hbel⟩
    rw [e] at hg'
    injection hg' with hg'
    exact hh.2 hg'.symm
theorem TSt.turn (h : TSt w0 m l va B1 B ak v zs w) :
    Calls Try.prog 27 #[.pointer (some ⟨m, 0, none⟩)] w fun e w' => e = .returned (.tuple #[]) ∧ TSt w0 m l va B1 B (turnA l ak) v zs w' := by
  obtain ⟨ow, h1, h2, h3, h4, h5, h6, h7, h8, h9⟩ := h
  refine (turn_any m 4 ak ow l w h1).mono ?_
  rintro e w' ⟨rfl, q1, q2⟩
  exact ⟨rfl, ow, q1, h2, own_chg h3 q2 (fun k hk => (h4 k hk).1), h4, own_chg h5 q2 h6, h6, h7, Nat.le_trans h8 q2.size, h9.trans (q2.to_below h9.size fun k hk e => by have := h2 k e; omega)⟩
theorem TSt.start {own : Nat → Prop} (h1 : GM w m own 4 ak l) (h2 : ∀ k, own k → w0.heap.size ≤ k) (h3 : COwn w' w.heap.size va l) (hb : Below w.heap.size w w') (hw : Below w0.heap.size w0 w) :
    TSt w0 m l va w.heap.size w'.heap.size ak (.slice none 0 0) [] w' := by
  refine ⟨_, h1.beside hb (fun g hg => h3.lt g hg), fun k hk => h2 k hk.1, h3, fun g hg => ⟨fun hh => hh.2 hg, (h3.lt g hg).2⟩, World.ownsRow_nil _ _ _ _, fun g hg => (nomatch hg), ?_, Nat.le_refl _, below_next hb hw⟩
  exact Nat.le_trans hw.size hb.size
end
theorem src_u2 {w : World} {v : Value} {l : List Nat} (h : URow w v l) : Src w 1 v l.length (uL l) := src_of_rowG uV_len (by decide) h
theorem turn_at {l : List Ce} {a k : Nat} (ha : a < rowsG l) : turnA l ((a + k) % rowsG l) = (a + (k + 1)) % rowsG l := by
  have h := Nat.mod_lt (a + k) (show 0 < rowsG l by omega)
  have e : (a + (k + 1)) % rowsG l = ((a + k) % rowsG l + 1) % rowsG l := by rw [Nat.mod_add_mod]; rfl
  rw [e]
  generalize (a + k) % rowsG l = M at h
  unfold turnA
  by_cases h2 : rowsG l ≤ M + 1
  · rw [if_pos h2, show M + 1 = rowsG l by omega, Nat.mod_self]
  · rw [if_neg h2, Nat.mod_eq_of_lt (by omega)]
end Go.Proofs.Ytfobapnncjjeiaa
