/-
  What may change in the memory: the blocks of 'own' alone. No program is imported.
-/
import Derived.Test.YtfabjlhepadkpaaMem
import Derived.OwnWalk
import Derived.OneCell
import Derived.RangeFuncSeq
namespace Go.Proofs.Ytfabjlhepadkpaa
open Go Go.RowKit
set_option linter.unusedVariables false

/-! What may change: the blocks of 'own'. -/
structure Chg (own : Nat → Prop) (w w' : World) : Prop where
  os : w'.os = w.os
  tape : w'.tape = w.tape
  output : w'.output = w.output
  size : w.heap.size ≤ w'.heap.size
  block : ∀ k, k < w.heap.size → ¬ own k → w'.heap[k]? = w.heap[k]?
theorem Chg.refl (own : Nat → Prop) (w : World) : Chg own w w := ⟨rfl, rfl, rfl, Nat.le_refl _, fun _ _ _ => rfl⟩
theorem Chg.trans {own : Nat → Prop} {a b c : World} (h1 : Chg own a b) (h2 : Chg own b c) : Chg own a c :=
  ⟨h2.os.trans h1.os, h2.tape.trans h1.tape, h2.output.trans h1.output, Nat.le_trans h1.size h2.size, fun k hk hn => (h2.block k (Nat.lt_of_lt_of_le hk h1.size) hn).trans (h1.block k hk hn)⟩
theorem Chg.of_below {own : Nat → Prop} {w w' : World} (h : Below w.heap.size w w') : Chg own w w' := ⟨h.os, h.tape, h.output, h.size, fun k hk _ => h.block k hk⟩
theorem Chg.of_grown {own : Nat → Prop} {w w' : World} {r : Option Nat} (h : w.grownBy w' r) (ho : ∀ g, r = some g → own g) : Chg own w w' :=
  ⟨h.os, h.tape, h.output, h.size, fun k hk hn => h.block k hk (fun e => hn (ho k e.symm))⟩
theorem Chg.setCell {own : Nat → Prop} {w : World} {b : Nat} (o : Nat) (v : Value) (hb : own b) : Chg own w (w.setCell ⟨b, o, none⟩ v) :=
  ⟨rfl, rfl, rfl, (KeepsWalks.setCell w _ v).size, fun k _ hk => Below.heap_setCell _ _ _ k (fun e => hk (by subst e; exact hb))⟩
theorem Chg.to_below {own : Nat → Prop} {w w' : World} {B : Nat} (h : Chg own w w') (hB : B ≤ w.heap.size) (ho : ∀ k, k < B → ¬ own k) : Below B w w' :=
  ⟨h.os, h.tape, h.output, h.size, fun k hk => h.block k (Nat.lt_of_lt_of_le hk hB) (ho k hk)⟩
theorem Chg.wider {own own' : Nat → Prop} {w w' : World} (h : Chg own w w') (ho : ∀ k, k < w.heap.size → own k → own' k) : Chg own' w w' :=
  ⟨h.os, h.tape, h.output, h.size, fun k hk hn => h.block k hk fun e => hn (ho k hk e)⟩

theorem Chg.weak {own own' : Nat → Prop} {w w' : World} (h : Chg own w w') (ho : ∀ k, own k → own' k) : Chg own' w w' := h.wider fun k _ => ho k
theorem own_chg {own : Nat → Prop} {w w' : World} {base size n : Nat} {e : TypeId} {v : Value} {xs : List Value} (h : w.ownsRow base e size v n xs) (hc : Chg own w w') (hv : ∀ k, v.ownBlock = some k → ¬ own k) : w'.ownsRow base e size v n xs := by
  refine ⟨h.1, ?_⟩
  rcases h.2 with hn | ⟨g, cap, cur, rfl, hb, hgg, rest⟩
  · exact .inl hn
  · exact .inr ⟨g, cap, cur, rfl, hb, by rw [hc.block g (Array.getElem?_eq_some_iff.1 hgg).1 (hv g rfl)]; exact hgg, rest⟩
/-- The stores into one block. -/
abbrev One (b : Nat) : Nat → Prop := fun k => k = b
theorem own_one {w w' : World} {base size n b : Nat} {e : TypeId} {v : Value} {xs : List Value} (h : w.ownsRow base e size v n xs) (hc : Chg (One b) w w') (hv : v.ownBlock ≠ some b) : w'.ownsRow base e size v n xs :=
  own_chg h hc fun k hk e => hv (by rw [hk]; exact congrArg some e)
theorem Chg.newCell {own : Nat → Prop} {w w' : World} {g : Nat} (h : Chg own w w') (hg : w.heap.size ≤ g) (o : Nat) (v : Value) : Chg own w (w'.setCell ⟨g, o, none⟩ v) :=
  ⟨h.os, h.tape, h.output, Nat.le_trans h.size (KeepsWalks.setCell w' _ v).size, fun k hk hn => by
    rw [Below.heap_setCell _ _ _ k (by show k ≠ g; omega)]; exact h.block k hk hn⟩
theorem Chg.more {own : Nat → Prop} {a b c : World} (h1 : Chg own a b) (h2 : Below b.heap.size b c) : Chg own a c := h1.trans (Chg.of_below h2)
end Go.Proofs.Ytfabjlhepadkpaa
