/-
  What a call may turn: the blocks of a set, and no others; rows that are read, rows that are owned. No program is imported.
-/
import Derived.Test.YtgohnidndjbjiaaMem
import Derived.Maps.AppendAt
import Derived.Laws.OwnMore
import Derived.OwnWalk
namespace Go.Proofs.Ytgohnidndjbjiaa
open Go Go.RowKit
set_option linter.unusedVariables false

/-- Of the blocks that were there, only those of N may be turned. -/
structure Fr (N : Nat → Prop) (w w' : World) : Prop where
  os : w'.os = w.os
  tape : w'.tape = w.tape
  output : w'.output = w.output
  size : w.heap.size ≤ w'.heap.size
  block : ∀ k, k < w.heap.size → ¬ N k → w'.heap[k]? = w.heap[k]?

section
variable {N M : Nat → Prop} {w w1 w2 : World}
theorem Fr.refl (N : Nat → Prop) (w : World) : Fr N w w := ⟨rfl, rfl, rfl, Nat.le_refl _, fun _ _ _ => rfl⟩
theorem Fr.trans (h : Fr N w w1) (k : Fr M w1 w2) (hm : ∀ b, b < w.heap.size → M b → N b) : Fr N w w2 :=
  ⟨k.os.trans h.os, k.tape.trans h.tape, k.output.trans h.output, Nat.le_trans h.size k.size,
    fun i hi hn => (k.block i (Nat.lt_of_lt_of_le hi h.size) fun hM => hn (hm i hi hM)).trans (h.block i hi hn)⟩
theorem Fr.mono (h : Fr N w w1) (hm : ∀ b, b < w.heap.size → N b → M b) : Fr M w w1 :=
  ⟨h.os, h.tape, h.output, h.size, fun i hi hn => h.block i hi fun hN => hn (hm i hi hN)⟩
theorem Fr.alloc (h : Fr N w w1) (o : Obj) : Fr N w (w1.alloc o) :=
  ⟨h.os, h.tape, h.output, Nat.le_trans h.size (by simp), fun i hi hn => (Below.heap_alloc w1 o i (Nat.lt_of_lt_of_le hi h.size)).trans (h.block i hi hn)⟩
theorem Fr.setCell (h : Fr N w w1) {a : Addr} (ha : N a.block ∨ w.heap.size ≤ a.block) (u : Value) : Fr N w (w1.setCell a u) :=
  ⟨h.os, h.tape, h.output, by simpa using h.size, fun i hi hn => (Below.heap_setCell w1 a u i (by rintro rfl; rcases ha with ha | ha; exact hn ha; omega)).trans (h.block i hi hn)⟩
/-- One cell of one block. -/
theorem Fr.one (w : World) (b o : Nat) (u : Value) : Fr (fun k => k = b) w (w.setCell ⟨b, o, none⟩ u) := Fr.setCell (N := fun k => k = b) (Fr.refl _ w) (a := ⟨b, o, none⟩) (.inl rfl) u
theorem Fr.drew (h : Fr N w w1) : Fr N w w1.drew := ⟨h.os, h.tape, h.output, h.size, h.block⟩
theorem Fr.drewN (h : Fr N w w1) (n : Nat) : Fr N w (w1.drewN n) := ⟨h.os, h.tape, h.output, h.size, h.block⟩
theorem Fr.grown (h : Fr N w w1) {row : Option Nat} (g : w1.grownBy w2 row) (hr : ∀ b, row = some b → N b ∨ w.heap.size ≤ b) : Fr N w w2 :=
  ⟨g.os.trans h.os, g.tape.trans h.tape, g.output.trans h.output, Nat.le_trans h.size g.size,
    fun i hi hn => (g.block i (Nat.lt_of_lt_of_le hi h.size) (by intro e; rcases hr i e.symm with h1 | h1; exact hn h1; omega)).trans (h.block i hi hn)⟩
theorem Fr.below {B : Nat} (h : Fr N w w1) (hB : B ≤ w.heap.size) (hN : ∀ b, N b → B ≤ b) : Below B w w1 :=
  ⟨h.os, h.tape, h.output, h.size, fun i hi => h.block i (by omega) fun hn => by have := hN i hn; omega⟩
theorem fr_of_below {B : Nat} (h : Below B w w1) (hB : ∀ b, b < w.heap.size → B ≤ b → N b) : Fr N w w1 :=
  ⟨h.os, h.tape, h.output, h.size, fun i hi hn => h.block i (by rcases Nat.lt_or_ge i B with h1 | h1; exact h1; exact absurd (hB i hi h1) hn)⟩
theorem Blk.fr {b : Nat} {cs : Array Value} {t : TypeId} (h : Blk w b cs t) (f : Fr N w w1) (hn : ¬ N b) : Blk w1 b cs t := by
  have hl := h.lt
  unfold Blk at *; rw [f.block b hl hn]; exact h
theorem cell_fr {a : Addr} {v : Value} (c : w.cell? a = some v) (f : Fr N w w1) (hn : ¬ N a.block) : w1.cell? a = some v := by
  rw [World.cell?_of_block (w := w) (f.block a.block (World.block_lt_of_cell? w a c) hn)]; exact c
theorem Blk.ne_ {b b' : Nat} {cs cs' : Array Value} {t t' : TypeId} (h : Blk w b cs t) (h' : Blk w b' cs' t') (hne : t ≠ t') : b ≠ b' := by
  rintro rfl
  unfold Blk at h h'
  rw [h] at h'
  injection h' with h'
  injection h' with _ ht
  exact hne ht
theorem Blk.grown {b : Nat} {cs : Array Value} {t : TypeId} {row : Option Nat} (h : Blk w b cs t) (g : w.grownBy w1 row) (hn : row ≠ some b) : Blk w1 b cs t := by
  unfold Blk at *; rw [g.block b (lt_of_block h) (fun e => hn e.symm)]; exact h

/-- v is a slice that reads as xs, cell by cell; where it has any, they lie in a block of K. -/
def Rd (w : World) (K : Nat → Prop) (v : Value) (xs : List Value) : Prop :=
  ∃ A c, v = .slice A xs.length c ∧ xs.length ≤ c ∧ c ≤ maxLen ∧ (0 < xs.length → ∃ b off, A = some ⟨b, off, none⟩ ∧ K b ∧ b < w.heap.size ∧ ∀ j u, xs[j]? = some u → w.cell? ⟨b, off + j, none⟩ = some u)
theorem Rd.fr {K : Nat → Prop} {v : Value} {xs : List Value} (h : Rd w K v xs) (f : Fr N w w1) (hk : ∀ b, K b → b < w.heap.size → ¬ N b) : Rd w1 K v xs := by
  obtain ⟨A, c, h1, h2, h3, h4⟩ := h
  refine ⟨A, c, h1, h2, h3, fun h0 => ?_⟩
  obtain ⟨b, off, h5, h6, h7, h8⟩ := h4 h0
  refine ⟨b, off, h5, h6, Nat.lt_of_lt_of_le h7 f.size, fun j u hj => ?_⟩
  rw [World.cell?_of_block (w := w) (f.block b h7 (hk b h6 h7))]
  exact h8 j u hj
theorem Rd.kept {K : Nat → Prop} {v : Value} {xs : List Value} (h : Rd w K v xs) (f : Below w.heap.size w w1) : Rd w1 K v xs :=
  h.fr (N := fun _ => False) (fr_of_below f fun b h1 h2 => by omega) fun _ _ _ h => h
theorem Rd.mono {K K' : Nat → Prop} {v : Value} {xs : List Value} (h : Rd w K v xs) (hk : ∀ b, b < w.heap.size → K b → K' b) : Rd w K' v xs := by
  obtain ⟨A, c, h1, h2, h3, h4⟩ := h
  refine ⟨A, c, h1, h2, h3, fun h0 => ?_⟩
  obtain ⟨b, off, h5, h6, h7, h8⟩ := h4 h0
  exact ⟨b, off, h5, hk b h7 h6, h7, h8⟩
theorem Rd.nil (w : World) (K : Nat → Prop) : Rd w K (.slice none 0 0) [] := ⟨none, 0, rfl, Nat.le_refl _, Nat.zero_le _, fun h => absurd h (by simp)⟩
/-- What is owned may be read. -/
theorem Rd.of_owns {base : Nat} {e : TypeId} {v : Value} {xs : List Value} (h : w.ownsRow base e 1 v xs.length xs) {K : Nat → Prop} (hk : ∀ g, v.ownBlock = some g → K g) : Rd w K v xs := by
  obtain ⟨hl, ⟨rfl, hn⟩ | ⟨g, cap, cur, rfl, hg, hcur, hcap, hmax, hsz, htk⟩⟩ := h
  · obtain rfl : xs = [] := List.eq_nil_of_length_eq_zero hn
    exact Rd.nil w K
  · refine ⟨some ⟨g, 0, none⟩, cap, rfl, hcap, hmax, fun _ => ⟨g, 0, rfl, hk g rfl, lt_of_block hcur, fun j u hj => ?_⟩⟩
    have hjl : j < xs.length := (List.getElem?_eq_some_iff.1 hj).1
    rw [Nat.zero_add, cell_of_row w g j cur e (0, 0) hcur, ← hj, ← htk, List.getElem?_take_of_lt (by omega)]
    simp
theorem owns_fr {base size n : Nat} {e : TypeId} {v : Value} {xs : List Value} (h : w.ownsRow base e size v n xs) (f : Fr N w w1) (hn : ∀ g, v.ownBlock = some g → ¬ N g) : w1.ownsRow base e size v n xs := by
  obtain ⟨hl, ⟨rfl, h0⟩ | ⟨g, cap, cur, rfl, hg, hcur, hcap, hmax, hsz, htk⟩⟩ := h
  · exact ⟨hl, .inl ⟨rfl, h0⟩⟩
  · exact ⟨hl, .inr ⟨g, cap, cur, rfl, hg, by rw [f.block g (lt_of_block hcur) (hn g rfl)]; exact hcur, hcap, hmax, hsz, htk⟩⟩

/-- An appendable row: owned to its capacity, or full (what lies behind it is nobody's business). -/
def Dat (w : World) (base : Nat) (e : TypeId) (v : Value) (xs : List Value) : Prop :=
  w.ownsRow base e 1 v xs.length xs ∨ ∃ g cur, v = .slice (some ⟨g, 0, none⟩) xs.length xs.length ∧ base ≤ g ∧ Blk w g cur e ∧ xs.length ≤ cur.size ∧ xs.length ≤ maxLen ∧ cur.toList.take xs.length = xs
theorem Dat.rd {base : Nat} {e : TypeId} {v : Value} {xs : List Value} (h : Dat w base e v xs) {K : Nat → Prop} (hk : ∀ g, v.ownBlock = some g → K g) : Rd w K v xs := by
  rcases h with h | ⟨g, cur, rfl, hg, hb, hs, hm, ht⟩
  · exact Rd.of_owns h hk
  · refine ⟨some ⟨g, 0, none⟩, xs.length, rfl, Nat.le_refl _, hm, fun _ => ⟨g, 0, rfl, hk g rfl, hb.lt, fun j u hj => ?_⟩⟩
    have hjl : j < xs.length := (List.getElem?_eq_some_iff.1 hj).1
    rw [Nat.zero_add, hb.cell, ← hj]
    conv => rhs; rw [← ht]
    rw [List.getElem?_take_of_lt hjl]; simp
theorem Dat.fr {base : Nat} {e : TypeId} {v : Value} {xs : List Value} (h : Dat w base e v xs) (f : Fr N w w1) (hn : ∀ g, v.ownBlock = some g → ¬ N g) : Dat w1 base e v xs := by
  rcases h with h | ⟨g, cur, rfl, hg, hb, hs, hm, ht⟩
  · exact .inl (owns_fr h f hn)
  · exact .inr ⟨g, cur, rfl, hg, hb.fr f (hn g rfl), hs, hm, ht⟩
theorem Dat.lt {base : Nat} {e : TypeId} {v : Value} {xs : List Value} (h : Dat w base e v xs) : ∀ g, v.ownBlock = some g → g < w.heap.size ∧ base ≤ g ∧ ∃ cur, Blk w g cur e := by
  intro g hg
  rcases h with ⟨_, ⟨rfl, _⟩ | ⟨g', cap, cur, rfl, hb, hcur, _⟩⟩ | ⟨g', cur, rfl, hb, hB, _⟩
  · cases hg
  · obtain rfl : g' = g := by simpa [Value.ownBlock] using hg
    exact ⟨lt_of_block hcur, hb, cur, hcur⟩
  · obtain rfl : g' = g := by simpa [Value.ownBlock] using hg
    exact ⟨hB.lt, hb, cur, hB⟩
/-- Its slice, cut to its first n. -/
theorem Dat.form {base : Nat} {e : TypeId} {v : Value} {xs : List Value} (h : Dat w base e v xs) : ∃ A c, v = .slice A xs.length c ∧ xs.length ≤ c ∧ c ≤ maxLen ∧
    ∀ n, n ≤ xs.length → Dat w base e (.slice A n n) (xs.take n) := by
  rcases h with ⟨hl, ⟨rfl, h0⟩ | ⟨g, cap, cur, rfl, hb, hcur, hnc, hcm, hsz, htk⟩⟩ | ⟨g, cur, rfl, hb, hB, hs, hm, htk⟩
  · obtain rfl : xs = [] := List.eq_nil_of_length_eq_zero h0
    refine ⟨none, 0, rfl, Nat.le_refl _, Nat.zero_le _, fun n hn => ?_⟩
    obtain rfl : n = 0 := by simpa using hn
    exact .inl ⟨rfl, .inl ⟨rfl, rfl⟩⟩
  · refine ⟨_, cap, rfl, hnc, hcm, fun n hn => .inr ⟨g, cur, by rw [List.length_take, Nat.min_eq_left hn], hb, hcur, by rw [List.length_take]; omega, by rw [List.length_take]; omega, ?_⟩⟩
    rw [List.length_take, Nat.min_eq_left hn, ← htk, List.take_take, Nat.min_eq_left (by omega)]
  · refine ⟨_, _, rfl, Nat.le_refl _, hm, fun n hn => .inr ⟨g, cur, by rw [List.length_take, Nat.min_eq_left hn], hb, hB, by rw [List.length_take]; omega, by rw [List.length_take]; omega, ?_⟩⟩
    rw [List.length_take, Nat.min_eq_left hn]
    conv => rhs; rw [← htk]
    rw [List.take_take, Nat.min_eq_left hn]
end
end Go.Proofs.Ytgohnidndjbjiaa
