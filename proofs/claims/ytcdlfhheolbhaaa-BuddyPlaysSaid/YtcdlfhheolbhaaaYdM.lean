/-
  A yard in the memory: fourteen cells, and thirteen rows of its own.
-/
import Derived.Test.YtcdlfhheolbhaaaYdR
import Derived.Test.YtcdlfhheolbhaaaGrp
import Derived.Test.YtcdlfhheolbhaaaMem
import Derived.Test.YtcdlfhheolbhaaaNums
import Derived.Test.YtcdlfhheolbhaaaAtB
import Derived.OneCell
import Derived.RangeFuncSeq
namespace Go.Proofs.Ytcdlfhheolbhaaa
open Go Go.RowKit
set_option linter.unusedVariables false

/-! Rows of blocks, rows of natural numbers. -/
def blkC (b : Bk) : List Value := [.int .i64 (b.1 : Int), .int .i64 (b.2 : Int)]
def blkL (l : List Bk) : List Value := l.flatMap blkC
def natI (l : List Nat) : List Int := l.map fun x : Nat => (x : Int)
abbrev natL (l : List Nat) : List Value := numsL (natI l)
theorem natI_len (l : List Nat) : (natI l).length = l.length := by simp [natI]
theorem natL_len (l : List Nat) : (natL l).length = l.length := by simp [natI, numsL]
theorem natI_at {l : List Nat} {i : Nat} (h : i < l.length) : (natI l).getD i 0 = (l[i] : Int) := by
  unfold natI; rw [List.getD_eq_getElem?_getD, List.getElem?_map, List.getElem?_eq_getElem h]; rfl
theorem natL_app (a b : List Nat) : natL (a ++ b) = natL a ++ natL b := by simp [natI, numsL]
theorem natL_take (l : List Nat) (p : Nat) : (natL l).take p = natL (l.take p) := by simp [natI, numsL, List.map_take]
theorem natL_drop (l : List Nat) (p : Nat) : (natL l).drop p = natL (l.drop p) := by simp [natI, numsL, List.map_drop]
theorem natL_cons (a : Nat) (l : List Nat) : natL (a :: l) = .int .i64 (a : Int) :: natL l := rfl
theorem blkL_len : ∀ l : List Bk, (blkL l).length = l.length * 2
  | [] => rfl
  | a :: r => by
    have := blkL_len r
    unfold blkL at *
    rw [List.flatMap_cons, List.length_append, this, List.length_cons]
    show 2 + _ = _
    omega
theorem blkL_one (l : List Bk) : ∀ u ∈ blkL l, u.oneCell' = true := fun u hu => by
  obtain ⟨x, _, h⟩ := List.mem_flatMap.1 hu
  simp [blkC] at h; rcases h with rfl | rfl <;> rfl
theorem blkL_app (a b : List Bk) : blkL (a ++ b) = blkL a ++ blkL b := by simp [blkL]
theorem blkL_cons (a : Bk) (b : List Bk) : blkL (a :: b) = blkC a ++ blkL b := by simp [blkL]
theorem blkL_take : ∀ (l : List Bk) (p : Nat), (blkL l).take (p * 2) = blkL (l.take p)
  | [], p => by simp [blkL]
  | a :: r, 0 => by simp [blkL]
  | a :: r, p + 1 => by
    rw [List.take_succ_cons, blkL_cons, blkL_cons, ← blkL_take r p, show (p + 1) * 2 = 2 + p * 2 by omega, List.take_append, List.take_of_length_le (by simp [blkC])]
    have : (blkC a).length = 2 := rfl
    rw [this, show 2 + p * 2 - 2 = p * 2 by omega]
theorem blkL_drop : ∀ (l : List Bk) (p : Nat), (blkL l).drop (p * 2) = blkL (l.drop p)
  | [], p => by simp [blkL]
  | a :: r, 0 => by simp [blkL]
  | a :: r, p + 1 => by
    rw [List.drop_succ_cons, blkL_cons, ← blkL_drop r p, show (p + 1) * 2 = 2 + p * 2 by omega, List.drop_append, List.drop_eq_nil_of_le (by simp [blkC])]
    have : (blkC a).length = 2 := rfl
    rw [this, show 2 + p * 2 - 2 = p * 2 by omega]; rfl
theorem blkL_get {l : List Bk} {i r : Nat} (h : i < l.length) (hr : r < 2) : (blkL l)[i * 2 + r]? = some (blkC l[i])[r]! := by
  have e : (blkL l)[i * 2 + r]? = ((blkL l).drop (i * 2))[r]? := by rw [List.getElem?_drop]
  rw [e, blkL_drop, List.drop_eq_getElem_cons h, blkL_cons, List.getElem?_append_left (by simp [blkC]; omega)]
  rcases (by omega : r = 0 ∨ r = 1) with rfl | rfl <;> rfl
abbrev BOwn (w : World) (base : Nat) (v : Value) (l : List Bk) : Prop := w.ownsRow base 45 2 v l.length (blkL l)
/-- A row of blocks that is read. -/
def BCells (w : World) (b off : Nat) (l : List Bk) : Prop := ∀ i, (h : i < l.length) → w.cell? ⟨b, off + i * 2, none⟩ = some (.int .i64 (l[i].1 : Int)) ∧ w.cell? ⟨b, off + i * 2 + 1, none⟩ = some (.int .i64 (l[i].2 : Int))
theorem BCells.at {w w' : World} {b off i : Nat} {l : List Bk} (h : BCells w b off l) (hb : Below w.heap.size w w') (hi : i < l.length) :
    w'.cell? ⟨b, off + i * 2, none⟩ = some (.int .i64 (l[i].1 : Int)) ∧ w'.cell? ⟨b, off + i * 2 + 1, none⟩ = some (.int .i64 (l[i].2 : Int)) := ⟨cell_next hb (h i hi).1, cell_next hb (h i hi).2⟩
theorem BCells.kept {w w' : World} {b off : Nat} {l : List Bk} (h : BCells w b off l) (hb : Below w.heap.size w w') : BCells w' b off l := fun i hi => h.at hb hi
def BRow (w : World) (v : Value) (l : List Bk) : Prop :=
  (l = [] ∧ ∃ a c, v = .slice a 0 c ∧ c ≤ maxLen) ∨ ∃ b off c, v = .slice (some ⟨b, off, none⟩) l.length c ∧ 0 < l.length ∧ l.length ≤ c ∧ c ≤ maxLen ∧ BCells w b off l
theorem BRow.kept {w w' : World} {v : Value} {l : List Bk} (h : BRow w v l) (hb : Below w.heap.size w w') : BRow w' v l := by
  rcases h with h | ⟨b, off, c, h1, h2, h3, h4, h5⟩
  · exact .inl h
  · exact .inr ⟨b, off, c, h1, h2, h3, h4, h5.kept hb⟩
theorem BRow.slice {w : World} {v : Value} {l : List Bk} (h : BRow w v l) : ∃ a c, v = .slice a l.length c := by
  rcases h with ⟨rfl, a, c, rfl, _⟩ | ⟨b, off, c, rfl, _⟩
  · exact ⟨a, c, rfl⟩
  · exact ⟨_, c, rfl⟩
theorem bown_parts {w : World} {base : Nat} {v : Value} {l : List Bk} (h : BOwn w base v l) (h0 : 0 < l.length) :
    ∃ g cap, v = .slice (some ⟨g, 0, Option.none⟩) l.length cap ∧ base ≤ g ∧ g < w.heap.size ∧ l.length ≤ cap ∧ cap ≤ maxLen ∧ BCells w g 0 l := by
  obtain ⟨_, ⟨rfl, e⟩ | ⟨g, cap, cur, rfl, hb, hg, h1, h2, h3, h4⟩⟩ := h
  · omega
  · refine ⟨g, cap, rfl, hb, (Array.getElem?_eq_some_iff.1 hg).1, h1, h2, fun i hi => ?_⟩
    have e0 : (cur.toList.take (l.length * 2))[i * 2 + 0]? = cur.toList[i * 2 + 0]? := by rw [List.getElem?_take, if_pos (by omega)]
    have e1 : (cur.toList.take (l.length * 2))[i * 2 + 1]? = cur.toList[i * 2 + 1]? := by rw [List.getElem?_take, if_pos (by omega)]
    rw [h4, blkL_get hi (by omega)] at e0 e1
    rw [Array.getElem?_toList] at e0 e1
    constructor
    · simpa [World.cell?, hg, blkC] using e0.symm
    · simpa [World.cell?, hg, blkC] using e1.symm
theorem brow_of_own {w : World} {base : Nat} {v : Value} {l : List Bk} (h : BOwn w base v l) : BRow w v l := by
  rcases Nat.eq_zero_or_pos l.length with h0 | h0
  · obtain ⟨_, ⟨rfl, e⟩ | ⟨g, cap, cur, rfl, hb, hg, h1, h2, h3, h4⟩⟩ := h
    · exact .inl ⟨List.eq_nil_of_length_eq_zero h0, Option.none, 0, rfl, Nat.zero_le _⟩
    · exact .inl ⟨List.eq_nil_of_length_eq_zero h0, some ⟨g, 0, Option.none⟩, cap, by rw [h0], h2⟩
  · obtain ⟨g, cap, rfl, hb, hg, h1, h2, h3⟩ := bown_parts h h0
    exact .inr ⟨g, 0, cap, rfl, h0, h1, h2, h3⟩

/-! What may change: the blocks of 'own'. -/
structure Chg (own : Nat → Prop) (w w' : World) : Prop where
  os : w'.os = w.os
  tape : w'.tape = w.tape
  output : w'.output = w.output
  size : w.heap.size ≤ w'.heap.size
  block : ∀ k, k < w.heap.size → ¬ own k → w'.heap[k]? = w.heap[k]?
theorem Chg.refl (own : Nat → Prop) (w : World) : Chg own w w := ⟨rfl, rfl, rfl, Nat.le_refl _, fun _ _ _ => rfl⟩
theorem Chg.trans {own : Nat → Prop} {a b c : World} (h1 : Chg own a b) (h2 : Chg own b c) : Chg own a c :=
  ⟨h2.os.trans h1.os, h2.tape.trans h1.tape, h2.output.trans h1.output, Nat.le_trans h1.size h2.size, fun k hk hn => (h2.block k (Nat.lt_of_lt_of_le hk h1.size) hn).trans (h1.block k hk hn)⟩
theorem Chg.of_below {own : Nat → Prop} {w w' : World} (h : Below w.heap.size w w') : Chg own w w' := ⟨h.os, h.tape, h.output, h.size, fun k hk _ => h.block k hk⟩
theorem Chg.of_grown {own : Nat → Prop} {w w' : World} {r : Option Nat} (h : w.grownBy w' r) (ho : ∀ g, r = some g → own g) : Chg own w w' :=
  ⟨h.os, h.tape, h.output, h.size, fun k hk hn => h.block k hk (fun e => hn (ho k e.symm))⟩
theorem Chg.setCell {own : Nat → Prop} {w : World} {b : Nat} (o : Nat) (v : Value) (hb : own b) : Chg own w (w.setCell ⟨b, o, none⟩ v) :=
  ⟨rfl, rfl, rfl, (KeepsWalks.setCell w _ v).size, fun k _ hk => Below.heap_setCell _ _ _ k (fun e => hk (by subst e; exact hb))⟩
theorem Chg.to_below {own : Nat → Prop} {w w' : World} {B : Nat} (h : Chg own w w') (hB : B ≤ w.heap.size) (ho : ∀ k, k < B → ¬ own k) : Below B w w' :=
  ⟨h.os, h.tape, h.output, h.size, fun k hk => h.block k (Nat.lt_of_lt_of_le hk hB) (ho k hk)⟩
theorem Chg.wider {own own' : Nat → Prop} {w w' : World} (h : Chg own w w') (ho : ∀ k, k < w.heap.size → own k → own' k) : Chg own' w w' :=
  ⟨h.os, h.tape, h.output, h.size, fun k hk hn => h.block k hk fun e => hn (ho k hk e)⟩

def slT (j : Nat) : TypeId := if j = 12 then 45 else 3
def slS (j : Nat) : Nat := if j = 12 then 2 else 1
structure YM (w : World) (b : Nat) (own : Nat → Prop) (cs : Array Value) (X : Nat → List Value) : Prop where
  blk : Blk w b cs 65
  sz : cs.size = 14
  bown : own b
  new : ∀ k, w.heap.size ≤ k → own k
  row : ∀ j, 1 ≤ j → j ≤ 13 → ∃ v m, cs[j]? = some v ∧ w.ownsRow 0 (slT j) (slS j) v m (X j)
  ob : ∀ j v g, 1 ≤ j → j ≤ 13 → cs[j]? = some v → v.ownBlock = some g → own g ∧ g ≠ b
  apart : ∀ j k v u g, 1 ≤ j → j ≤ 13 → 1 ≤ k → k ≤ 13 → cs[j]? = some v → cs[k]? = some u → v.ownBlock = some g → u.ownBlock = some g → j = k
theorem YM.congr {w : World} {b : Nat} {own : Nat → Prop} {cs : Array Value} {X Y : Nat → List Value} (h : YM w b own cs X) (e : ∀ j, 1 ≤ j → j ≤ 13 → X j = Y j) : YM w b own cs Y :=
  ⟨h.blk, h.sz, h.bown, h.new, fun j h1 h2 => by rw [← e j h1 h2]; exact h.row j h1 h2, h.ob, h.apart⟩
theorem YM.kept {w w' : World} {b : Nat} {own : Nat → Prop} {cs : Array Value} {X : Nat → List Value} (h : YM w b own cs X) (hb : Below w.heap.size w w') : YM w' b own cs X :=
  ⟨h.blk.kept hb, h.sz, h.bown, fun k hk => h.new k (Nat.le_trans hb.size hk), fun j h1 h2 => by
    obtain ⟨v, m, hv, ho⟩ := h.row j h1 h2
    exact ⟨v, m, hv, own_older ho hb⟩, h.ob, h.apart⟩
def updX (X : Nat → List Value) (j : Nat) (xs : List Value) : Nat → List Value := fun k => if k = j then xs else X k
theorem Blk.grown {w w' : World} {b : Nat} {cs : Array Value} {t : TypeId} {r : Option Nat} (h : Blk w b cs t) (hg : w.grownBy w' r) (hr : r ≠ some b) : Blk w' b cs t := by
  unfold Blk at *; rw [hg.block b (lt_of_block h) (fun e => hr e.symm)]; exact h
/-- A row is written anew, and stored. -/
theorem YM.put {w w1 : World} {b : Nat} {own : Nat → Prop} {cs : Array Value} {X : Nat → List Value} (h : YM w b own cs X) {j : Nat} (h1 : 1 ≤ j) (h2 : j ≤ 13) {v v' : Value} (hv : cs[j]? = some v)
    (hg : w.grownBy w1 v.ownBlock) (hat : AtB w v v') {m : Nat} {xs : List Value} (ho : w1.ownsRow 0 (slT j) (slS j) v' m xs) :
    YM (w1.setCell ⟨b, j, none⟩ v') b own (cs.setIfInBounds j v') (updX X j xs) ∧ Chg own w (w1.setCell ⟨b, j, none⟩ v') ∧ Blk w1 b cs 65 := by
  have hvb : v.ownBlock ≠ some b := fun e => (h.ob j v b h1 h2 hv e).2 rfl
  have hB1 : Blk w1 b cs 65 := h.blk.grown hg hvb
  have hbw := h.blk.lt
  have hv' : ∀ g, v'.ownBlock = some g → own g ∧ g ≠ b := fun g hg' => by
    rcases hat g hg' with e | e
    · exact h.ob j v g h1 h2 hv e
    · exact ⟨h.new g e, by omega⟩
  have hk : ∀ k u, k ≠ j → (cs.setIfInBounds j v')[k]? = some u → cs[k]? = some u := fun k u hne hu => by
    rw [Array.getElem?_setIfInBounds_ne (fun e => hne e.symm)] at hu; exact hu
  have hjj : (cs.setIfInBounds j v')[j]? = some v' := by rw [Array.getElem?_setIfInBounds_self_of_lt (by rw [h.sz]; omega)]
  have hsep : ∀ k u g, 1 ≤ k → k ≤ 13 → k ≠ j → cs[k]? = some u → u.ownBlock = some g → v'.ownBlock ≠ some g := fun k u g k1 k2 hne hu hug hvg => by
    rcases hat g hvg with e | e
    · exact hne (h.apart k j u v g k1 k2 h1 h2 hu hv hug e)
    · obtain ⟨u', m', hu', ho'⟩ := h.row k k1 k2
      rw [hu] at hu'; cases hu'
      have := (ho'.lt g hug).2
      omega
  refine ⟨⟨hB1.set j v', by simp [h.sz], h.bown, fun k hk => h.new k (Nat.le_trans hg.size (by simpa using hk)), fun k k1 k2 => ?_, fun k u g k1 k2 hu hug => ?_, fun k l u x g k1 k2 l1 l2 hu hx hug hxg => ?_⟩, ?_, hB1⟩
  · by_cases hkj : k = j
    · subst hkj
      exact ⟨v', m, hjj, by unfold updX; rw [if_pos rfl]; exact ownsRow_setCell_other ho (fun e => (hv' b e).2 rfl) v'⟩
    · obtain ⟨u, m', hu, ho'⟩ := h.row k k1 k2
      have hne : u.ownBlock = none ∨ u.ownBlock ≠ v.ownBlock := by
        cases hug : u.ownBlock with
        | none => exact .inl rfl
        | some g => exact .inr fun e => hkj (h.apart k j u v g k1 k2 h1 h2 hu hv hug e.symm)
      refine ⟨u, m', by rw [Array.getElem?_setIfInBounds_ne (fun e => hkj e.symm)]; exact hu, ?_⟩
      unfold updX; rw [if_neg hkj]
      exact ownsRow_setCell_other (ho'.kept hg hne) (fun e => (h.ob k u b k1 k2 hu e).2 rfl) v'
  · by_cases hkj : k = j
    · subst hkj
      rw [hjj] at hu; cases hu
      exact hv' g hug
    · exact h.ob k u g k1 k2 (hk k u hkj hu) hug
  · by_cases hkj : k = j
    · by_cases hlj : l = j
      · rw [hkj, hlj]
      · rw [hkj, hjj] at hu; cases hu
        exact absurd hug (hsep l x g l1 l2 hlj (hk l x hlj hx) hxg)
    · by_cases hlj : l = j
      · rw [hlj, hjj] at hx; cases hx
        exact absurd hxg (hsep k u g k1 k2 hkj (hk k u hkj hu) hug)
      · exact h.apart k l u x g k1 k2 l1 l2 (hk k u hkj hu) (hk l x hlj hx) hug hxg
  · exact (Chg.of_grown hg fun g e => (h.ob j v g h1 h2 hv e).1).trans (Chg.setCell j v' h.bown)

noncomputable def slX (n : Nat) (op : Opn) (tk : List Bk) (fl : List Nat) : Nat → List Value := fun j => if j = 12 then blkL tk else if j = 13 then natL fl else natL (frL n op (j - 1))
theorem slX_free (n : Nat) (op : Opn) (tk : List Bk) (fl : List Nat) {o : Nat} (h : o ≤ 10) : slX n op tk fl (1 + o) = natL (frL n op o) := by
  unfold slX; rw [if_neg (by omega), if_neg (by omega), show 1 + o - 1 = o by omega]
theorem slX_tk (n : Nat) (op : Opn) (tk : List Bk) (fl : List Nat) : slX n op tk fl 12 = blkL tk := rfl
theorem slX_fl (n : Nat) (op : Opn) (tk : List Bk) (fl : List Nat) : slX n op tk fl 13 = natL fl := rfl
/-- A yard: its order, who is open, the taken blocks, the failed workers. -/
def YI (w : World) (b : Nat) (own : Nat → Prop) (n : Nat) (op : Opn) (tk : List Bk) (fl : List Nat) : Prop :=
  ∃ cs, YM w b own cs (slX n op tk fl) ∧ cs[0]? = some (.int .i64 (n : Int)) ∧ n ≤ 10
theorem YI.kept {w w' : World} {b : Nat} {own : Nat → Prop} {n : Nat} {op : Opn} {tk : List Bk} {fl : List Nat} (h : YI w b own n op tk fl) (hb : Below w.heap.size w w') : YI w' b own n op tk fl := by
  obtain ⟨cs, h1, h2, h3⟩ := h; exact ⟨cs, h1.kept hb, h2, h3⟩
theorem YI.lt {w : World} {b : Nat} {own : Nat → Prop} {n : Nat} {op : Opn} {tk : List Bk} {fl : List Nat} (h : YI w b own n op tk fl) : b < w.heap.size := by
  obtain ⟨cs, h1, h2, h3⟩ := h; exact h1.blk.lt
theorem YI.ord {w : World} {b : Nat} {own : Nat → Prop} {n : Nat} {op : Opn} {tk : List Bk} {fl : List Nat} (h : YI w b own n op tk fl) : w.cell? ⟨b, 0, none⟩ = some (.int .i64 (n : Int)) := by
  obtain ⟨cs, h1, h2, h3⟩ := h; rw [h1.blk.cell]; exact h2
theorem YI.n10 {w : World} {b : Nat} {own : Nat → Prop} {n : Nat} {op : Opn} {tk : List Bk} {fl : List Nat} (h : YI w b own n op tk fl) : n ≤ 10 := by
  obtain ⟨cs, h1, h2, h3⟩ := h; exact h3
theorem YI.free {w : World} {b : Nat} {own : Nat → Prop} {n : Nat} {op : Opn} {tk : List Bk} {fl : List Nat} (h : YI w b own n op tk fl) {o : Nat} (ho : o ≤ 10) :
    ∃ v, w.cell? ⟨b, 1 + o, none⟩ = some v ∧ NOwn w 0 v (natI (frL n op o)) := by
  obtain ⟨cs, h1, h2, h3⟩ := h
  obtain ⟨v, m, hv, hr⟩ := h1.row (1 + o) (by omega) (by omega)
  refine ⟨v, by rw [h1.blk.cell]; exact hv, ?_⟩
  rw [slX_free _ _ _ _ ho] at hr
  have hS : slS (1 + o) = 1 := by unfold slS; rw [if_neg (by omega)]
  have hT : slT (1 + o) = 3 := by unfold slT; rw [if_neg (by omega)]
  rw [hS, hT] at hr
  have : m = (natI (frL n op o)).length := by have := hr.1; rw [numsL_len] at this; omega
  subst this; exact hr
theorem YI.tk {w : World} {b : Nat} {own : Nat → Prop} {n : Nat} {op : Opn} {tk : List Bk} {fl : List Nat} (h : YI w b own n op tk fl) :
    ∃ v, w.cell? ⟨b, 12, none⟩ = some v ∧ BOwn w 0 v tk := by
  obtain ⟨cs, h1, h2, h3⟩ := h
  obtain ⟨v, m, hv, hr⟩ := h1.row 12 (by omega) (by omega)
  refine ⟨v, by rw [h1.blk.cell]; exact hv, ?_⟩
  rw [slX_tk] at hr
  have : m = tk.length := by have := hr.1; rw [blkL_len] at this; have e : slS 12 = 2 := rfl; rw [e] at this; omega
  subst this; exact hr
theorem YI.fl {w : World} {b : Nat} {own : Nat → Prop} {n : Nat} {op : Opn} {tk : List Bk} {fl : List Nat} (h : YI w b own n op tk fl) :
    ∃ v, w.cell? ⟨b, 13, none⟩ = some v ∧ NOwn w 0 v (natI fl) := by
  obtain ⟨cs, h1, h2, h3⟩ := h
  obtain ⟨v, m, hv, hr⟩ := h1.row 13 (by omega) (by omega)
  refine ⟨v, by rw [h1.blk.cell]; exact hv, ?_⟩
  rw [slX_fl] at hr
  have : m = (natI fl).length := by have := hr.1; rw [numsL_len] at this; have e : slS 13 = 1 := rfl; rw [e] at this; omega
  subst this; exact hr
/-- One row of free blocks is written anew. -/
theorem YI.putFree {w w1 : World} {b : Nat} {own : Nat → Prop} {n : Nat} {op op' : Opn} {tk : List Bk} {fl : List Nat} (h : YI w b own n op tk fl) {o : Nat} (ho : o ≤ 10) {v v' : Value} (hv : w.cell? ⟨b, 1 + o, none⟩ = some v)
    (hg : w.grownBy w1 v.ownBlock) (hat : AtB w v v') {m : Nat} (hr : w1.ownsRow 0 3 1 v' m (natL (frL n op' o))) (he : ∀ o', o' ≠ o → frL n op' o' = frL n op o') :
    YI (w1.setCell ⟨b, 1 + o, none⟩ v') b own n op' tk fl ∧ Chg own w (w1.setCell ⟨b, 1 + o, none⟩ v') ∧ ∃ cs, Blk w1 b cs 65 ∧ cs[1 + o]? = some v := by
  obtain ⟨cs, h1, h2, h3⟩ := h
  rw [h1.blk.cell] at hv
  have hS : slS (1 + o) = 1 := by unfold slS; rw [if_neg (by omega)]
  have hT : slT (1 + o) = 3 := by unfold slT; rw [if_neg (by omega)]
  obtain ⟨p1, p2, p3⟩ := h1.put (j := 1 + o) (by omega) (by omega) hv hg hat (by rw [hS, hT]; exact hr)
  refine ⟨⟨_, p1.congr fun j j1 j2 => ?_, ?_, h3⟩, p2, cs, p3, hv⟩
  · unfold updX slX
    by_cases hj : j = 1 + o
    · rw [if_pos hj, if_neg (by omega), if_neg (by omega), show j - 1 = o by omega]
    · rw [if_neg hj, he (j - 1) (by omega)]
  · rw [Array.getElem?_setIfInBounds_ne (by omega)]; exact h2
theorem YI.putTk {w w1 : World} {b : Nat} {own : Nat → Prop} {n : Nat} {op : Opn} {tk tk' : List Bk} {fl : List Nat} (h : YI w b own n op tk fl) {v v' : Value} (hv : w.cell? ⟨b, 12, none⟩ = some v)
    (hg : w.grownBy w1 v.ownBlock) (hat : AtB w v v') {m : Nat} (hr : w1.ownsRow 0 45 2 v' m (blkL tk')) :
    YI (w1.setCell ⟨b, 12, none⟩ v') b own n op tk' fl ∧ Chg own w (w1.setCell ⟨b, 12, none⟩ v') ∧ ∃ cs, Blk w1 b cs 65 ∧ cs[12]? = some v := by
  obtain ⟨cs, h1, h2, h3⟩ := h
  rw [h1.blk.cell] at hv
  obtain ⟨p1, p2, p3⟩ := h1.put (j := 12) (by omega) (by omega) hv hg hat hr
  refine ⟨⟨_, p1.congr fun j j1 j2 => ?_, ?_, h3⟩, p2, cs, p3, hv⟩
  · unfold updX slX
    by_cases hj : j = 12
    · rw [if_pos hj, if_pos hj]
    · rw [if_neg hj, if_neg hj, if_neg hj]
  · rw [Array.getElem?_setIfInBounds_ne (by omega)]; exact h2
theorem YI.putFl {w w1 : World} {b : Nat} {own : Nat → Prop} {n : Nat} {op : Opn} {tk : List Bk} {fl fl' : List Nat} (h : YI w b own n op tk fl) {v v' : Value} (hv : w.cell? ⟨b, 13, none⟩ = some v)
    (hg : w.grownBy w1 v.ownBlock) (hat : AtB w v v') {m : Nat} (hr : w1.ownsRow 0 3 1 v' m (natL fl')) :
    YI (w1.setCell ⟨b, 13, none⟩ v') b own n op tk fl' ∧ Chg own w (w1.setCell ⟨b, 13, none⟩ v') ∧ ∃ cs, Blk w1 b cs 65 ∧ cs[13]? = some v := by
  obtain ⟨cs, h1, h2, h3⟩ := h
  rw [h1.blk.cell] at hv
  obtain ⟨p1, p2, p3⟩ := h1.put (j := 13) (by omega) (by omega) hv hg hat hr
  refine ⟨⟨_, p1.congr fun j j1 j2 => ?_, ?_, h3⟩, p2, cs, p3, hv⟩
  · unfold updX slX
    by_cases hj : j = 13
    · rw [if_pos hj, if_neg (by omega), if_pos hj]
    · rw [if_neg hj]
      split
      · rfl
      · first | rfl | rw [if_neg hj]
  · rw [Array.getElem?_setIfInBounds_ne (by omega)]; exact h2
/-- Another who owns this yard. -/
theorem YI.owner {w : World} {b : Nat} {own own' : Nat → Prop} {n : Nat} {op : Opn} {tk : List Bk} {fl : List Nat} (h : YI w b own n op tk fl) (h1 : ∀ k, k < w.heap.size → own k → own' k) (h2 : ∀ k, w.heap.size ≤ k → own' k) : YI w b own' n op tk fl := by
  obtain ⟨cs, q1, q2, q3⟩ := h
  refine ⟨cs, ⟨q1.blk, q1.sz, h1 _ q1.blk.lt q1.bown, h2, q1.row, fun j v g j1 j2 hv hg => ?_, q1.apart⟩, q2, q3⟩
  obtain ⟨u, m, hu, ho⟩ := q1.row j j1 j2
  rw [hv] at hu; cases hu
  exact ⟨h1 g (ho.lt g hg).2 (q1.ob j v g j1 j2 hv hg).1, (q1.ob j v g j1 j2 hv hg).2⟩
end Go.Proofs.Ytcdlfhheolbhaaa
