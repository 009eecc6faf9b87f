/-
  gangerref00.Own's appends, plain.
-/
import Derived.Test.YtbgdhmacpgnfeaaOwnA
import Derived.Test.YtbgdhmacpgnfeaaApp2
namespace Go.Proofs.Ytbgdhmacpgnfeaa
open Go.ChangeShapes Go.WideShapes Go.ChangeAt Go.RowKit Go.Lib Go.Sort Go.Maps
set_option linter.unusedVariables false

/-- Block L holds the rows' slices, whatever stands behind them. -/
def HeadAt (w : World) (L : Nat) (vs : BRows) : Prop := ∃ cur, Blk w L cur 22 ∧ ∀ (i : Nat) (v : Value) (n : Nat), vs[i]? = some (v, n) → cur[i]? = some v
theorem HeadAt.of_blk {w : World} {L : Nat} {vs : BRows} (h : Blk w L (vs.map (·.1)).toArray 22) : HeadAt w L vs := ⟨_, h, fun i v n hv => by simp [hv]⟩
theorem HeadAt.lt {w : World} {L : Nat} {vs : BRows} (h : HeadAt w L vs) : L < w.heap.size := by obtain ⟨_, h, _⟩ := h; exact h.lt
theorem HeadAt.cellOf {w : World} {L : Nat} {vs : BRows} (h : HeadAt w L vs) {i n : Nat} {v : Value} (hv : vs[i]? = some (v, n)) : w.cell? ⟨L, i, none⟩ = some v := by
  obtain ⟨cur, h, hc⟩ := h
  rw [h.cell]; exact hc i v n hv
theorem HeadAt.other {w : World} {L : Nat} {vs : BRows} (h : HeadAt w L vs) {a : Addr} (ha : L ≠ a.block) (u : Value) : HeadAt (w.setCell a u) L vs := by
  obtain ⟨cur, h, hc⟩ := h
  exact ⟨cur, h.other ha u, hc⟩
theorem HeadAt.same {w w' : World} {L : Nat} {vs : BRows} (h : HeadAt w L vs) (e : w'.heap[L]? = w.heap[L]?) : HeadAt w' L vs := by
  obtain ⟨cur, h, hc⟩ := h
  exact ⟨cur, by unfold Blk at *; rw [e]; exact h, hc⟩
structure OwnArg (base : Nat) (vs : BRows) (L : Nat) (w : World) : Prop where
  head : HeadAt w L vs
  apart : Apart vs
  away : ∀ (i : Nat) (v : Value) (n : Nat), vs[i]? = some (v, n) → v.ownBlock = none ∨ v.ownBlock ≠ some L
  rows : ∀ (i : Nat) (v : Value) (n : Nat), vs[i]? = some (v, n) → ∃ xs, w.ownsRow base 5 1 v n (cellsB xs)
  few : vs.length ≤ 1000
  short : ∀ (i : Nat) (v : Value) (n : Nat), vs[i]? = some (v, n) → n ≤ 1000000
  base : base ≤ w.heap.size

def tailL (m q : Nat) : List Int := (List.range q).map (tailB m)
theorem tailL_succ (m q : Nat) : tailL m (q + 1) = tailL m q ++ [tailB m q] := by simp [tailL, List.range_succ]
theorem tailL_get (m : Nat) {q t : Nat} (h : t < q) : (tailL m q)[t]? = some (tailB m t) := by simp [tailL, h]

/-- Row m's appended row t, with q of its four bytes; w1 is where the row's turn began. -/
structure Fill3 (base : Nat) (w1 : World) (v : Value) (n : Nat) (xs : List Int) (m : Nat) (t : Value) (q : Nat) (wr : World) : Prop where
  grown : w1.grownBy wr v.ownBlock
  own : wr.ownsRow base 5 1 t (n + q) (cellsB (xs ++ tailL m q))
  old : wr.ownsRow base 5 1 v n (cellsB xs)
  blk : t.ownBlock = v.ownBlock ∨ ∃ b, t.ownBlock = some b ∧ w1.heap.size ≤ b

theorem Fill3.start {base : Nat} {w1 : World} {v : Value} {n : Nat} {xs : List Int} {m : Nat} (h : w1.ownsRow base 5 1 v n (cellsB xs)) : Fill3 base w1 v n xs m v 0 w1 :=
  ⟨World.grownBy.refl _ _, by simpa [tailL] using h, h, .inl rfl⟩

theorem Fill3.step {base : Nat} {w1 wr w' : World} {v t t' : Value} {n m q : Nat} {xs : List Int} {b : Int} {o : Obj} (h : Fill3 base w1 v n xs m t q wr) (hb : b = tailB m q)
    (hown : w'.ownsRow base 5 1 t' (n + q + 1) (cellsB (xs ++ tailL m q) ++ [.int .u8 b]))
    (hr : (∃ g cap, t = .slice (some ⟨g, 0, none⟩) (n + q) cap ∧ t' = .slice (some ⟨g, 0, none⟩) (n + q + 1) cap ∧ (wr.alloc o).grownBy w' (some g)) ∨ (t'.ownBlock = some (wr.alloc o).heap.size ∧ (wr.alloc o).grownBy w' none)) :
    Fill3 base w1 v n xs m t' (q + 1) w' := by
  subst hb
  have e : cellsB (xs ++ tailL m q) ++ [.int .u8 (tailB m q)] = cellsB (xs ++ tailL m (q + 1)) := by rw [tailL_succ, ← List.append_assoc, cellsB_snoc]
  rw [e] at hown
  have ga : w1.grownBy (wr.alloc o) v.ownBlock := grown_trans h.grown (World.grownBy_alloc wr o none) (.inr (.inl rfl))
  have oldA := h.old.alloc o
  have hl : (cellsB xs).length = n := by have := h.old.1; simpa using this
  rcases hr with ⟨g, cap, rfl, rfl, hg⟩ | ⟨hb, hg⟩
  · have htb : (Value.slice (some ⟨g, 0, none⟩) (n + q) cap).ownBlock = some g := rfl
    refine ⟨grown_trans ga hg ?_, hown, ?_, h.blk⟩
    · rcases h.blk with e1 | ⟨b, e1, e2⟩
      · exact .inl (htb.symm.trans e1)
      · exact .inr (.inr ⟨b, htb.symm.trans e1, e2⟩)
    · by_cases hv : v.ownBlock = some g
      · obtain ⟨l1, l2⟩ := h.old
        rcases l2 with ⟨rfl, _⟩ | ⟨g', cap', cur, rfl, hbg, hgg, hnc, hcm, hcs, htake⟩
        · simp [Value.ownBlock] at hv
        · obtain rfl : g' = g := by simpa [Value.ownBlock] using hv
          rcases h.own.2 with ⟨q1, _⟩ | ⟨g2, cap2, cur2, q1, _, hgg2, _, _, hcs2, _⟩
          · cases q1
          · simp only [Value.slice.injEq, Option.some.injEq, Addr.mk.injEq, and_true, true_and] at q1
            obtain ⟨rfl, rfl⟩ := q1
            rw [hgg] at hgg2
            simp only [Option.some.injEq, Obj.cells.injEq, and_true] at hgg2
            subst hgg2
            obtain rfl : cap' = cap := by omega
            rw [cellsB_app] at hown
            exact owns_prefix h.old hown hl ⟨_, _, rfl, rfl⟩
      · exact oldA.kept hg (.inr hv)
  · refine ⟨grown_trans ga hg (.inr (.inl rfl)), hown, oldA.kept hg (by cases v.ownBlock <;> simp), .inr ⟨_, hb, ga.size⟩⟩

/-- Where loop 2 stands: the first m rows have their appended rows outs, whose heads lie in ov. -/
structure Fill2 (base : Nat) (vs : BRows) (L : Nat) (w : World) (m : Nat) (ov : Value) (outs : List Value) (wr : World) : Prop where
  st : FillSt base vs vs.length 0 wr
  head : HeadAt wr L vs
  own : wr.ownsRow base 22 1 ov m outs
  below : Below base w wr
  ovA : ∀ (i : Nat) (v : Value) (n : Nat), vs[i]? = some (v, n) → v.ownBlock = none ∨ v.ownBlock ≠ ov.ownBlock
  ovL : ov.ownBlock ≠ some L
  outR : ∀ (i : Nat) (o v : Value) (n : Nat), outs[i]? = some o → vs[i]? = some (v, n) → ∃ zs, wr.ownsRow base 5 1 o (n + 4) (cellsB zs) ∧ (∀ t, t < 4 → zs[n + t]? = some (tailB i t)) ∧
    o.ownBlock ≠ ov.ownBlock ∧ (o.ownBlock = v.ownBlock ∨ ∀ (j : Nat) (v' : Value) (n' : Nat), vs[j]? = some (v', n') → o.ownBlock ≠ v'.ownBlock)

theorem own_some {w : World} {base n : Nat} {e : TypeId} {v : Value} {xs : List Value} (h : w.ownsRow base e 1 v n xs) (h0 : 0 < n) : ∃ g, v.ownBlock = some g ∧ base ≤ g ∧ g < w.heap.size := by
  obtain ⟨g, cap, cur, rfl, hb, hk, _⟩ := owns_pos h h0
  exact ⟨g, rfl, hb, hk.lt⟩

theorem Fill2.push {base : Nat} {vs : BRows} {L : Nat} {w w1 wr w' : World} {m n : Nat} {ov ov' t v : Value} {outs : List Value} {xs : List Int} {o : Obj} (A : OwnArg base vs L w)
    (h : Fill2 base vs L w m ov outs w1) (f : Fill3 base w1 v n xs m t 4 wr) (hv : vs[m]? = some (v, n)) (hx : ∀ j, j < n → xs[j]? = some (fillB m j))
    (hown : w'.ownsRow base 22 1 ov' (m + 1) (outs ++ [t])) (hg : (wr.alloc o).grownBy w' ov.ownBlock) (hblk : ov'.ownBlock = ov.ownBlock ∨ ov'.ownBlock = some (wr.alloc o).heap.size) :
    Fill2 base vs L w (m + 1) ov' (outs ++ [t]) w' := by
  have hsz : (wr.alloc o).heap.size = wr.heap.size + 1 := by simp
  have h1 := f.grown.size
  have ga : w1.grownBy (wr.alloc o) v.ownBlock := grown_trans f.grown (World.grownBy_alloc wr o none) (.inr (.inl rfl))
  have hol : outs.length = m := by have := h.own.1; simpa using this
  have hb1 : base ≤ w1.heap.size := Nat.le_trans A.base h.below.size
  have vlt : ∀ (i : Nat) (v : Value) (n : Nat), vs[i]? = some (v, n) → ∀ g, v.ownBlock = some g → base ≤ g ∧ g < w1.heap.size := by
    intro i v n hi g hgv
    obtain ⟨ys, hy, _⟩ := h.st i v n hi
    exact hy.lt g hgv
  have ovlt : ∀ g, ov.ownBlock = some g → base ≤ g ∧ g < w1.heap.size := h.own.lt
  have Llt := h.head.lt
  have htS := own_some f.own (by omega)
  have hxl : xs.length = n := by have := f.old.1; simpa [cellsB] using this
  refine ⟨?_, ?_, hown, ?_, ?_, ?_, ?_⟩
  · intro i v' n' hi
    by_cases e : i = m
    · subst e
      rw [hv] at hi
      obtain ⟨rfl, rfl⟩ : v = v' ∧ n = n' := by simpa using hi
      exact ⟨xs, (f.old.alloc o).kept hg (h.ovA i v n hv), fun j hj _ => hx j hj⟩
    · obtain ⟨ys, hy, hf⟩ := h.st i v' n' hi
      exact ⟨ys, (hy.kept ga (A.apart i m _ _ e hi hv)).kept hg (h.ovA i v' n' hi), hf⟩
  · have e1 := ga.block L Llt (by rcases A.away m v n hv with q | q; · rw [q]; simp
                                  · exact fun e => q e.symm)
    have e2 := hg.block L (by omega) (fun e => h.ovL e.symm)
    exact h.head.same (by rw [e2, e1])
  · exact (h.below.grown ga hb1 (fun k hk => (vlt m v n hv k hk).1)).grown hg (by omega) (fun k hk => (ovlt k hk).1)
  · intro i v' n' hi
    rcases hblk with q | q
    · rw [q]; exact h.ovA i v' n' hi
    · right; intro e
      rw [q] at e
      have := (vlt i v' n' hi _ e).2
      omega
  · rcases hblk with q | q
    · rw [q]; exact h.ovL
    · rw [q]; intro e; simp at e; omega
  · intro i o' v' n' ho hi
    by_cases e : i < m
    · rw [List.getElem?_append_left (by omega)] at ho
      obtain ⟨zs, hz, hzt, hzo, hzv⟩ := h.outR i o' v' n' ho hi
      obtain ⟨g, hg1, hg2, hg3⟩ := own_some hz (by omega)
      have n1 : o'.ownBlock ≠ v.ownBlock := by
        rcases hzv with q | q
        · rcases A.apart i m _ _ (by omega) hi hv with q' | q'
          · rw [q, q'] at hg1 ; cases hg1
          · rw [q]; exact q'
        · exact q m v n hv
      refine ⟨zs, (hz.kept ga (.inr n1)).kept hg (.inr hzo), hzt, ?_, hzv⟩
      rcases hblk with q | q
      · rw [q]; exact hzo
      · rw [q, hg1]; intro e; simp at e; omega
    · have em : i = m := by
        rcases Nat.lt_or_ge i (outs ++ [t]).length with q | q
        · simp at q; omega
        · rw [List.getElem?_eq_none q] at ho; cases ho
      subst em
      rw [List.getElem?_append_right (by omega), hol] at ho
      obtain rfl : t = o' := by simpa using ho
      rw [hv] at hi
      obtain ⟨rfl, rfl⟩ : v = v' ∧ n = n' := by simpa using hi
      obtain ⟨g, hg1, hg2, hg3⟩ := htS
      have n0 : t.ownBlock ≠ ov.ownBlock := by
        rcases f.blk with q | ⟨b, q1, q2⟩
        · rcases h.ovA i v n hv with q' | q'
          · rw [q, q'] at hg1; cases hg1
          · rw [q]; exact q'
        · rw [q1]; intro e
          have := (ovlt b e.symm).2
          omega
      refine ⟨xs ++ tailL i 4, (f.own.alloc o).kept hg (.inr n0), fun t ht => ?_, ?_, ?_⟩
      · rw [List.getElem?_append_right (by omega), hxl, Nat.add_sub_cancel_left]
        exact tailL_get i ht
      · rcases hblk with q | q
        · rw [q]; exact n0
        · rw [q, hg1]; intro e; simp at e; omega
      · rcases f.blk with q | ⟨b, q1, q2⟩
        · exact .inl q
        · refine .inr fun j v' n' hj => ?_
          rw [q1]; intro e
          have := (vlt j v' n' hj b e.symm).2
          omega
end Go.Proofs.Ytbgdhmacpgnfeaa
