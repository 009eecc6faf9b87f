/-
  Rows of elements of any number of cells: copy, clear, cells written one by one, what is owned behind them. No program is imported.
-/
import Derived.Lib.SliceRun
import Derived.Lib.AppendZerosOnto
import Derived.Laws.OwnMore
import Derived.Laws.IdiomCopy
import Derived.Deep.Upon
import Derived.Maps.AppendAt
namespace Go.Proofs.Ytfabjlhepadkpaa
open Go Go.RowKit
set_option linter.unusedVariables false
section
variable {P : Program}

theorem run_copy_rows (w : World) (dT sT ty elem : TypeId) (s b o dLen dCap : Nat) (a : Addr) (sLen sCap : Nat) (cs : List Value)
    (hu : P.underlying dT = some (.slice elem)) (hs : (P.info? elem).map (·.size) = some s) (hn : cs.length = Nat.min sLen dLen * s)
    (hsrc : ∀ j v, cs[j]? = some v → w.cell? (a.add j) = some v) (hc : ∀ j, j < cs.length → (w.cell? ⟨b, o + j, none⟩).isSome = true) (hf : ∀ j, j < cs.length → w.frozen? ⟨b, o + j, none⟩ = false) (h1 : ∀ v ∈ cs, v.oneCell' = true) :
    (Builtin.copy_ #[dT, sT] ty #[.slice (some ⟨b, o, none⟩) dLen dCap, .slice (some a) sLen sCap]).run P w = .ok (goInt (Nat.min sLen dLen)) (w.setCells b o cs) := by
  have hl := run_loadCells_list (P := P) w a cs hsrc
  have hst := run_storeCells_cells (P := P) b o cs 0 w (by simpa using hc) (by simpa using hf) h1
  cases hq : P.info? elem with
  | none => simp [hq] at hs
  | some i =>
    have hi : i.size = s := by simpa [hq] using hs
    simp [Builtin.copy_, run_underlying hu, Builtin.lenOf, Builtin.firstCells, sizeOf, typeInfo, hq, hi, ← hn, hl, hst]

theorem run_clear_rows (w : World) (t e ty : TypeId) (z : Value) (ht : P.underlying t = some (.slice e)) (hv : ∀ w, (zeroValue e).run P w = .ok z w) (b o n c : Nat) (h1 : ∀ v ∈ (Builtin.zeroCells z.cells n).toList, v.oneCell' = true) (hn : 0 < n)
    (hc : ∀ j, j < n * z.cells.size → (w.cell? ⟨b, o + j, none⟩).isSome = true) (hf : ∀ j, j < n * z.cells.size → w.frozen? ⟨b, o + j, none⟩ = false) :
    (Builtin.clear_ #[t] ty #[.slice (some ⟨b, o, none⟩) n c]).run P w = .ok (.tuple #[]) (w.setCells b o (Builtin.zeroCells z.cells n).toList) := by
  have hsz : (Builtin.zeroCells z.cells n).toList.length = n * z.cells.size := by rw [Array.length_toList, size_zeroCells]
  have hst := run_storeCells_cells (P := P) b o (Builtin.zeroCells z.cells n).toList 0 w (by rw [hsz]; simpa using hc) (by rw [hsz]; simpa using hf) h1
  simp only [Nat.add_zero] at hst
  obtain ⟨m, rfl⟩ : ∃ m, n = m + 1 := ⟨n - 1, by omega⟩
  simp [Builtin.clear_, run_underlying ht, hv, hst]

theorem heap_setCells (b : Nat) (e : TypeId) : ∀ (vs : List Value) (o : Nat) (w : World) (cur : Array Value), w.heap[b]? = some (.cells cur e (0, 0)) →
    ∃ cur' : Array Value, (w.setCells b o vs).heap[b]? = some (.cells cur' e (0, 0)) ∧ cur'.size = cur.size ∧ (∀ k, k < o ∨ o + vs.length ≤ k → cur'[k]? = cur[k]?) ∧ (∀ j, o + j < cur.size → j < vs.length → cur'[o + j]? = vs[j]?)
  | [], o, w, cur, h => ⟨cur, h, rfl, fun _ _ => rfl, fun j _ hj => absurd hj (by simp)⟩
  | v :: r, o, w, cur, h => by
    obtain ⟨cur', h1, h2, h3, h4⟩ := heap_setCells b e r (o + 1) (w.setCell ⟨b, o, none⟩ v) (cur.setIfInBounds o v) (by rw [setCell_eq_setRow w b o cur e (0, 0) v h]; exact setRow_heap w b cur _ e _ h)
    refine ⟨cur', h1, by simpa using h2, fun k hk => ?_, fun j hj hl => ?_⟩
    · rw [h3 k (by simp at hk; omega), Array.getElem?_setIfInBounds_ne (by simp at hk; omega)]
    · cases j with
      | zero => rw [Nat.add_zero, h3 o (by omega), Array.getElem?_setIfInBounds_self_of_lt (by simpa using hj)]; rfl
      | succ j =>
        have := h4 j (by simp; omega) (by simpa using hl)
        rw [show o + (j + 1) = o + 1 + j by omega, this]; rfl
theorem grownBy_setCells (b : Nat) : ∀ (vs : List Value) (o : Nat) (w : World), w.grownBy (w.setCells b o vs) (some b)
  | vs, o, w => by
    refine ⟨?_, ?_, ?_, ?_, fun k hk hne => World.heap_setCells_other w b o vs hk (fun e => hne (by rw [e]))⟩
    · induction vs generalizing o w with
      | nil => rfl
      | cons v r ih => exact ih _ _
    · induction vs generalizing o w with
      | nil => rfl
      | cons v r ih => exact ih _ _
    · induction vs generalizing o w with
      | nil => rfl
      | cons v r ih => exact ih _ _
    · induction vs generalizing o w with
      | nil => exact Nat.le_refl _
      | cons v r ih => exact Nat.le_trans (Nat.le_of_eq (by simp [World.setCell])) (ih (o + 1) (w.setCell ⟨b, o, none⟩ v))

/-- A row of which the first ones are known is owned as a shorter one too. -/
theorem owns_front {w : World} {base : Nat} {e : TypeId} {s g n cap : Nat} {xs : List Value} (h : w.ownsRow base e s (.slice (some ⟨g, 0, none⟩) n cap) n xs) (i : Nat) (hi : i ≤ n) :
    w.ownsRow base e s (.slice (some ⟨g, 0, none⟩) i cap) i (xs.take (i * s)) := by
  obtain ⟨hl, ⟨h', _⟩ | ⟨g', cap', cur, h', hbg, hg, hnc, hcm, hcs, ht⟩⟩ := h
  · simp at h'
  · simp only [Value.slice.injEq, Option.some.injEq, Addr.mk.injEq, and_true, true_and] at h'
    obtain ⟨rfl, rfl⟩ := h'
    have hm : i * s ≤ n * s := Nat.mul_le_mul_right s hi
    refine ⟨by rw [List.length_take, hl]; omega, .inr ⟨g, cap, cur, rfl, hbg, hg, by omega, hcm, hcs, ?_⟩⟩
    rw [← ht, List.take_take]
    congr 1
    omega
theorem owns_parts {w : World} {base : Nat} {e : TypeId} {s n : Nat} {v : Value} {xs : List Value} (h : w.ownsRow base e s v n xs) (h0 : 0 < n) :
    ∃ g cap cur, v = .slice (some ⟨g, 0, none⟩) n cap ∧ base ≤ g ∧ w.heap[g]? = some (.cells cur e (0, 0)) ∧ n ≤ cap ∧ cap ≤ maxLen ∧ cur.size = cap * s ∧ cur.toList.take (n * s) = xs := by
  obtain ⟨hl, ⟨rfl, rfl⟩ | ⟨g, cap, cur, rfl, h'⟩⟩ := h
  · omega
  · exact ⟨g, cap, cur, rfl, h'⟩

/-- What is owned behind two copies in place: m elements vs at i, and what stood from i on behind them. -/
theorem owns_opened {w : World} {base : Nat} {e : TypeId} {s g n cap i m : Nat} {cur : Array Value} {xs vs : List Value} (hbg : base ≤ g) (hg : w.heap[g]? = some (.cells cur e (0, 0))) (hcm : cap ≤ maxLen) (hcs : cur.size = cap * s)
    (hxs : cur.toList.take (n * s) = xs) (hin : i ≤ n) (hroom : n + m ≤ cap) (hv : vs.length = m * s) (hx : xs.length = n * s) :
    ((w.setCells g ((i + m) * s) (xs.drop (i * s))).setCells g (i * s) vs).ownsRow base e s (.slice (some ⟨g, 0, none⟩) (n + m) cap) (n + m) (xs.take (i * s) ++ vs ++ xs.drop (i * s)) := by
  obtain ⟨c1, a1, a2, a3, a4⟩ := heap_setCells g e (xs.drop (i * s)) ((i + m) * s) w cur hg
  obtain ⟨c2, b1, b2, b3, b4⟩ := heap_setCells g e vs (i * s) _ c1 a1
  have e1 : (i + m) * s = i * s + m * s := Nat.add_mul _ _ _
  have e2 : (n + m) * s = n * s + m * s := Nat.add_mul _ _ _
  have e3 : i * s ≤ n * s := Nat.mul_le_mul_right s hin
  have e4 : (n + m) * s ≤ cap * s := Nat.mul_le_mul_right s hroom
  have hd : (xs.drop (i * s)).length = n * s - i * s := by rw [List.length_drop, hx]
  refine ⟨by rw [List.length_append, List.length_append, List.length_take, hd, hv, hx, e2]; omega, .inr ⟨g, cap, c2, rfl, hbg, b1, hroom, hcm, by omega, ?_⟩⟩
  rw [e1] at a3 a4
  rw [e2] at e4 ⊢
  generalize i * s = I at *
  generalize m * s = M at *
  generalize n * s = N at *
  generalize cap * s = C at *
  apply List.ext_getElem?
  intro k
  rw [List.getElem?_take]
  by_cases hk : k < N + M
  · rw [if_pos hk, Array.getElem?_toList]
    have hxk : ∀ q, q < N → cur[q]? = xs[q]? := fun q hq => by rw [← hxs, List.getElem?_take_of_lt hq, Array.getElem?_toList]
    rw [List.append_assoc, List.getElem?_append]
    have hlt : (xs.take I).length = I := by rw [List.length_take]; omega
    by_cases h1 : k < I
    · rw [if_pos (by omega), b3 k (.inl h1), a3 k (.inl (by omega)), hxk k (by omega), List.getElem?_take_of_lt h1]
    · rw [if_neg (by omega), hlt, List.getElem?_append]
      by_cases h2 : k < I + M
      · have := b4 (k - I) (by omega) (by omega)
        rw [show I + (k - I) = k by omega] at this
        rw [if_pos (by omega), this]
      · have := a4 (k - I - M) (by omega) (by omega)
        rw [show I + M + (k - I - M) = k by omega] at this
        rw [if_neg (by omega), b3 k (.inr (by omega)), this, hv]
  · rw [if_neg hk, List.getElem?_eq_none (by simp only [List.length_append, List.length_take]; omega)]

/-- What is owned behind two copies into a new row. -/
theorem owns_laid {w : World} {base : Nat} {e : TypeId} {s g n cap i m : Nat} {cur : Array Value} {xs vs : List Value} (hbg : base ≤ g) (hg : w.heap[g]? = some (.cells cur e (0, 0))) (hcm : cap ≤ maxLen) (hcs : cur.size = cap * s)
    (hxs : cur.toList.take (i * s) = xs.take (i * s)) (hin : i ≤ n) (hroom : n + m ≤ cap) (hv : vs.length = m * s) (hx : xs.length = n * s) :
    ((w.setCells g (i * s) vs).setCells g ((i + m) * s) (xs.drop (i * s))).ownsRow base e s (.slice (some ⟨g, 0, none⟩) (n + m) cap) (n + m) (xs.take (i * s) ++ vs ++ xs.drop (i * s)) := by
  obtain ⟨c1, a1, a2, a3, a4⟩ := heap_setCells g e vs (i * s) w cur hg
  obtain ⟨c2, b1, b2, b3, b4⟩ := heap_setCells g e (xs.drop (i * s)) ((i + m) * s) _ c1 a1
  have e1 : (i + m) * s = i * s + m * s := Nat.add_mul _ _ _
  have e2 : (n + m) * s = n * s + m * s := Nat.add_mul _ _ _
  have e3 : i * s ≤ n * s := Nat.mul_le_mul_right s hin
  have e4 : (n + m) * s ≤ cap * s := Nat.mul_le_mul_right s hroom
  have hd : (xs.drop (i * s)).length = n * s - i * s := by rw [List.length_drop, hx]
  refine ⟨by rw [List.length_append, List.length_append, List.length_take, hd, hv, hx, e2]; omega, .inr ⟨g, cap, c2, rfl, hbg, b1, hroom, hcm, by omega, ?_⟩⟩
  rw [e1] at b3 b4
  rw [e2] at e4 ⊢
  generalize i * s = I at *
  generalize m * s = M at *
  generalize n * s = N at *
  generalize cap * s = C at *
  apply List.ext_getElem?
  intro k
  rw [List.getElem?_take]
  by_cases hk : k < N + M
  · rw [if_pos hk, Array.getElem?_toList]
    rw [List.append_assoc, List.getElem?_append]
    have hlt : (xs.take I).length = I := by rw [List.length_take]; omega
    by_cases h1 : k < I
    · have : cur[k]? = (xs.take I)[k]? := by rw [← hxs, List.getElem?_take_of_lt h1, Array.getElem?_toList]
      rw [if_pos (by omega), b3 k (.inl (by omega)), a3 k (.inl h1), this]
    · rw [if_neg (by omega), hlt, List.getElem?_append]
      by_cases h2 : k < I + M
      · have := a4 (k - I) (by omega) (by omega)
        rw [show I + (k - I) = k by omega] at this
        rw [if_pos (by omega), b3 k (.inl h2), this]
      · have := b4 (k - I - M) (by omega) (by omega)
        rw [show I + M + (k - I - M) = k by omega] at this
        rw [if_neg (by omega), this, hv]
  · rw [if_neg hk, List.getElem?_eq_none (by simp only [List.length_append, List.length_take]; omega)]
/-- Cells written behind what is owned. -/
theorem owns_tail {w : World} {base : Nat} {e : TypeId} {s g n cap : Nat} {xs : List Value} (h : w.ownsRow base e s (.slice (some ⟨g, 0, none⟩) n cap) n xs) (o : Nat) (vs : List Value) (ho : n * s ≤ o) :
    (w.setCells g o vs).ownsRow base e s (.slice (some ⟨g, 0, none⟩) n cap) n xs := by
  obtain ⟨hl, ⟨h', _⟩ | ⟨g', cap', cur, h', hbg, hg, hnc, hcm, hcs, ht⟩⟩ := h
  · simp at h'
  · simp only [Value.slice.injEq, Option.some.injEq, Addr.mk.injEq, and_true, true_and] at h'
    obtain ⟨rfl, rfl⟩ := h'
    obtain ⟨c1, a1, a2, a3, _⟩ := heap_setCells g e vs o w cur hg
    refine ⟨hl, .inr ⟨g, cap, c1, rfl, hbg, a1, hnc, hcm, by omega, ?_⟩⟩
    rw [← ht]
    apply List.ext_getElem?
    intro k
    rw [List.getElem?_take, List.getElem?_take]
    by_cases hk : k < n * s
    · rw [if_pos hk, if_pos hk, Array.getElem?_toList, Array.getElem?_toList, a3 k (.inl (by omega))]
    · rw [if_neg hk, if_neg hk]

/-- An append whose run is known, as one step of a region that draws. -/
theorem step_append_run {ops : Array Oper} {o : Oper} {a : Act} {w : World} {K : Act → World → Prop} {Q : Exit → Act → World → Prop} {E : Prop}
    (hg : o.guard = none) (s x : Operand) (t tn : TypeId) (hop : o.op = Op.call { callee := Callee.builtin Builtin.append, args := #[s, x], argTypes := #[t, tn] })
    (v u : Value) (hs : a.eval s = v) (hx : a.eval x = u) {v' : Value} {w' : World} (hr : (Builtin.append_ #[t, tn] o.type #[v, u]).run P w = .ok v' w') (hK : K (a.put o.dst v') w') :
    if Region.wanted o (yielded ops a.tmps) = true then Oper.wp P o a w K Q else E := by
  have hw : Region.wanted o (yielded ops a.tmps) = true := by simp [Region.wanted, hg]
  rw [if_pos hw]
  unfold Oper.wp
  simp [execOp, hop, resolve, invoke, builtin, hs, hx, hr, Result.andThen]
  exact hK
theorem wpList_clear_run (w : World) {ops : Array Oper} {rest : List Oper} {o : Oper} {a : Act} {Q : Exit → Act → World → Prop} (hgd : o.guard = none) (x : Operand) (t : TypeId)
    (ho : o.op = .call { callee := .builtin .clear, args := #[x], argTypes := #[t] }) (v : Value) (hx : a.eval x = v) {v' : Value} {w' : World}
    (hr : (Builtin.clear_ #[t] o.type #[v]).run P w = .ok v' w') (h : wpList P ops Q rest (a.put o.dst v') w') : wpList P ops Q (o :: rest) a w :=
  wpList_plain hgd fun K hK => by
    unfold Oper.wp execOp
    simp only [ho, resolve, invoke, builtin, Sem.run_bind, Sem.run_pure, Result.andThen_ok, List.map_toArray, List.map_cons, List.map_nil, hx, hr]
    exact hK _ _ h
end
end Go.Proofs.Ytfabjlhepadkpaa
