/-
  An append to a row that is owned, or full, whatever slice comes in behind. No program is imported.
-/
import Derived.Test.YtgohnidndjbjiaaFr
import Derived.Test.YtgohnidndjbjiaaApp
namespace Go.Proofs.Ytgohnidndjbjiaa
open Go Go.RowKit
set_option linter.unusedVariables false

section
variable {P : Program} {w : World}
theorem run_app_full (t ty e : TypeId) (i : TypeInfo) (ht : P.underlying t = some (.slice e)) (hi : P.info? e = some i) (hsize : i.size = 1)
    (g n : Nat) (ad : Option Addr) (c : Nat) : (Builtin.append_ #[t, t] ty #[.slice (some ⟨g, 0, none⟩) n n, .slice ad 0 c]).run P w = .ok (.slice (some ⟨g, 0, none⟩) n n) w := by
  cases ad with
  | none => simp [Builtin.append_, run_underlying ht, sizeOf, typeInfo, hi, Builtin.lenOf, Builtin.firstCells, storeCells]
  | some a => simp [Builtin.append_, run_underlying ht, sizeOf, typeInfo, hi, Builtin.lenOf, Builtin.firstCells, loadCells, loadCellsFrom, storeCells]

theorem run_app_dat (base : Nat) (t ty e : TypeId) (i : TypeInfo) (z : Value) (bytes : Nat) (ht : P.underlying t = some (.slice e)) (hi : P.info? e = some i) (hz : i.zero = some z)
    (hsize : i.size = 1) (hby : i.bytes = bytes) (hzs : z.cells.size = 1)
    (v : Value) (xs : List Value) (hD : Dat w base e v xs) (K : Nat → Prop) (sv : Value) (ys : List Value) (hS : Rd w K sv ys) (h1 : ∀ u ∈ ys, u.oneCell' = true)
    (h63 : xs.length + ys.length ≤ maxLen) (hbytes : (xs.length + ys.length) * bytes ≤ 140737488355328) (hbase : base ≤ w.heap.size) :
    ∃ v' w', (Builtin.append_ #[t, t] ty #[v, sv]).run P w = .ok v' w' ∧ Dat w' base e v' (xs ++ ys) ∧ w.grownBy w' v.ownBlock ∧ (v'.ownBlock = v.ownBlock ∨ v'.ownBlock = some w.heap.size) := by
  obtain ⟨A, c, rfl, hc, hcm, hr⟩ := hS
  rcases hD with hD | ⟨g, cur, rfl, hg, hb, hs, hm, htk⟩
  · cases A with
    | none =>
      have h0 : ys = [] := by
        rcases Nat.eq_zero_or_pos ys.length with h | h
        · exact List.eq_nil_of_length_eq_zero h
        · obtain ⟨_, _, h, _⟩ := hr h; cases h
      subst h0
      exact ⟨v, w, run_app_nil base t ty e i 1 ht hi v xs.length xs hD c, .inl (by simpa using hD), World.grownBy.refl w _, .inl rfl⟩
    | some a =>
      have hnews : ∀ j u, ys[j]? = some u → w.cell? (a.add j) = some u := by
        intro j u hj
        obtain ⟨b, off, hA, _, _, h⟩ := hr (by have := (List.getElem?_eq_some_iff.1 hj).1; omega)
        injection hA with hA
        rw [hA, Addr.add_lit]; exact h j u hj
      obtain ⟨v', w', hrun, hown, hgr, _, hbl⟩ := run_append_own_at (P := P) w base t ty e i z 1 bytes ht hi hz hsize hby hzs (by decide) v xs.length xs hD a ys.length c ys (by simp) hnews h1 h63 hbytes hbase
      exact ⟨v', w', hrun, .inl (by rw [List.length_append]; exact hown), hgr, hbl⟩
  · rcases Nat.eq_zero_or_pos ys.length with h0 | h0
    · obtain rfl : ys = [] := List.eq_nil_of_length_eq_zero h0
      exact ⟨_, w, run_app_full t ty e i ht hi hsize g xs.length A c, by rw [List.append_nil]; exact .inr ⟨g, cur, rfl, hg, hb, hs, hm, htk⟩, World.grownBy.refl w _, .inl rfl⟩
    · obtain ⟨b, off, rfl, _, _, hcell⟩ := hr h0
      have hsmall : xs.length + ys.length ≤ 9223372036854775807 := by simp only [maxLen] at h63; omega
      have holds : ∀ j u, xs[j]? = some u → w.cell? ((⟨g, 0, none⟩ : Addr).add j) = some u := by
        intro j u hj
        rw [Addr.add_lit, Nat.zero_add, hb.cell]
        have hjl : j < xs.length := (List.getElem?_eq_some_iff.1 hj).1
        rw [← hj]
        conv => rhs; rw [← htk]
        rw [List.getElem?_take_of_lt hjl]; simp
      have hnews : ∀ j u, ys[j]? = some u → w.cell? ((⟨b, off, none⟩ : Addr).add j) = some u := fun j u hj => by rw [Addr.add_lit]; exact hcell j u hj
      have hrun := run_append_grow (P := P) w t ty e i z ht hi hz ⟨g, 0, none⟩ xs.length xs.length xs (by rw [hsize, Nat.mul_one]) holds ⟨b, off, none⟩ ys.length c ys (by rw [hsize, Nat.mul_one]) hnews (by omega) (by omega) (growslice_fits (by omega) (by rw [hby]; exact hbytes))
      refine ⟨_, _, hrun, .inl ⟨by simp, .inr ⟨w.heap.size, _, _, by rw [List.length_append], hbase, heap_alloc_new w.drew _, ?_, grownCap_le_maxLen w _ _ e h63, ?_, ?_⟩⟩, ⟨rfl, rfl, rfl, by simp, fun k hk _ => heap_alloc_old w.drew _ hk⟩, .inr rfl⟩
      · rw [List.length_append]; exact grownCap_ge w _ _ e
      · have := grownCap_ge w (xs.length + ys.length) xs.length e
        simp only [Array.size_append, List.size_toArray, size_zeroCells, hzs]
        omega
      · simp only [Array.toList_append, List.append_assoc, Nat.mul_one]
        rw [← List.append_assoc]
        exact List.take_left

theorem wpList_app_dat {ops : Array Oper} {rest : List Oper} {o : Oper} {a : Act} {Q : Exit → Act → World → Prop} (hgd : o.guard = none) (s x : Operand) (t : TypeId)
    (ho : o.op = .call { callee := .builtin .append, args := #[s, x], argTypes := #[t, t] })
    (base : Nat) (e : TypeId) (i : TypeInfo) (z : Value) (bytes : Nat) (ht : P.underlying t = some (.slice e)) (hi : P.info? e = some i) (hz : i.zero = some z)
    (hsize : i.size = 1) (hby : i.bytes = bytes) (hzs : z.cells.size = 1)
    (v : Value) (xs : List Value) (hs : a.eval s = v) (hD : Dat w base e v xs) (K : Nat → Prop) (sv : Value) (ys : List Value) (hx : a.eval x = sv) (hS : Rd w K sv ys) (h1 : ∀ u ∈ ys, u.oneCell' = true)
    (h63 : xs.length + ys.length ≤ maxLen) (hbytes : (xs.length + ys.length) * bytes ≤ 140737488355328) (hbase : base ≤ w.heap.size)
    (h : ∀ v' w', Dat w' base e v' (xs ++ ys) → w.grownBy w' v.ownBlock → (v'.ownBlock = v.ownBlock ∨ v'.ownBlock = some w.heap.size) → wpList P ops Q rest (a.put o.dst v') w') :
    wpList P ops Q (o :: rest) a w := by
  refine wpList_plain hgd fun Kk hK => ?_
  obtain ⟨v', w', hr, h2, h3, h4⟩ := run_app_dat (P := P) base t o.type e i z bytes ht hi hz hsize hby hzs v xs hD K sv ys hS h1 h63 hbytes hbase
  unfold Oper.wp execOp
  simp only [ho, resolve, invoke, builtin, Sem.run_bind, Sem.run_pure, Result.andThen_ok, List.map_toArray, List.map_cons, List.map_nil, hs, hx, hr]
  exact hK _ _ (h v' w' h2 h3 h4)
end
end Go.Proofs.Ytgohnidndjbjiaa
