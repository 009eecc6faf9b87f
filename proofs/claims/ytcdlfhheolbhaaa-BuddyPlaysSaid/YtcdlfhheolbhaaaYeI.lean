/-
  slices.Clone at blocks, Taken, the yard's clone, Would.
-/
import Derived.Test.YtcdlfhheolbhaaaYeH
import Derived.Deep.DeepCutAuto
import Derived.Deep.CutBlock
namespace Go.Proofs.Ytcdlfhheolbhaaa
open Go Go.RowKit Go.Lib
set_option linter.unusedVariables false

theorem Try.infoBk : (Try.prog.info? 45).map (fun i => (i.zero, i.size, i.bytes)) = some (some (.agg #[.int .i64 0, .int .i64 0]), 2, 16) := by kernel_rfl
theorem cloneB_some (a : Addr) (c : Nat) (xs : List Bk) (w : World) (hn : xs.length ≤ 1048576) (hc : ∀ j u, (blkL xs)[j]? = some u → w.cell? (a.add j) = some u) :
    Calls Try.prog 45 #[.slice (some a) xs.length c] w
      fun e w' => ∃ v', e = .returned v' ∧ BOwn w' w.heap.size v' xs ∧ Below w.heap.size w w' := by
  obtain ⟨i0, hi, hz0, hz1, hz2⟩ := info_parts Try.infoBk
  have HC := Lib.hid hc
  clear hc
  have q : ∀ (w : World) (a : Option Addr) (n c n' c' : Nat), (binOp .eql 39 (.slice a n c) (.slice none n' c')).run Try.prog w = .ok (.bool a.isNone) w := fun w a n c n' c' => Lib.run_eql_slice_nil w _ _ a n c n' c' Try.underlying39
  go_enter Try.func45, Try.ntmps45
  go_wp2_with (at_builtin; refine wpList_append_own _ rfl _ _ 39 rfl w.heap.size 45 i0 _ 2 16 Try.underlying39 hi hz0 hz1 hz2 rfl (by decide) _ _ _ rfl (World.ownsRow_made w #[] 0 (Nat.le_refl _) (Nat.zero_le _) (by simp)) a xs.length c (blkL xs) rfl (blkL_len xs) ?qc1 (blkL_one xs) ?qc2 ?qc3 ?qc4 ?_)
  case qc1 => exact fun j u hj => Lib.cell?_alloc_some _ (HC.out j u hj)
  case qc2 => unfold maxLen; omega
  case qc3 => omega
  case qc4 => simp
  intro v' w1 hown hgrow hnil
  go_wp2_with fail
  go_ret
  exact ⟨v', rfl, by simpa using hown, ((Below.refl _ w).alloc (Nat.le_refl _) _).grown hgrow (by simp) (by intro k hk; simp [Value.ownBlock] at hk; omega)⟩
theorem cloneB_nil (n c : Nat) (w : World) :
    Calls Try.prog 45 #[.slice none n c] w fun e w' => e = .returned (.slice none 0 0) ∧ w' = w := by
  have q : ∀ (w : World) (a : Option Addr) (n c n' c' : Nat), (binOp .eql 39 (.slice a n c) (.slice none n' c')).run Try.prog w = .ok (.bool a.isNone) w := fun w a n c n' c' => Lib.run_eql_slice_nil w _ _ a n c n' c' Try.underlying39
  go_enter Try.func45, Try.ntmps45
  go_wp2_with fail
  go_ret
  exact ⟨rfl, rfl⟩
theorem newsB_of_row {w : World} {b off : Nat} {l : List Bk} (h : BCells w b off l) : ∀ j u, (blkL l)[j]? = some u → w.cell? ((⟨b, off, none⟩ : Addr).add j) = some u := by
  intro j u hj
  have hlt : j < l.length * 2 := by
    have := (List.getElem?_eq_some_iff.1 hj).1
    rwa [blkL_len] at this
  have hi : j / 2 < l.length := by omega
  have e : j = j / 2 * 2 + j % 2 := by omega
  rw [e, blkL_get hi (by omega)] at hj
  rw [Addr.add_lit]
  obtain ⟨c0, c1⟩ := h (j / 2) hi
  rcases (by omega : j % 2 = 0 ∨ j % 2 = 1) with h0 | h0
  · rw [h0] at hj
    rw [show off + j = off + j / 2 * 2 by omega, c0]; exact hj
  · rw [h0] at hj
    rw [show off + j = off + j / 2 * 2 + 1 by omega, c1]; exact hj
theorem cloneB_any (v : Value) (xs : List Bk) (w : World) (hn : xs.length ≤ 1048576) (h : BRow w v xs) :
    Calls Try.prog 45 #[v] w fun e w' => ∃ v', e = .returned v' ∧ BOwn w' w.heap.size v' xs ∧ Below w.heap.size w w' := by
  rcases h with ⟨rfl, a, c, rfl, _⟩ | ⟨b, off, c, rfl, _, h1, h2, hc⟩
  · cases a with
    | none =>
      refine (cloneB_nil 0 c w).mono ?_
      rintro e w' ⟨rfl, rfl⟩
      exact ⟨_, rfl, ⟨rfl, .inl ⟨rfl, rfl⟩⟩, Below.refl _ _⟩
    | some a => exact cloneB_some a c [] w hn (fun j u hj => by simp [blkL] at hj)
  · exact cloneB_some _ c xs w hn (newsB_of_row hc)
theorem Taken_any (y : Nat) (own : Nat → Prop) (n : Nat) (tk : List Bk) (fl : List Nat) (w : World) (hY : YS w y own n tk fl) :
    Calls Try.prog 18 #[.pointer (some ⟨y, 0, none⟩)] w fun e w' => ∃ v', e = .returned v' ∧ BOwn w' w.heap.size v' tk ∧ Below w.heap.size w w' := by
  obtain ⟨v, hv, hr⟩ := hY.2.tk
  have C := Lib.hid (cloneB_any v tk w (by have := hY.1.tlen; omega) (brow_of_own hr))
  clear hY hr
  go_enter Try.func18, Try.ntmps18
  go_wp2_with fail
  refine C.out.mono ?_; rintro e w1 ⟨v', rfl, h1, b1⟩
  have H1 := Lib.hid h1
  clear h1
  go_wp2_with fail
  go_ret
  exact ⟨v', rfl, H1.out, b1⟩

/-! The yard's clone. -/
section
variable {P : Program}
theorem run_index_arr {t e : TypeId} {n i : Nat} {cs : Array Value} {v : Value} {w : World} (h : P.underlying t = some (.array n e)) (hi : i < n) (ha : (isAgg e).run P w = .ok false w) (hs : (sizeOf e).run P w = .ok 1 w) (hv : cs[i]? = some v) :
    (Instr.index t (.agg cs) (.int .i64 (i : Nat))).run P w = .ok v w := by
  have h1 : (0 : Int) ≤ (i : Int) ∧ (i : Int) < (n : Int) := by omega
  simp [Instr.index, asIntOf, run_underlying h, Sem.run_bind, Sem.run_pure, Result.andThen_ok, hi, hs, part, ha, hv]
theorem wp_load_cells {o : Oper} {a : Act} {w : World} {K : Act → World → Prop} {Q : Exit → Act → World → Prop} (ty : TypeId) (x : Operand) (ho : o.op = .load ty x)
    (p : Addr) (hx : a.eval x = .pointer (some p)) (v : Value) (hr : (loadVar ty p).run P w = .ok v w) (h : K (a.put o.dst v) w) : o.wp P a w K Q := by
  unfold Oper.wp execOp
  simp only [ho, hx, Instr.loadAt, Instr.sureAddr, Sem.run_bind, Sem.run_pure, Result.andThen_ok, hr]
  exact h
theorem wpList_load_cells {ops : Array Oper} {rest : List Oper} {o : Oper} {a : Act} {w : World} {Q : Exit → Act → World → Prop} (hgd : o.guard = none) (ty : TypeId) (x : Operand) (ho : o.op = .load ty x)
    (p : Addr) (hx : a.eval x = .pointer (some p)) (v : Value) (hr : (loadVar ty p).run P w = .ok v w) (h : wpList P ops Q rest (a.put o.dst v) w) : wpList P ops Q (o :: rest) a w :=
  wpList_plain hgd fun _ hK => wp_load_cells ty x ho p hx v hr (hK _ _ h)
end
/-- The rows of free blocks, as one value. -/
theorem YI.rows {w : World} {y : Nat} {own : Nat → Prop} {n : Nat} {op : Opn} {tk : List Bk} {fl : List Nat} (h : YI w y own n op tk fl) :
    ∃ A : Array Value, (∀ w', (∀ o, w'.cell? ⟨y, o, none⟩ = w.cell? ⟨y, o, none⟩) → (loadVar 63 ⟨y, 1, none⟩).run Try.prog w' = .ok (.agg A) w') ∧ ∀ k, k < 11 → ∃ v, A[k]? = some v ∧ NOwn w 0 v (natI (frL n op k)) := by
  obtain ⟨cs, q1, q2, q3⟩ := id h
  have hAl : ((cs.toList.drop 1).take 11).length = 11 := by simp [q1.sz]
  refine ⟨((cs.toList.drop 1).take 11).toArray, fun w' hw' => ?_, fun k hk => ?_⟩
  · have h1 : (loadCells ⟨y, 1, none⟩ 11).run Try.prog w' = .ok ((cs.toList.drop 1).take 11).toArray w' := by
      have := run_loadCells_list (P := Try.prog) w' ⟨y, 1, none⟩ ((cs.toList.drop 1).take 11) (fun j v hv => by
        rw [Addr.add_lit, hw', q1.blk.cell]
        rw [List.getElem?_take] at hv
        split at hv
        · rw [List.getElem?_drop] at hv
          rw [← Array.getElem?_toList]; exact hv
        · cases hv)
      rw [hAl] at this
      exact this
    simp only [loadVar, Sem.run_bind, Try.isAgg63 w', Result.andThen_ok, Try.sizeOf63 w', h1, if_true, Sem.run_pure]
  · obtain ⟨v, hv, hr⟩ := h.free (show k ≤ 10 by omega)
    rw [q1.blk.cell] at hv
    exact ⟨v, by simp [hk]; rw [show 1 + k = k + 1 by omega] at hv; simpa using hv, hr⟩
end Go.Proofs.Ytcdlfhheolbhaaa
