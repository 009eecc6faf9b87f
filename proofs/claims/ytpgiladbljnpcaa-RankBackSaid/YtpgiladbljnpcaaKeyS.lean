/-
  slices.Clone and slices.SortFunc at keys; rank.Sort: at any keys.
-/
import Derived.Test.YtpgiladbljnpcaaKeyE
import Derived.Test.YtpgiladbljnpcaaShelf2
import Derived.Shelf.SlSortCmp.NoneTotal
import Derived.Maps.AppendAt
import Derived.Lib.SliceRun
namespace Go.Proofs.Ytpgiladbljnpcaa
open Go.ChangeShapes Go.WideShapes Go.ChangeAt Go.RowKit Go.Lib Go.Sort Go.Maps
set_option linter.unusedVariables false

theorem Try.infoKey : (Try.prog.info? 24).map (fun i => (i.zero, i.size, i.bytes)) = some (some (.agg #[.int .i64 0, .int .i64 0, .int .u32 0]), 3, 24) := by kernel_rfl

/-- The keys' cells, one behind the other. -/
def flatL (xs : List Key) : List Value := xs.flatMap encK
theorem flatL_len (xs : List Key) : (flatL xs).length = xs.length * 3 := by
  induction xs with
  | nil => rfl
  | cons x xs ih => show (encK x ++ flatL xs).length = _; rw [List.length_append, ih]; simp [encK]; omega
theorem flatL_append (xs ys : List Key) : flatL (xs ++ ys) = flatL xs ++ flatL ys := by simp [flatL]
theorem flatL_get (xs : List Key) : ∀ j i, j < xs.length → i < 3 → (flatL xs)[j * 3 + i]? = (encK (at_ xs j))[i]? := by
  induction xs with
  | nil => intro j i h; simp at h
  | cons x xs ih =>
    intro j i hj hi
    show (encK x ++ flatL xs)[j * 3 + i]? = _
    rw [List.getElem?_append]
    cases j with
    | zero => rw [if_pos (by simp [encK]; omega)]; simp [at_]
    | succ j =>
      rw [if_neg (by simp [encK]; omega)]
      have e : (j + 1) * 3 + i - (encK x).length = j * 3 + i := by simp [encK]; omega
      rw [e, ih j i (by simpa using hj) hi]
      rfl
theorem flatL_one (xs : List Key) : ∀ u ∈ flatL xs, u.oneCell' = true := by
  intro u hu
  obtain ⟨x, _, hx⟩ := List.mem_flatMap.1 hu
  simp [encK] at hx
  rcases hx with rfl | rfl | rfl <;> rfl
theorem encK_get! (x : Key) (i : Nat) (h : i < 3) : (encK x)[i]? = some (encK x)[i]! := by
  rw [List.getElem!_eq_getElem?_getD, List.getElem?_eq_getElem (by simp [encK]; omega)]; rfl
theorem at_toArray (xs : List Key) (j : Nat) (h : j < xs.length) : xs.toArray[j]! = at_ xs j := by
  rw [getElem!_pos _ j (by simpa using h)]; simp [at_getElem h]
theorem flatK_eq (xs : List Key) : flatK encK 3 xs.toArray = (flatL xs).toArray := by
  apply Array.ext_getElem?
  intro t
  by_cases ht : t < xs.length * 3
  · have hj : t / 3 < xs.length := by omega
    have := flatL_get xs (t / 3) (t % 3) hj (by omega)
    rw [show t / 3 * 3 + t % 3 = t by omega, encK_get! _ _ (by omega)] at this
    rw [show (flatL xs).toArray[t]? = (flatL xs)[t]? by simp, this]
    unfold flatK
    rw [Array.getElem?_map, Array.getElem?_range]
    simp only [List.size_toArray, ht, if_true, Option.map_some]
    rw [at_toArray xs _ hj]
  · rw [Array.getElem?_eq_none (by simp; omega), Array.getElem?_eq_none (by simp [flatL_len]; omega)]

/-- What is owned may be read. -/
theorem krow_of_owns {w : World} {base : Nat} {v : Value} {xs : List Key} (h : w.ownsRow base 24 3 v xs.length (flatL xs)) : KRow w v xs := by
  obtain ⟨hl, ⟨rfl, hn⟩ | ⟨g, cap, cur, rfl, hg, hcur, hcap, hmax, hsz, htk⟩⟩ := h
  · exact .inl ⟨List.eq_nil_of_length_eq_zero hn, none, 0, rfl, Nat.zero_le _⟩
  · rcases Nat.eq_zero_or_pos xs.length with h0 | h0
    · rw [h0]; exact .inl ⟨List.eq_nil_of_length_eq_zero h0, some ⟨g, 0, none⟩, cap, rfl, hmax⟩
    · refine .inr ⟨g, 0, cap, rfl, h0, hcap, hmax, lt_of_block hcur, fun j hj => ?_⟩
      have hc : ∀ i, i < 3 → w.cell? ⟨g, 0 + j * 3 + i, none⟩ = (encK (at_ xs j))[i]? := by
        intro i hi
        rw [← flatL_get xs j i hj hi, ← htk, List.getElem?_take_of_lt (by omega)]
        simp [World.cell?, hcur]
      refine ⟨?_, ?_, ?_⟩
      · have := hc 0 (by omega); exact this
      · have := hc 1 (by omega); exact this
      · have := hc 2 (by omega); exact this
theorem news_of_row {w : World} {b off : Nat} {xs : List Key} (h : KCells w b off xs) : ∀ j u, (flatL xs)[j]? = some u → w.cell? ((⟨b, off, none⟩ : Addr).add j) = some u := by
  intro t u hu
  have ht : t < xs.length * 3 := by rw [← flatL_len]; exact (List.getElem?_eq_some_iff.1 hu).1
  have hj : t / 3 < xs.length := by omega
  have h1 := flatL_get xs (t / 3) (t % 3) hj (by omega)
  rw [show t / 3 * 3 + t % 3 = t by omega, hu] at h1
  rw [Addr.add_lit]
  obtain ⟨h2, h3, h4⟩ := h.2 (t / 3) hj
  have e : t = t / 3 * 3 + t % 3 := by omega
  rcases (by omega : t % 3 = 0 ∨ t % 3 = 1 ∨ t % 3 = 2) with hm | hm | hm
  · rw [hm] at e h1; rw [e, ← Nat.add_assoc, Nat.add_zero]; rw [h2, h1]; rfl
  · rw [hm] at e h1; rw [e, ← Nat.add_assoc]; rw [h3, h1]; rfl
  · rw [hm] at e h1; rw [e, ← Nat.add_assoc]; rw [h4, h1]; rfl

set_option maxRecDepth 100000 in
/-- slices.Clone at keys. -/
theorem clone_some (a : Addr) (c : Nat) (xs : List Key) (w : World) (hn : xs.length ≤ 1048576) (hc : ∀ j u, (flatL xs)[j]? = some u → w.cell? (a.add j) = some u) :
    Calls Try.prog 35 #[.slice (some a) xs.length c] w
      fun e w' => ∃ v', e = .returned v' ∧ w'.ownsRow w.heap.size 24 3 v' xs.length (flatL xs) ∧ Below w.heap.size w w' := by
  obtain ⟨i0, hi, hz0, hz1, hz2⟩ := info_parts Try.infoKey
  have HC := Lib.hid hc
  clear hc
  have q : ∀ (w : World) (a : Option Addr) (n c n' c' : Nat), (binOp .eql 28 (.slice a n c) (.slice none n' c')).run Try.prog w = .ok (.bool a.isNone) w := fun w a n c n' c' => Lib.run_eql_slice_nil w _ _ a n c n' c' Try.underlying28
  go_enter Try.func35, Try.ntmps35
  go_wp2_with (at_builtin; refine wpList_append_own _ rfl _ _ 28 rfl w.heap.size 24 i0 _ 3 24 Try.underlying28 hi hz0 hz1 hz2 rfl (by decide) _ _ _ rfl (World.ownsRow_made w #[] 0 (Nat.le_refl _) (Nat.zero_le _) (by simp)) a xs.length c (flatL xs) rfl (flatL_len xs) ?qc1 (flatL_one xs) ?qc2 ?qc3 ?qc4 ?_)
  case qc1 => exact fun j u hj => Lib.cell?_alloc_some _ (HC.out j u hj)
  case qc2 => unfold maxLen; omega
  case qc3 => omega
  case qc4 => simp
  intro v' w1 hown hgrow hnil
  go_wp2_with fail
  go_ret
  exact ⟨v', rfl, by simpa using hown, ((Below.refl _ w).alloc (Nat.le_refl _) _).grown hgrow (by simp) (by intro k hk; simp [Value.ownBlock] at hk; omega)⟩
theorem clone_none (n c : Nat) (w : World) :
    Calls Try.prog 35 #[.slice none n c] w fun e w' => e = .returned (.slice none 0 0) ∧ Below w.heap.size w w' := by
  have q : ∀ (w : World) (a : Option Addr) (n c n' c' : Nat), (binOp .eql 28 (.slice a n c) (.slice none n' c')).run Try.prog w = .ok (.bool a.isNone) w := fun w a n c n' c' => Lib.run_eql_slice_nil w _ _ a n c n' c' Try.underlying28
  go_enter Try.func35, Try.ntmps35
  go_wp2_with fail
  go_ret
  exact ⟨rfl, Below.refl _ _⟩
theorem clone_any (v : Value) (xs : List Key) (w : World) (hn : xs.length ≤ 1048576) (h : KRow w v xs) :
    Calls Try.prog 35 #[v] w
      fun e w' => ∃ v', e = .returned v' ∧ w'.ownsRow w.heap.size 24 3 v' xs.length (flatL xs) ∧ Below w.heap.size w w' := by
  rcases h with ⟨rfl, a, c, rfl, _⟩ | ⟨b, off, c, rfl, h0, h1, h2, hc⟩
  · cases a with
    | none => exact (clone_none 0 c w).mono fun e w' ⟨he, hb⟩ => ⟨_, he, World.ownsRow_nil _ _ _ _, hb⟩
    | some a => exact clone_some a c [] w (by simp) (fun j u hj => by simp [flatL] at hj)
  · exact clone_some _ c xs w hn (news_of_row hc)

theorem putFlat (cur : Array Value) (ys : List Key) (h : ys.length * 3 ≤ cur.size) : (putCells id 0 (flatK encK 3 ys.toArray) cur).toList.take (ys.length * 3) = flatL ys := by
  rw [flatK_eq]
  apply List.ext_getElem?
  intro j
  by_cases hj : j < ys.length * 3
  · rw [List.getElem?_take_of_lt hj, Array.getElem?_toList]
    have hj' : j < (flatL ys).length := by rw [flatL_len]; exact hj
    simp [putCells, hj', show j < cur.size by omega]
  · rw [List.getElem?_take_eq_none (by omega), List.getElem?_eq_none (by rw [flatL_len]; omega)]
theorem heap_sortedK {w : World} {g n : Nat} {os : Array Obj} {cur : Array Value} {e : TypeId} {fr : Nat × Nat} (d : Array Key) (hb : w.heap[g]? = some (.cells cur e fr)) :
    (sortWorldK encK 3 w g 0 n d os).heap[g]? = some (.cells (putCells id 0 (flatK encK 3 d) cur) e fr) := by
  have hg : g < w.heap.size := (Array.getElem?_eq_some_iff.1 hb).1
  unfold sortWorldK putRowK
  rw [heap_grow_old _ _ (by simpa using hg)]
  simp [putRow, mapBlock, Sort.ahead, Array.getElem?_modify, hb, onCells]
theorem grownBy_sortedK {w : World} {g n : Nat} {os : Array Obj} (d : Array Key) : w.grownBy (sortWorldK encK 3 w g 0 n d os) (some g) := by
  refine ⟨rfl, rfl, rfl, by simp [sortWorldK, putRowK], fun k hk hne => ?_⟩
  unfold sortWorldK putRowK
  rw [heap_grow_old _ _ (by simpa using hk)]
  have : g ≠ k := fun e => hne (by rw [e])
  simp [putRow, mapBlock, Sort.ahead, Array.getElem?_modify, this]
theorem holds_of_owns {w : World} {g cap : Nat} {cur : Array Value} {e : TypeId} {xs : List Key} (hb : w.heap[g]? = some (.cells cur e (0, 0))) (ht : cur.toList.take (xs.length * 3) = flatL xs) :
    HoldsK encK 3 w g 0 xs.toArray := by
  unfold HoldsK
  rw [flatK_eq]
  intro j hj
  have hj' : j < (flatL xs).length := by simpa using hj
  have hj3 : j < xs.length * 3 := by rw [← flatL_len]; exact hj'
  refine ⟨?_, by simp [World.frozen?, hb]⟩
  have h1 : (cur.toList.take (xs.length * 3))[j]? = (flatL xs)[j]? := by rw [ht]
  rw [List.getElem?_take_of_lt hj3] at h1
  simp only [World.cell?, hb, Nat.zero_add]
  simp only [Option.isSome_none, Bool.false_eq_true, if_false]
  rw [← Array.getElem?_toList, h1]
  simp [hj']

theorem cmpLays (blk off size : Nat) (w : World) : CmpLays Try.prog 32 #[] encK 3 cmpK blk off size w :=
  fun _ _ _ _ x y => (compare_any x y _).mono fun _ _ ⟨he, hg⟩ => ⟨he, hg.form⟩

/-- slices.SortFunc at keys that the caller owns. -/
theorem sortFunc_own (base : Nat) (v : Value) (xs : List Key) (w : World) (hn : xs.length ≤ 1048576) (h : w.ownsRow base 24 3 v xs.length (flatL xs)) :
    Calls Try.prog 36 #[v, .func (.func 32) #[] #[]] w
      fun e w' => e = .returned (.tuple #[]) ∧ w'.ownsRow base 24 3 v xs.length (flatL (sortK xs)) ∧ w.grownBy w' v.ownBlock := by
  have hlen : (sortK xs).length = xs.length := (sortK_perm xs).length_eq
  obtain ⟨hl, ⟨rfl, hn0⟩ | ⟨g, cap, cur, rfl, hg, hcur, hcap, hmax, hsz, htk⟩⟩ := id h
  · have hx := List.eq_nil_of_length_eq_zero hn0
    subst hx
    have hcon := AnyF.slices_SortFunc_none Try.sortKey none 0 (.func (.func 32) #[] #[]) w
    exact Calls.mono (P := Try.prog) hcon fun e w' ⟨he, hw⟩ => by
      subst hw
      exact ⟨he, by have : sortK [] = [] := by simp [sortK]
                    rw [this]; exact h, ⟨rfl, rfl, rfl, Nat.le_refl _, fun _ _ _ => rfl⟩⟩
  · have eg : ∀ args w, (callFunc 32 args).run Try.prog w = .ok (.enter 32 args) w := enters_of Try.func32 (by kernel_rfl) rfl
    have hcon := AnyQ.slices_SortFunc_total Try.sortKey 3 Try.isAgg24 Try.sizeOf24 encK (fun _ => rfl) (fun x v hv => by simp [encK] at hv; rcases hv with rfl | rfl | rfl <;> rfl) cmpK swoK 32 #[] g 0 cap xs.toArray w eg
      (cmpLays g 0 _ w) (holds_of_owns (cap := cap) hcur htk) (lt_of_block hcur) (by simp; omega) (fun x y => totK x y)
    have hsz' : xs.toArray.size = xs.length := by simp
    rw [hsz'] at hcon
    exact Calls.mono (P := Try.prog) hcon fun e w' ⟨he, n, os, hw⟩ => by
      subst hw
      have e1 : (xs.toArray.toList.mergeSort fun x y => !(ltOf cmpK) y x).toArray = (sortK xs).toArray := by simp [sortK]
      rw [e1]
      refine ⟨he, ⟨by rw [flatL_len, hlen], .inr ⟨g, cap, _, rfl, hg, heap_sortedK _ hcur, hcap, hmax, by simp [putCells, hsz], ?_⟩⟩, grownBy_sortedK _⟩
      rw [← hlen]; exact putFlat cur (sortK xs) (by rw [hlen, hsz]; omega)

theorem nil_tuple : (Value.tuple #[.slice none 0 0, .int .i64 30]) = .tuple #[.slice none 0 0, .int .i64 30] := rfl
/-- rank.Sort: keys of which two have one number. -/
theorem sort_twice (v : Value) (xs : List Key) (w : World) (hn : xs.length ≤ 1048576) (hid : ∀ x ∈ xs, (Lit.int .u32 x.2.2).wf = true) (h : KRow w v xs) (ht : twiceB xs = true) :
    Calls Try.prog 16 #[v] w fun e w' => e = .returned (.tuple #[.slice none 0 0, .int .i64 30]) ∧ Below w.heap.size w w' := by
  have H1 : Hid (Calls Try.prog 33 #[v] w fun e w' => e = .returned (.bool true) ∧ Below w.heap.size w w') := by have := anyTwice_any v xs w hn hid h; rw [ht] at this; exact this
  clear hn hid h ht
  go_enter Try.func16, Try.ntmps16
  go_wp2_with fail
  refine H1.out.mono ?_; rintro e w1 ⟨rfl, b1⟩
  go_wp2_with fail
  go_ret2
  exact ⟨rfl, b1⟩
/-- rank.Sort: keys of which each has a number of its own. -/
theorem sort_ok (v : Value) (xs : List Key) (w : World) (hn : xs.length ≤ 1048576) (hid : ∀ x ∈ xs, (Lit.int .u32 x.2.2).wf = true) (h : KRow w v xs) (ht : twiceB xs = false) :
    Calls Try.prog 16 #[v] w fun e w' => ∃ v', e = .returned (.tuple #[v', .int .i64 0]) ∧ w'.ownsRow w.heap.size 24 3 v' xs.length (flatL (sortK xs)) ∧ Below w.heap.size w w' := by
  have H1 : Hid (Calls Try.prog 33 #[v] w fun e w' => e = .returned (.bool false) ∧ Below w.heap.size w w') := by have := anyTwice_any v xs w hn hid h; rw [ht] at this; exact this
  have H2 : Hid (∀ w1, Below w.heap.size w w1 → Calls Try.prog 35 #[v] w1
      fun e w' => ∃ v', e = .returned v' ∧ w'.ownsRow w1.heap.size 24 3 v' xs.length (flatL xs) ∧ Below w1.heap.size w1 w') := fun w1 hb => clone_any v xs w1 hn (h.kept hb)
  have H3 : Hid (∀ base v' w1, w1.ownsRow base 24 3 v' xs.length (flatL xs) → Calls Try.prog 36 #[v', .func (.func 32) #[] #[]] w1
      fun e w' => e = .returned (.tuple #[]) ∧ w'.ownsRow base 24 3 v' xs.length (flatL (sortK xs)) ∧ w1.grownBy w' v'.ownBlock) := fun base v' w1 ho => sortFunc_own base v' xs w1 hn ho
  clear hn hid h ht
  go_enter Try.func16, Try.ntmps16
  go_wp2_with fail
  refine H1.out.mono ?_; rintro e w1 ⟨rfl, b1⟩
  go_wp2_with fail
  refine (H2.out _ b1).mono ?_; rintro e w2 ⟨v', rfl, ho2, b2⟩
  have HO := Lib.hid ho2
  clear ho2
  go_wp2_with fail
  refine (H3.out _ _ _ HO.out).mono ?_; rintro e w3 ⟨rfl, ho3, g3⟩
  go_wp2_with fail
  go_ret2
  refine ⟨v', rfl, ?_, ?_⟩
  · have hs := b1.size
    obtain ⟨hl, h' | ⟨g, cap, cur, hv, hg, r⟩⟩ := ho3
    · exact ⟨hl, .inl h'⟩
    · exact ⟨hl, .inr ⟨g, cap, cur, hv, by omega, r⟩⟩
  · refine (below_next b2 b1).grown g3 (by have := b1.size; have := b2.size; omega) (fun k hk => ?_)
    have := (HO.out.lt k hk).1
    have := b1.size
    omega
end Go.Proofs.Ytpgiladbljnpcaa
