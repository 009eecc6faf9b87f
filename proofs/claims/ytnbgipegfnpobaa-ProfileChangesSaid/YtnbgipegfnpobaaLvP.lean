/-
  slices.SortFunc, slices.Grow and slices.Concat at levels.
-/
import Derived.Test.YtnbgipegfnpobaaLvO
import Derived.Test.YtnbgipegfnpobaaGrw
import Derived.Test.YtnbgipegfnpobaaShelf2
import Derived.Test.YtnbgipegfnpobaaShelf3
import Derived.Lib.SliceRun
namespace Go.Proofs.Ytnbgipegfnpobaa
open Go Go.ChangeShapes Go.WideShapes Go.ChangeAt Go.RowKit Go.Lib Go.Sort Go.Maps
set_option linter.unusedVariables false

def cmpV (x y : Lv) : Int := Lib.compareInt x.1 y.1
theorem ltV_iff (x y : Lv) : ltOf cmpV x y = true ↔ x.1 < y.1 := by unfold ltOf cmpV; rw [decide_eq_true_eq]; exact cmp_neg
theorem ltV_false (x y : Lv) : ltOf cmpV x y = false ↔ y.1 ≤ x.1 := by
  rw [← Bool.not_eq_true, ltV_iff]; omega
theorem swoV : SWO (ltOf cmpV) where
  irrefl x := by rw [ltV_false]; omega
  trans x y z h1 h2 := by rw [ltV_iff] at *; omega
  ntrans x y z h1 h2 := by rw [ltV_false] at *; omega
theorem closV (x1 x2 y1 y2 : Int) (w : World) :
    Calls Try.prog 42 #[.agg #[.int .i64 x1, .int .i64 x2], .agg #[.int .i64 y1, .int .i64 y2]] w fun e w' => e = .returned (.int .i64 (Lib.compareInt x1 y1)) ∧ Grw w w' := by
  have C : Hid (∀ w, Calls Try.prog 43 #[.int .i64 x1, .int .i64 y1] w fun e w' => e = .returned (.int .i64 (Lib.compareInt x1 y1)) ∧ w' = w) := fun w => Try.cmp_Compare_int x1 y1 w
  generalize Lib.compareInt x1 y1 = r at *
  go_enter Try.func42, Try.ntmps42
  go_wp2_with fail
  refine (C.out _).mono ?_; rintro e w1 ⟨rfl, hw⟩; subst hw
  go_wp2_with fail
  go_ret
  exact ⟨rfl, ⟨by go_grown, Nat.le_refl _⟩⟩
theorem encV_get! (x : Lv) (i : Nat) (h : i < 2) : (encV x)[i]? = some (encV x)[i]! := by
  rw [List.getElem!_eq_getElem?_getD, List.getElem?_eq_getElem (by simp [encV]; omega)]; rfl
theorem lv_toArray (xs : List Lv) (j : Nat) (h : j < xs.length) : xs.toArray[j]! = lv xs j := by
  rw [getElem!_pos _ j (by simpa using h)]
  have := lv_get h
  rw [List.getElem?_eq_getElem h] at this
  simpa using this
theorem flatV_eq (xs : List Lv) : flatK encV 2 xs.toArray = (flV xs).toArray := by
  apply Array.ext_getElem?
  intro t
  by_cases ht : t < xs.length * 2
  · have hj : t / 2 < xs.length := by omega
    have := flV_get xs (t / 2) (t % 2) hj (by omega)
    rw [show t / 2 * 2 + t % 2 = t by omega, encV_get! _ _ (by omega)] at this
    rw [show (flV xs).toArray[t]? = (flV xs)[t]? by simp, this]
    unfold flatK
    rw [Array.getElem?_map, Array.getElem?_range]
    simp only [List.size_toArray, ht, if_true, Option.map_some]
    rw [lv_toArray xs _ hj]
  · rw [Array.getElem?_eq_none (by simp; omega), Array.getElem?_eq_none (by simp [flV_len]; omega)]
theorem putFlatV (cur : Array Value) (ys : List Lv) (h : ys.length * 2 ≤ cur.size) : (putCells id 0 (flatK encV 2 ys.toArray) cur).toList.take (ys.length * 2) = flV ys := by
  rw [flatV_eq]
  apply List.ext_getElem?
  intro j
  by_cases hj : j < ys.length * 2
  · rw [List.getElem?_take_of_lt hj, Array.getElem?_toList]
    have hj' : j < (flV ys).length := by rw [flV_len]; exact hj
    simp [putCells, hj', show j < cur.size by omega]
  · rw [List.getElem?_take_eq_none (by omega), List.getElem?_eq_none (by rw [flV_len]; omega)]
theorem heap_sortedV {w : World} {g n : Nat} {os : Array Obj} {cur : Array Value} {e : TypeId} {fr : Nat × Nat} (d : Array Lv) (hb : w.heap[g]? = some (.cells cur e fr)) :
    (sortWorldK encV 2 w g 0 n d os).heap[g]? = some (.cells (putCells id 0 (flatK encV 2 d) cur) e fr) := by
  have hg : g < w.heap.size := (Array.getElem?_eq_some_iff.1 hb).1
  unfold sortWorldK putRowK
  rw [heap_grow_old _ _ (by simpa using hg)]
  simp [putRow, mapBlock, Sort.ahead, Array.getElem?_modify, hb, onCells]
theorem grownBy_sortedV {w : World} {g n : Nat} {os : Array Obj} (d : Array Lv) : w.grownBy (sortWorldK encV 2 w g 0 n d os) (some g) := by
  refine ⟨rfl, rfl, rfl, by simp [sortWorldK, putRowK], fun k hk hne => ?_⟩
  unfold sortWorldK putRowK
  rw [heap_grow_old _ _ (by simpa using hk)]
  have : g ≠ k := fun e => hne (by rw [e])
  simp [putRow, mapBlock, Sort.ahead, Array.getElem?_modify, this]
theorem holds_of_lown {w : World} {g cap : Nat} {cur : Array Value} {e : TypeId} {xs : List Lv} (hb : w.heap[g]? = some (.cells cur e (0, 0))) (ht : cur.toList.take (xs.length * 2) = flV xs) :
    HoldsK encV 2 w g 0 xs.toArray := by
  unfold HoldsK
  rw [flatV_eq]
  intro j hj
  have hj' : j < (flV xs).length := by simpa using hj
  have hj3 : j < xs.length * 2 := by rw [← flV_len]; exact hj'
  refine ⟨?_, by simp [World.frozen?, hb]⟩
  have h1 : (cur.toList.take (xs.length * 2))[j]? = (flV xs)[j]? := by rw [ht]
  rw [List.getElem?_take_of_lt hj3] at h1
  simp only [World.cell?, hb, Nat.zero_add]
  simp only [Option.isSome_none, Bool.false_eq_true, if_false]
  rw [← Array.getElem?_toList, h1]
  simp [hj']
theorem cmpLaysV (blk off size : Nat) (w : World) : CmpLays Try.prog 42 #[] encV 2 cmpV blk off size w :=
  fun _ _ _ _ x y => (closV x.1 x.2 y.1 y.2 _).mono fun _ _ ⟨he, hg⟩ => ⟨he, hg.form⟩

/-- slices.SortFunc at levels that the caller owns. -/
theorem sortV_own (base : Nat) (v : Value) (xs : List Lv) (w : World) (hn : xs.length ≤ 4194304) (h : LOwn w base v xs) :
    Calls Try.prog 41 #[v, .func (.func 42) #[] #[]] w
      fun e w' => e = .returned (.tuple #[]) ∧ ∃ S, S.Perm xs ∧ Weak S ∧ LOwn w' base v S ∧ w.grownBy w' v.ownBlock := by
  obtain ⟨hl, ⟨rfl, hn0⟩ | ⟨g, cap, cur, rfl, hg, hcur, hcap, hmax, hsz, htk⟩⟩ := id h
  · have hx := List.eq_nil_of_length_eq_zero hn0
    subst hx
    have hcon := AnyF.slices_SortFunc_none Try.sortLevel none 0 (.func (.func 42) #[] #[]) w
    exact Calls.mono (P := Try.prog) hcon fun e w' ⟨he, hw⟩ => by
      subst hw
      exact ⟨he, [], .refl _, trivial, h, ⟨rfl, rfl, rfl, Nat.le_refl _, fun _ _ _ => rfl⟩⟩
  · have eg : ∀ args w, (callFunc 42 args).run Try.prog w = .ok (.enter 42 args) w := enters_of Try.func42 (by kernel_rfl) rfl
    have hcon := AnyQ.slices_SortFunc Try.sortLevel 2 Try.isAgg49 Try.sizeOf49 encV (fun _ => rfl) (fun x v hv => by simp [encV] at hv; rcases hv with rfl | rfl <;> rfl) cmpV swoV 42 #[] g 0 cap xs.toArray w eg
      (cmpLaysV g 0 _ w) (holds_of_lown (cap := cap) hcur htk) (lt_of_block hcur) (by simp; omega)
    have hsz' : xs.toArray.size = xs.length := by simp
    rw [hsz'] at hcon
    exact Calls.mono (P := Try.prog) hcon fun e w' ⟨he, d, n, os, hp, hs, hw⟩ => by
      subst hw
      obtain ⟨hp1, _, hp3⟩ := hp
      rw [hsz'] at hp1
      have hd : (d.extract 0 xs.length).toList = d.toList := by rw [← hp1]; simp
      have hx : (xs.toArray.extract 0 xs.length).toList = xs := by simp
      rw [hd, hx] at hp3
      have hlen : d.toList.length = xs.length := by simpa using hp1
      refine ⟨he, d.toList, hp3, weak_of fun i hi => ?_, ?_, grownBy_sortedV _⟩
      · have h1 := hs i (i + 1) (Nat.zero_le _) (Nat.lt_succ_self _) (by omega)
        rw [ltV_false] at h1
        have e : ∀ j, j < d.toList.length → d[j]! = lv d.toList j := fun j hj => by have := lv_toArray d.toList j hj; simpa using this
        rw [e i (by omega), e (i + 1) hi] at h1
        exact h1
      · have ed : d.toList.toArray = d := by simp
        have := putFlatV cur d.toList (by rw [hlen, hsz]; omega)
        rw [ed] at this
        unfold LOwn
        rw [hlen]
        rw [hlen] at this
        exact ⟨by rw [flV_len, hlen], .inr ⟨g, cap, _, rfl, hg, heap_sortedV _ hcur, hcap, hmax, by simp [putCells, hsz], this⟩⟩

theorem src_lv {w : World} {v : Value} {xs : List Lv} (h : LRow w v xs) : Src w 2 v xs.length (flV xs) := by
  refine ⟨flV_len xs, ?_⟩
  rcases h with ⟨rfl, a, c, rfl, _⟩ | ⟨b, off, c, rfl, h0, h1, h2, hc⟩
  · cases a with
    | none => exact .inl ⟨c, rfl, rfl⟩
    | some a => exact .inr ⟨a, c, rfl, fun j u hj => by simp [flV] at hj⟩
  · exact .inr ⟨_, c, rfl, newsV_of_row hc⟩
theorem growLevels (n : Nat) (w : World) (hn : n ≤ 4194304) :
    Calls Try.prog 49 #[.slice none 0 0, .int .i64 n] w fun e w' => ∃ v', e = .returned v' ∧ w'.ownsRow w.heap.size 49 2 v' 0 [] ∧ Below w.heap.size w w' := by
  obtain ⟨i0, hi, hz0, hz1, hz2⟩ := info_parts Try.infoLv
  rcases Nat.eq_zero_or_pos n with h0 | h0
  · subst h0
    have h := Any8.slices_Grow_room Try.growLevel none 0 0 0 w (Nat.le_refl _) (by omega) (by omega) (Nat.le_refl _)
    exact Calls.mono (P := Try.prog) h fun e w' ⟨he, hw⟩ => by
      subst hw
      exact ⟨_, he, World.ownsRow_nil _ _ _ _, Below.refl _ _⟩
  · have h := Any8.slices_Grow_grow Try.growLevel i0 _ hi hz0 (by omega) none 0 0 n [] w (Nat.le_refl _) (by omega) (by rw [hz2]; omega) (by omega) (by simp) (fun _ => rfl) (fun a ha => nomatch ha)
    exact Calls.mono (P := Try.prog) h fun e w' ⟨he, hw⟩ => by
      subst hw
      have hG : 0 + n ≤ grownCap w (0 + n) 0 49 := grownCap_ge w _ _ _
      have hG2 : grownCap w (0 + n) 0 49 ≤ maxLen := grownCap_le_maxLen w _ _ _ (by unfold maxLen; omega)
      refine ⟨_, he, ?_, ((Below.refl _ w).drew).alloc (by simp) _⟩
      refine World.ownsRow_made (e := 49) (size := 2) (base := w.heap.size) w.drew _ _ (Nat.le_refl _) hG2 ?_
      have hz3 : (Value.agg #[.int .i64 0, .int .i64 0]).cells.size = 2 := rfl
      have h25 : Try.growLevel_ren.t 25 = 49 := rfl
      rw [h25]
      generalize grownCap w (0 + n) 0 49 = G at *
      simp only [Builtin.zeroCells, hz3, Array.size_append, Array.size_map, Array.size_range, List.size_toArray, List.length_nil]
      omega

set_option maxRecDepth 100000 in
set_option maxHeartbeats 1000000 in
theorem concatV_any (B : Nat) (va vb : Value) (xs ys : List Lv) (t : TypeId) (w : World) (hn : xs.length ≤ 1048576) (hn' : ys.length ≤ 1048576) (ha : LRow w va xs) (hb : LRow w vb ys) (hB : Blk w B #[va, vb] t) :
    Calls Try.prog 40 #[.slice (some ⟨B, 0, none⟩) 2 2] w
      fun e w' => ∃ v', e = .returned v' ∧ LOwn w' w.heap.size v' (xs ++ ys) ∧ Below w.heap.size w w' := by
  obtain ⟨i0, hi, hz0, hz1, hz2⟩ := info_parts Try.infoLv
  have SA := Lib.hid (src_lv ha)
  have SB := Lib.hid (src_lv hb)
  have HB := Lib.hid hB
  obtain ⟨a, c, rfl⟩ := LRow.slice ha
  obtain ⟨a', c', rfl⟩ := LRow.slice hb
  unfold LOwn
  have E := Lib.hid (flV_append xs ys)
  have EL : Hid ((xs ++ ys).length = xs.length + ys.length) := List.length_append
  have HG : Hid (∀ w1, Calls Try.prog 49 #[.slice none 0 0, .int .i64 ((xs.length : Int) + ys.length)] w1 fun e w' => ∃ v', e = .returned v' ∧ w'.ownsRow w1.heap.size 49 2 v' 0 [] ∧ Below w1.heap.size w1 w') := by
    intro w1
    have := growLevels (xs.length + ys.length) w1 (by omega)
    rw [Int.natCast_add] at this; exact this
  have H1 : Hid (∀ u ∈ flV xs, u.oneCell' = true) := flV_one xs
  have H2 : Hid (∀ u ∈ flV ys, u.oneCell' = true) := flV_one ys
  have c0 := hB.cell 0; simp at c0
  have c1 := hB.cell 1; simp at c1
  clear ha hb hB
  generalize flV (xs ++ ys) = fl at *
  generalize (xs ++ ys).length = nl at *
  generalize flV xs = fx at *
  generalize flV ys = fy at *
  generalize hx : xs.length = n at *
  generalize hy : ys.length = m at *
  clear hx hy
  go_enter Try.func40, Try.ntmps40
  go_wp2_with fail
  refine wp_loop_rounds 3 ?_
  rw [rounds_succ]
  go_wp2_with fail
  rw [rounds_succ]
  go_wp2_with fail
  rw [rounds_succ]
  go_wp2_with fail
  refine (HG.out _).mono ?_; rintro e w1 ⟨v1, rfl, ho1, b1⟩
  have B1 := Lib.hid b1
  have HB1 := HB.out.kept b1
  have d0 := HB1.cell 0; simp at d0
  have d1 := HB1.cell 1; simp at d1
  clear c0 c1
  go_wp2_with fail
  refine wp_loop_rounds 3 ?_
  rw [rounds_succ]
  go_wp2_with (at_builtin; refine wpList_app rfl _ _ 22 rfl w.heap.size 49 i0 _ 2 16 Try.underlying22 hi hz0 hz1 hz2 rfl (by decide) _ 0 [] rfl ho1 _ n fx rfl (SA.out.kept B1.out) H1.out (by unfold maxLen; omega) (by omega) B1.out.size ?_; intro v2 w2 ho2 hg2 hl2)
  have B2 : Hid (Below w.heap.size w w2) := B1.out.grown hg2 B1.out.size (fun j hj => (ho1.lt j hj).1)
  have HB2 := HB.out.kept B2.out
  have e1 := HB2.cell 1; simp at e1
  clear d0 d1
  rw [rounds_succ]
  go_wp2_with (at_builtin; refine wpList_app rfl _ _ 22 rfl w.heap.size 49 i0 _ 2 16 Try.underlying22 hi hz0 hz1 hz2 rfl (by decide) _ (0 + n) ([] ++ fx) rfl ho2 _ m fy rfl (SB.out.kept B2.out) H2.out (by unfold maxLen; omega) (by omega) B2.out.size ?_; intro v3 w3 ho3 hg3 hl3)
  rw [rounds_succ]
  go_wp2_with fail
  go_ret
  refine ⟨v3, rfl, ?_, B2.out.grown hg3 B2.out.size (fun j hj => (ho2.lt j hj).1)⟩
  rw [Nat.zero_add, List.nil_append] at ho3
  rw [E.out, EL.out]; exact ho3
end Go.Proofs.Ytnbgipegfnpobaa
