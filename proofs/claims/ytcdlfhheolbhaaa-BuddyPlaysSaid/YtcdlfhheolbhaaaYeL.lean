/-
  slices.SortFunc at blocks.
-/
import Derived.Test.YtcdlfhheolbhaaaYeK
import Derived.Test.YtcdlfhheolbhaaaGrw
import Derived.Test.YtcdlfhheolbhaaaShelf2
import Derived.Lib.SliceRun
namespace Go.Proofs.Ytcdlfhheolbhaaa
open Go Go.ChangeShapes Go.WideShapes Go.ChangeAt Go.RowKit Go.Lib Go.Sort Go.Maps
set_option linter.unusedVariables false

def cmpS (x y : Bk) : Int := Lib.compareInt (x.1 : Int) (y.1 : Int)
theorem ltS_iff (x y : Bk) : ltOf cmpS x y = true ↔ x.1 < y.1 := by unfold ltOf cmpS; rw [decide_eq_true_eq, cmpF_neg]; omega
theorem ltS_false (x y : Bk) : ltOf cmpS x y = false ↔ y.1 ≤ x.1 := by
  rw [← Bool.not_eq_true, ltS_iff]; omega
theorem swoS : SWO (ltOf cmpS) where
  irrefl x := by rw [ltS_false]; omega
  trans x y z h1 h2 := by rw [ltS_iff] at *; omega
  ntrans x y z h1 h2 := by rw [ltS_false] at *; omega
theorem closS (x1 x2 y1 y2 : Int) (w : World) :
    Calls Try.prog 43 #[.agg #[.int .i64 x1, .int .i64 x2], .agg #[.int .i64 y1, .int .i64 y2]] w fun e w' => e = .returned (.int .i64 (Lib.compareInt x1 y1)) ∧ Grw w w' := by
  have C : Hid (∀ w, Calls Try.prog 44 #[.int .i64 x1, .int .i64 y1] w fun e w' => e = .returned (.int .i64 (Lib.compareInt x1 y1)) ∧ w' = w) := fun w => Try.cmp_Compare_int x1 y1 w
  generalize Lib.compareInt x1 y1 = r at *
  go_enter Try.func43, Try.ntmps43
  go_wp2_with fail
  refine (C.out _).mono ?_; rintro e w1 ⟨rfl, hw⟩; subst hw
  go_wp2_with fail
  go_ret
  exact ⟨rfl, ⟨by go_grown, Nat.le_refl _⟩⟩
theorem bk_toArray (xs : List Bk) (j : Nat) (h : j < xs.length) : xs.toArray[j]! = xs[j] := by
  rw [getElem!_pos _ j (by simpa using h)]; simp
theorem flatS_eq (xs : List Bk) : flatK blkC 2 xs.toArray = (blkL xs).toArray := by
  apply Array.ext_getElem?
  intro t
  by_cases ht : t < xs.length * 2
  · have hj : t / 2 < xs.length := by omega
    have := blkL_get hj (show t % 2 < 2 by omega)
    rw [show t / 2 * 2 + t % 2 = t by omega] at this
    rw [show (blkL xs).toArray[t]? = (blkL xs)[t]? by simp, this]
    unfold flatK
    rw [Array.getElem?_map, Array.getElem?_range]
    simp only [List.size_toArray, ht, if_true, Option.map_some]
    rw [bk_toArray xs _ hj]
  · rw [Array.getElem?_eq_none (by simp; omega), Array.getElem?_eq_none (by simp [blkL_len]; omega)]
theorem putFlatS (cur : Array Value) (ys : List Bk) (h : ys.length * 2 ≤ cur.size) : (putCells id 0 (flatK blkC 2 ys.toArray) cur).toList.take (ys.length * 2) = blkL ys := by
  rw [flatS_eq]
  apply List.ext_getElem?
  intro j
  by_cases hj : j < ys.length * 2
  · rw [List.getElem?_take_of_lt hj, Array.getElem?_toList]
    have hj' : j < (blkL ys).length := by rw [blkL_len]; exact hj
    simp [putCells, hj', show j < cur.size by omega]
  · rw [List.getElem?_take_eq_none (by omega), List.getElem?_eq_none (by rw [blkL_len]; omega)]
theorem heap_sortedS {w : World} {g n : Nat} {os : Array Obj} {cur : Array Value} {e : TypeId} {fr : Nat × Nat} (d : Array Bk) (hb : w.heap[g]? = some (.cells cur e fr)) :
    (sortWorldK blkC 2 w g 0 n d os).heap[g]? = some (.cells (putCells id 0 (flatK blkC 2 d) cur) e fr) := by
  have hg : g < w.heap.size := (Array.getElem?_eq_some_iff.1 hb).1
  unfold sortWorldK putRowK
  rw [heap_grow_old _ _ (by simpa using hg)]
  simp [putRow, mapBlock, Sort.ahead, Array.getElem?_modify, hb, onCells]
theorem grownBy_sortedS {w : World} {g n : Nat} {os : Array Obj} (d : Array Bk) : w.grownBy (sortWorldK blkC 2 w g 0 n d os) (some g) := by
  refine ⟨rfl, rfl, rfl, by simp [sortWorldK, putRowK], fun k hk hne => ?_⟩
  unfold sortWorldK putRowK
  rw [heap_grow_old _ _ (by simpa using hk)]
  have : g ≠ k := fun e => hne (by rw [e])
  simp [putRow, mapBlock, Sort.ahead, Array.getElem?_modify, this]
theorem holds_of_bown {w : World} {g cap : Nat} {cur : Array Value} {e : TypeId} {xs : List Bk} (hb : w.heap[g]? = some (.cells cur e (0, 0))) (ht : cur.toList.take (xs.length * 2) = blkL xs) :
    HoldsK blkC 2 w g 0 xs.toArray := by
  unfold HoldsK
  rw [flatS_eq]
  intro j hj
  have hj' : j < (blkL xs).length := by simpa using hj
  have hj3 : j < xs.length * 2 := by rw [← blkL_len]; exact hj'
  refine ⟨?_, by simp [World.frozen?, hb]⟩
  have h1 : (cur.toList.take (xs.length * 2))[j]? = (blkL xs)[j]? := by rw [ht]
  rw [List.getElem?_take_of_lt hj3] at h1
  simp only [World.cell?, hb, Nat.zero_add]
  simp only [Option.isSome_none, Bool.false_eq_true, if_false]
  rw [← Array.getElem?_toList, h1]
  simp [hj']
theorem cmpLaysS (blk off size : Nat) (w : World) : CmpLays Try.prog 43 #[] blkC 2 cmpS blk off size w :=
  fun _ _ _ _ x y => (closS x.1 x.2 y.1 y.2 _).mono fun _ _ ⟨he, hg⟩ => ⟨he, hg.form⟩
def WeakS (l : List Bk) : Prop := ∀ i, (h : i + 1 < l.length) → l[i].1 ≤ l[i + 1].1
theorem sortS_own (base : Nat) (v : Value) (xs : List Bk) (w : World) (hn : xs.length ≤ 4194304) (h : BOwn w base v xs) :
    Calls Try.prog 42 #[v, .func (.func 43) #[] #[]] w
      fun e w' => e = .returned (.tuple #[]) ∧ ∃ S, S.Perm xs ∧ WeakS S ∧ BOwn w' base v S ∧ w.grownBy w' v.ownBlock := by
  obtain ⟨hl, ⟨rfl, hn0⟩ | ⟨g, cap, cur, rfl, hg, hcur, hcap, hmax, hsz, htk⟩⟩ := id h
  · have hx := List.eq_nil_of_length_eq_zero hn0
    subst hx
    have hcon := AnyF.slices_SortFunc_none Try.sortBlock none 0 (.func (.func 43) #[] #[]) w
    exact Calls.mono (P := Try.prog) hcon fun e w' ⟨he, hw⟩ => by
      subst hw
      exact ⟨he, [], .refl _, fun i h => by simp at h, h, ⟨rfl, rfl, rfl, Nat.le_refl _, fun _ _ _ => rfl⟩⟩
  · have eg : ∀ args w, (callFunc 43 args).run Try.prog w = .ok (.enter 43 args) w := enters_of Try.func43 (by kernel_rfl) rfl
    have hcon := AnyQ.slices_SortFunc Try.sortBlock 2 Try.isAgg45 Try.sizeOf45 blkC (fun _ => rfl) (fun x v hv => by simp [blkC] at hv; rcases hv with rfl | rfl <;> rfl) cmpS swoS 43 #[] g 0 cap xs.toArray w eg
      (cmpLaysS g 0 _ w) (holds_of_bown (cap := cap) hcur htk) (lt_of_block hcur) (by simp; omega)
    have hsz' : xs.toArray.size = xs.length := by simp
    rw [hsz'] at hcon
    exact Calls.mono (P := Try.prog) hcon fun e w' ⟨he, d, n, os, hp, hs, hw⟩ => by
      subst hw
      obtain ⟨hp1, _, hp3⟩ := hp
      rw [hsz'] at hp1
      have hd : (d.extract 0 xs.length).toList = d.toList := by rw [← hp1]; simp
      have hx : (xs.toArray.extract 0 xs.length).toList = xs := by simp
      rw [hd, hx] at hp3
      have hlen : d.toList.length = xs.length := by simpa using hp1
      refine ⟨he, d.toList, hp3, fun i hi => ?_, ?_, grownBy_sortedS _⟩
      · have h1 := hs i (i + 1) (Nat.zero_le _) (Nat.lt_succ_self _) (by omega)
        rw [ltS_false] at h1
        have e : ∀ j, (hj : j < d.toList.length) → d[j]! = d.toList[j] := fun j hj => by have := bk_toArray d.toList j hj; simpa using this
        rw [e i (by omega), e (i + 1) hi] at h1
        exact h1
      · have ed : d.toList.toArray = d := by simp
        have := putFlatS cur d.toList (by rw [hlen, hsz]; omega)
        rw [ed] at this
        unfold BOwn
        rw [hlen]
        rw [hlen] at this
        exact ⟨by rw [blkL_len, hlen], .inr ⟨g, cap, _, rfl, hg, heap_sortedS _ hcur, hcap, hmax, by simp [putCells, hsz], this⟩⟩

/-! What Free gathers. -/
noncomputable def accR (n : Nat) (op : Opn) (k : Nat) : List Bk := (List.range k).flatMap fun o => (frL n op o).map fun s => (s, o)
theorem accR_succ (n : Nat) (op : Opn) (k : Nat) : accR n op (k + 1) = accR n op k ++ (frL n op k).map fun s => (s, k) := by
  unfold accR; rw [List.range_succ, List.flatMap_append]; simp
theorem accR_mem {n : Nat} {op : Opn} {k : Nat} {b : Bk} : b ∈ accR n op k ↔ b.2 < k ∧ isF n op b.2 b.1 := by
  unfold accR
  rw [List.mem_flatMap]
  constructor
  · rintro ⟨o, ho, hb⟩
    obtain ⟨s, hs, rfl⟩ := List.mem_map.1 hb
    exact ⟨List.mem_range.1 ho, frL_mem.1 hs⟩
  · rintro ⟨h1, h2⟩
    exact ⟨b.2, List.mem_range.2 h1, List.mem_map.2 ⟨b.1, frL_mem.2 h2, rfl⟩⟩
theorem accR_nodup (n : Nat) (op : Opn) (k : Nat) : (accR n op k).Nodup := by
  induction k with
  | zero => exact List.Pairwise.nil
  | succ k ih =>
    rw [accR_succ]
    unfold List.Nodup
    rw [List.pairwise_append]
    refine ⟨ih, ?_, fun a ha b hb e => ?_⟩
    · rw [List.pairwise_map]
      exact (frL_inc n op k).imp fun {a b} h e => by cases e; omega
    · obtain ⟨s, hs, rfl⟩ := List.mem_map.1 hb
      have := (accR_mem.1 ha).1
      rw [e] at this; dsimp only at this; omega
theorem accR_len {n : Nat} (h : n ≤ 10) (op : Opn) : ∀ k, (accR n op k).length ≤ k * 1024
  | 0 => by simp [accR]
  | k + 1 => by
    rw [accR_succ, List.length_append, List.length_map]
    have := accR_len h op k
    have := frL_len h op k
    omega
theorem free_of_sorted {n : Nat} {op : Opn} (hn : n ≤ 10) {S : List Bk} (hp : S.Perm (accR n op 11)) (hw : WeakS S) : S = freeL n op := by
  have hmem : ∀ b, b ∈ S ↔ isF n op b.2 b.1 := fun b => by
    rw [hp.mem_iff, accR_mem]
    exact ⟨fun h => h.2, fun h => ⟨by have := h.1; omega, h⟩⟩
  have hnd : S.Nodup := (hp.nodup_iff).2 (accR_nodup n op 11)
  refine freeL_of ?_ hmem
  have hle : ∀ i j, (hij : i ≤ j) → (hj : j < S.length) → (S[i]'(by omega)).1 ≤ S[j].1 := by
    intro i j hij
    induction j with
    | zero =>
      intro hj
      have e : i = 0 := by omega
      subst e; exact Nat.le_refl _
    | succ j ih =>
      intro hj
      rcases Nat.lt_or_ge i (j + 1) with h | h
      · exact Nat.le_trans (ih (by omega) (by omega)) (hw j hj)
      · have e : i = j + 1 := by omega
        subst e; exact Nat.le_refl _
  unfold incB
  rw [List.pairwise_iff_getElem]
  intro i j hi hj hij
  rcases Nat.lt_or_eq_of_le (hle i j (by omega) hj) with h | h
  · exact h
  · exfalso
    have h1 := (hmem S[i]).1 (List.getElem_mem hi)
    have h2 := (hmem S[j]).1 (List.getElem_mem hj)
    obtain ⟨e1, e2⟩ := isF_apart h1 h2 (inB_self _ _) (by rw [h]; exact inB_self _ _)
    have : S[i] = S[j] := Prod.ext e2 e1
    exact (List.pairwise_iff_getElem.1 hnd i j hi hj hij) this
end Go.Proofs.Ytcdlfhheolbhaaa
