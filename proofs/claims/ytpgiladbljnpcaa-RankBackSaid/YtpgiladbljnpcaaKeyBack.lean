/-
  Ranked keys put one by one, in any order, and dropped again: plainly.
-/
import Derived.Test.YtpgiladbljnpcaaKeyPR
namespace Go.Proofs.Ytpgiladbljnpcaa
open Go.ChangeShapes Go.WideShapes Go.ChangeAt Go.RowKit Go.Lib Go.Sort Go.Maps
set_option linter.unusedVariables false

theorem twice_false {xs : List Key} (h : idsOk xs) : twiceB xs = false := by unfold twiceB; rw [decide_eq_true h]; rfl
theorem ids_perm {xs ys : List Key} (h : xs.Perm ys) (hi : idsOk ys) : idsOk xs := by
  unfold idsOk at *
  exact (h.pairwise_iff (fun {a b} hab => hab.symm)).2 hi
theorem check_sort {xs : List Key} (h : idsOk xs) : checkV (sortK xs) = 0 := by
  have hi : idsOk (sortK xs) := ids_perm (sortK_perm xs) h
  have hr : rankedB (sortK xs) = true := by
    rw [rankedB_iff]
    refine ((sortK_sorted xs).and hi).imp fun {a b} hh => ?_
    cases e : kLess a b
    · exact absurd (congrArg (fun k : Key => k.2.2) (totK a b e hh.1)) hh.2
    · rfl
  unfold checkV
  rw [twice_false hi, hr]; rfl
theorem sort_snoc (xs : List Key) (k : Key) : sortK (xs ++ [k]) = layK (sortK xs) k := by
  rw [← insK_eq, ← insK_eq]
  unfold insK
  rw [List.foldl_append]; rfl
theorem idx_mem {xs : List Key} {id : Int} : 0 ≤ idxK xs id ↔ ∃ x ∈ xs, x.2.2 = id := by
  constructor
  · intro h
    obtain ⟨i, _, hi, he⟩ := idxK_some h
    exact ⟨at_ xs i, by rw [← at_getElem hi]; exact List.getElem_mem hi, he⟩
  · rintro ⟨x, hx, he⟩
    rcases Int.lt_or_le (idxK xs id) 0 with h | h
    · exact absurd he (idxK_neg (by omega) x hx)
    · exact h
theorem ids_snoc {xs : List Key} {k : Key} : idsOk (xs ++ [k]) ↔ idsOk xs ∧ ∀ x ∈ xs, x.2.2 ≠ k.2.2 := by
  unfold idsOk
  rw [List.pairwise_append]
  simp
theorem put_sort {xs : List Key} {k : Key} (h : idsOk (xs ++ [k])) : putE (sortK xs) k = 0 ∧ putL (sortK xs) k = sortK (xs ++ [k]) := by
  obtain ⟨h1, h2⟩ := ids_snoc.1 h
  have e : putE (sortK xs) k = 0 := by
    unfold putE
    rw [if_neg (by simp [check_sort h1]), if_neg]
    rw [idx_mem]
    rintro ⟨x, hx, he⟩
    exact h2 x ((sortK_perm xs).mem_iff.1 hx) he
  refine ⟨e, ?_⟩
  unfold putL
  rw [if_pos e, sort_snoc]
theorem put_twice {xs : List Key} {k : Key} (h1 : idsOk xs) (h : ¬ idsOk (xs ++ [k])) : putE (sortK xs) k = 30 := by
  unfold putE
  rw [if_neg (by simp [check_sort h1]), if_pos]
  rw [idx_mem]
  rcases Classical.em (∃ x ∈ xs, x.2.2 = k.2.2) with ⟨x, hx, he⟩ | hh
  · exact ⟨x, (sortK_perm xs).mem_iff.2 hx, he⟩
  · exact absurd (ids_snoc.2 ⟨h1, fun x hx he => hh ⟨x, hx, he⟩⟩) h
theorem drop_back {xs : List Key} {k : Key} (h : idsOk (xs ++ [k])) : dropB (sortK (xs ++ [k])) k.2.2 = true ∧ dropL (sortK (xs ++ [k])) k.2.2 = sortK xs := by
  obtain ⟨h1, h2⟩ := ids_snoc.1 h
  have hc := check_sort h
  constructor
  · unfold dropB
    rw [decide_eq_true hc, decide_eq_true (idx_mem.2 ⟨k, (sortK_perm _).mem_iff.2 (by simp), rfl⟩)]; rfl
  · unfold dropL
    rw [if_neg (by simp [hc])]
    refine sortK_eq ?_ ((sortK_sorted _).filter _)
    refine ((sortK_perm (xs ++ [k])).filter _).trans ?_
    rw [List.filter_append, List.filter_eq_self.2 (fun x hx => by simpa using h2 x hx), List.filter_cons, if_neg (by simp), List.filter_nil, List.append_nil]

theorem i64_nat (n : Nat) (h : n ≤ 9223372036854775807) : IntKind.i64.wrap (n : Int) = (n : Int) := by rw [IntKind.wrap_i64]; omega
theorem u64_nat (n : Nat) (h : n ≤ 9223372036854775807) : IntKind.u64.wrap (n : Int) = (n : Int) := by rw [IntKind.wrap_u64]; omega
theorem w64_nat (n : Nat) (h : n ≤ 9223372036854775807) : wrap64 (n : Int) = (n : Int) := by unfold wrap64; omega
theorem u64_bd (x : Int) : 0 ≤ IntKind.u64.wrap x ∧ IntKind.u64.wrap x ≤ 18446744073709551615 := by rw [IntKind.wrap_u64]; omega
theorem mod_pick (x : Int) (n : Nat) (h : 0 < n) (hn : n ≤ 1000000) : ∃ U K : Nat, IntKind.u64.wrap x = (U : Int) ∧ (U : Int) % (n : Int) = (K : Int) ∧ K < n ∧ IntKind.i64.wrap (K : Int) = (K : Int) ∧ wrap64 (K : Int) = (K : Int) ∧ ¬ (n : Int) = 0 ∧ IntKind.u64.wrap (n : Int) = (n : Int) ∧ IntKind.i64.wrap (n : Int) = (n : Int) ∧ wrap64 (n : Int) = (n : Int) ∧ (U : Int).tmod (n : Int) = (K : Int) := by
  obtain ⟨U, hU⟩ := Int.eq_ofNat_of_zero_le (u64_bd x).1
  have e : (U : Int) % (n : Int) = ((U % n : Nat) : Int) := by simp
  have hl' : U % n < n := Nat.mod_lt _ h
  refine ⟨U, U % n, hU, e, hl', i64_nat _ (by omega), w64_nat _ (by omega), by omega, u64_nat n (by omega), i64_nat n (by omega), w64_nat n (by omega), ?_⟩
  rw [Int.tmod_eq_emod_of_nonneg (by omega), e]
/-- The first j keys of a row that is read from place t on, round. -/
def rotL (xs : List Key) (t j : Nat) : List Key := (List.range j).map fun i => at_ xs ((i + t) % xs.length)
theorem rot_succ (xs : List Key) (t j : Nat) : rotL xs t (j + 1) = rotL xs t j ++ [at_ xs ((j + t) % xs.length)] := by
  unfold rotL
  rw [List.range_succ, List.map_append]; rfl
theorem rot_len (xs : List Key) (t j : Nat) : (rotL xs t j).length = j := by simp [rotL]
theorem rot_all {xs : List Key} {t : Nat} (ht : t < xs.length) : rotL xs t xs.length = xs.drop t ++ xs.take t := by
  apply List.ext_getElem?
  intro i
  unfold rotL
  rw [List.getElem?_map, List.getElem?_append]
  have hd : (xs.drop t).length = xs.length - t := List.length_drop
  by_cases hi : i < xs.length
  · rw [List.getElem?_range hi, Option.map_some]
    by_cases h1 : i < xs.length - t
    · rw [if_pos (by omega), Nat.mod_eq_of_lt (by omega), List.getElem?_drop, Nat.add_comm t i, at_get (by omega)]
    · have e : (i + t) % xs.length = i - (xs.length - t) := by
        rw [show i + t = xs.length + (i - (xs.length - t)) by omega, Nat.add_mod_left, Nat.mod_eq_of_lt (by omega)]
      rw [if_neg (by omega), e, hd, List.getElem?_take_of_lt (by omega), at_get (by omega)]
  · rw [List.getElem?_eq_none (by simp; omega), Option.map_none, if_neg (by omega), List.getElem?_eq_none (by rw [List.length_take]; omega)]
theorem rot_perm {xs : List Key} {t : Nat} (ht : t < xs.length) : (rotL xs t xs.length).Perm xs := by
  rw [rot_all ht]
  refine List.perm_append_comm.trans ?_
  rw [List.take_append_drop]
theorem rot_sort {xs : List Key} {t : Nat} (ht : t < xs.length) : sortK (rotL xs t xs.length) = sortK xs :=
  sortK_eq ((sortK_perm _).trans (rot_perm ht)) (sortK_sorted _)
theorem rot_ids {xs : List Key} {t j : Nat} (ht : t < xs.length) (hj : j ≤ xs.length) (h : idsOk xs) : idsOk (rotL xs t j) := by
  have h1 : idsOk (rotL xs t xs.length) := ids_perm (rot_perm ht) h
  have h2 : rotL xs t j = (rotL xs t xs.length).take j := by
    unfold rotL
    rw [← List.map_take, List.take_range, Nat.min_eq_left hj]
  rw [h2]
  unfold idsOk at *
  exact h1.sublist (List.take_sublist _ _)

/-- How many of the first j keys are x. -/
def cntK (ss : List Key) (x : Key) (j : Nat) : Nat := (ss.take j).countP fun y => keqB y.1 y.2.1 y.2.2 x.1 x.2.1 x.2.2
theorem cnt_succ {ss : List Key} (x : Key) {j : Nat} (h : j < ss.length) : cntK ss x (j + 1) = cntK ss x j + (if keqB (at_ ss j).1 (at_ ss j).2.1 (at_ ss j).2.2 x.1 x.2.1 x.2.2 then 1 else 0) := by
  unfold cntK
  rw [List.take_add_one, at_get h, List.countP_append]
  simp [List.countP_cons]
theorem cnt_le (ss : List Key) (x : Key) (j : Nat) : cntK ss x j ≤ j := by
  unfold cntK
  exact Nat.le_trans List.countP_le_length (by rw [List.length_take]; omega)
theorem cnt_one {xs : List Key} {i : Nat} (h : idsOk xs) (hi : i < xs.length) : cntK (sortK xs) (at_ xs i) (sortK xs).length = 1 := by
  unfold cntK
  rw [List.take_length, (sortK_perm xs).countP_eq]
  have hp : ∀ y : Key, keqB y.1 y.2.1 y.2.2 (at_ xs i).1 (at_ xs i).2.1 (at_ xs i).2.2 = (y == at_ xs i) := fun y => by
    unfold keqB
    rw [Bool.eq_iff_iff, beq_iff_eq]
    constructor
    · intro h; simp at h; exact key_ext h.1 h.2.1 h.2.2
    · intro h; rw [h]; simp
  simp only [hp]
  have hn : xs.Nodup := by
    unfold idsOk at h
    exact h.imp fun {a b} hab e => hab (by rw [e])
  have hm : at_ xs i ∈ xs := by rw [← at_getElem hi]; exact List.getElem_mem hi
  show List.count (at_ xs i) xs = 1
  exact List.Nodup.count hn ▸ if_pos hm
end Go.Proofs.Ytpgiladbljnpcaa
