/-
  The library at rows of numbers: Delete, Insert, BinarySearch, Clone.
-/
import Derived.Test.YtcdlfhheolbhaaaYdM
import Derived.Test.YtcdlfhheolbhaaaSlInsBInt
import Derived.Test.YtcdlfhheolbhaaaShelf
namespace Go.Proofs.Ytcdlfhheolbhaaa
open Go Go.RowKit Go.Lib
set_option linter.unusedVariables false

/-- slices.Delete of one number of an owned row. -/
theorem delN_any (v : Value) (l : List Nat) (i : Nat) (w : World) (hi : i < l.length) (hown : NOwn w 0 v (natI l)) :
    Calls Try.prog 63 #[v, .int .i64 i, .int .i64 ((i + 1 : Nat) : Int)] w
      fun e w' => ∃ v', e = .returned v' ∧ w'.ownsRow 0 3 1 v' (l.length - 1) (natL (l.take i ++ l.drop (i + 1))) ∧ w.grownBy w' v.ownBlock ∧ AtB w v v' := by
  have hlen := natI_len l
  obtain ⟨_, ⟨rfl, e⟩ | ⟨g, cap, cur, rfl, hb, hg, h1, h2, h3, h4⟩⟩ := id hown
  · omega
  · obtain ⟨g', cap', hv, _, _, _, _, hc⟩ := nown_parts hown (by omega)
    cases hv
    rw [hlen] at h1 h4
    have h := Try.slices_Delete_int_cells g 0 (natI l).length cap i (i + 1) (natI l) w (Nat.le_refl _) (by omega) (by unfold maxLen at h2; omega) (by omega) (by omega) (fun j hj => by rw [Nat.zero_add]; exact hc j hj)
      (fun j hj => by simp [World.frozen?, hg])
    refine h.mono ?_
    rintro e w' ⟨rfl, q, rfl⟩
    have hgq : (w.drewN q).heap[g]? = some (.cells cur 3 (0, 0)) := hg
    obtain ⟨c1, a1, a2, a3, a4⟩ := heap_setCells g 3 ((((natI l).take (natI l).length).take i ++ ((natI l).take (natI l).length).drop (i + 1) ++ List.replicate (i + 1 - i) 0).map (Value.int .i64)) 0 (w.drewN q) cur hgq
    have hgr := grownBy_setCells g ((((natI l).take (natI l).length).take i ++ ((natI l).take (natI l).length).drop (i + 1) ++ List.replicate (i + 1 - i) 0).map (Value.int .i64)) 0 (w.drewN q)
    have e1 : (((natI l).take (natI l).length).take i ++ ((natI l).take (natI l).length).drop (i + 1)) = natI (l.take i ++ l.drop (i + 1)) := by
      rw [List.take_of_length_le (Nat.le_refl _)]; simp [natI, List.map_take, List.map_drop]
    have e2 : (natI l).length - (i + 1 - i) = l.length - 1 := by omega
    rw [e1] at a1 a4 hgr ⊢
    rw [e2]
    refine ⟨_, rfl, ⟨by rw [natL_len]; simp; omega, .inr ⟨g, cap, c1, rfl, hb, a1, by omega, h2, by omega, ?_⟩⟩, ⟨hgr.os, hgr.tape, hgr.output, hgr.size, hgr.block⟩, atB_same _ _ _ _ _ _ _⟩
    have hl : (natL (l.take i ++ l.drop (i + 1))).length = l.length - 1 := by rw [natL_len]; simp; omega
    apply List.ext_getElem?
    intro k
    by_cases hk : k < l.length - 1
    · rw [List.getElem?_take, if_pos (by omega), Array.getElem?_toList]
      have := a4 k (by omega) (by simp [natI_len]; omega)
      rw [Nat.zero_add] at this
      rw [this, List.map_append, List.getElem?_append_left (by simp [natI_len]; omega)]; rfl
    · rw [List.getElem?_eq_none (by rw [List.length_take]; omega), List.getElem?_eq_none (by omega)]

/-- slices.Insert of one number, which lies in a block of its own. -/
theorem insN_any (v : Value) (l : List Nat) (i x vb c : Nat) (w : World) (hi : i ≤ l.length) (hn : l.length ≤ 1024) (hown : NOwn w 0 v (natI l)) (hB : Blk w vb #[.int .i64 (x : Int)] 3) (hvb : some vb ≠ v.ownBlock) :
    Calls Try.prog 61 #[v, .int .i64 i, .slice (some ⟨vb, 0, none⟩) 1 c] w
      fun e w' => ∃ v', e = .returned v' ∧ w'.ownsRow 0 3 1 v' (l.length + 1) (natL (l.take i ++ x :: l.drop i)) ∧ w.grownBy w' v.ownBlock ∧ AtB w v v' := by
  have hlen := natI_len l
  have h := insIInt_any 0 v (natI l).length i 1 c vb #[.int .i64 (x : Int)] 3 (natL l) [.int .i64 (x : Int)] w (by omega) (by omega) (by omega) (Nat.zero_le _) hown (numsL_one _) hB hvb rfl rfl (by simp [Value.oneCell'])
  rw [hlen, Nat.mul_one, natL_take, natL_drop, List.append_assoc, List.singleton_append, ← natL_cons, ← natL_app] at h
  exact h

/-- How many of a row are less; whether a number is in it. -/
def posN (l : List Nat) (x : Nat) : Nat := (natI l).countP (· < (x : Int))
def hasN (l : List Nat) (x : Nat) : Bool := (natI l).contains (x : Int)
theorem pos_facts {l : List Nat} (hinc : l.Pairwise (· < ·)) (x : Nat) : posN l x ≤ l.length ∧ (∀ q (hq : q < l.length), q < posN l x → l[q] < x) ∧ (∀ q (hq : q < l.length), posN l x ≤ q → x ≤ l[q]) ∧ (hasN l x = true ↔ ∃ hp : posN l x < l.length, l[posN l x] = x) := by
  have hlen := natI_len l
  have hcount : ∀ m : List Nat, m.Pairwise (· < ·) → (∀ q (hq : q < m.length), q < (natI m).countP (· < (x : Int)) → m[q] < x) ∧ (∀ q (hq : q < m.length), (natI m).countP (· < (x : Int)) ≤ q → x ≤ m[q]) := by
    intro m
    induction m with
    | nil => intro _; exact ⟨fun q hq => by simp at hq, fun q hq => by simp at hq⟩
    | cons a r ih =>
      intro hm
      rw [List.pairwise_cons] at hm
      obtain ⟨i1, i2⟩ := ih hm.2
      have e : natI (a :: r) = (a : Int) :: natI r := rfl
      by_cases ha : a < x
      · have hc : (natI (a :: r)).countP (· < (x : Int)) = (natI r).countP (· < (x : Int)) + 1 := by rw [e, List.countP_cons_of_pos (by simpa using ha)]
        rw [hc]
        constructor
        · intro q hq hlt
          cases q with
          | zero => exact ha
          | succ q => exact i1 q (by simpa using hq) (by omega)
        · intro q hq hle
          cases q with
          | zero => omega
          | succ q => exact i2 q (by simpa using hq) (by omega)
      · have hz : (natI r).countP (· < (x : Int)) = 0 := by
          rw [List.countP_eq_zero]
          intro y hy
          obtain ⟨z, hz, rfl⟩ := List.mem_map.1 hy
          have := hm.1 z hz
          simp; omega
        have hc : (natI (a :: r)).countP (· < (x : Int)) = 0 := by rw [e, List.countP_cons_of_neg (by simpa using ha), hz]
        rw [hc]
        constructor
        · intro q hq hlt; omega
        · intro q hq _
          cases q with
          | zero => simp only [List.getElem_cons_zero]; omega
          | succ q =>
            have := i2 q (by simpa using hq) (by rw [hz]; omega)
            simpa using this
  obtain ⟨c1, c2⟩ := hcount l hinc
  refine ⟨?_, c1, c2, ?_⟩
  · rw [← hlen]; unfold posN; exact List.countP_le_length
  · unfold hasN; rw [List.contains_iff_mem]
    constructor
    · intro hm
      obtain ⟨z, hz, e⟩ := List.mem_map.1 hm
      have e' : z = x := by omega
      subst e'
      obtain ⟨i, hi, hiz⟩ := List.getElem_of_mem hz
      have h1 : ¬ i < posN l z := fun hlt => by have := c1 i hi hlt; omega
      have h2 : i ≤ posN l z := by
        apply Classical.byContradiction
        intro hno
        have := c2 (posN l z) (by omega) (Nat.le_refl _)
        have := inc_at hinc (i := posN l z) (j := i) (by omega) hi
        omega
      have e3 : posN l z = i := by omega
      rw [e3]; exact ⟨hi, hiz⟩
    · rintro ⟨hp, e⟩
      exact List.mem_map.2 ⟨_, List.getElem_mem hp, by rw [e]⟩
theorem hasN_iff {l : List Nat} {x : Nat} : hasN l x = true ↔ x ∈ l := by
  unfold hasN natI; rw [List.contains_iff_mem, List.mem_map]
  constructor
  · rintro ⟨a, h, e⟩
    have : a = x := by omega
    rw [← this]; exact h
  · intro h; exact ⟨x, h, rfl⟩
/-- slices.BinarySearch in a rising row. -/
theorem bsN_any (v : Value) (l : List Nat) (x : Nat) (w : World) (hn : l.length ≤ 1024) (hinc : l.Pairwise (· < ·)) (h : NRow w v (natI l)) :
    Calls Try.prog 60 #[v, .int .i64 (x : Int)] w
      fun e w' => e = .returned (.tuple #[.int .i64 (posN l x : Nat), .bool (hasN l x)]) ∧ ∃ q, w' = w.drewN q := by
  have hlen := natI_len l
  unfold posN hasN
  rcases h with ⟨h0, a, c, rfl, _⟩ | ⟨b, off, c, rfl, h1, h2, h3, h4, h5⟩
  · refine (Try.slices_BinarySearch_int_empty a c (x : Int) w).mono ?_
    rintro e w' ⟨rfl, rfl⟩
    rw [h0]
    exact ⟨rfl, 0, rfl⟩
  · have hs : ((natI l).take (natI l).length).Pairwise (· ≤ ·) := by
      rw [List.take_of_length_le (Nat.le_refl _)]
      unfold natI; rw [List.pairwise_map]
      exact hinc.imp fun {a b} hab => by omega
    refine (Try.slices_BinarySearch_int b off (natI l).length c (natI l) (x : Int) w (Nat.le_refl _) (by omega) h5 hs).mono ?_
    rintro e w' ⟨rfl, hw⟩
    rw [List.take_of_length_le (Nat.le_refl _)]
    exact ⟨rfl, hw⟩

/-- slices.Clone of a row. -/
theorem cloneN_any (v : Value) (l : List Int) (w : World) (hn : l.length ≤ 4194304) (h : NRow w v l) :
    Calls Try.prog 46 #[v] w fun e w' => ∃ v', e = .returned v' ∧ NOwn w' w.heap.size v' l ∧ Below w.heap.size w w' := by
  rcases h with ⟨rfl, a, c, rfl, _⟩ | ⟨b, off, c, rfl, h1, h2, h3, h4, h5⟩
  · cases a with
    | none =>
      refine (Try.slices_Clone_int_nil 0 c w).mono ?_
      rintro e w' ⟨rfl, rfl⟩
      exact ⟨_, rfl, NOwn.none _ _, Below.refl _ _⟩
    | some a =>
      refine (Try.slices_Clone_int_zero a c w).mono ?_
      rintro e w' ⟨v', rfl, ho, _, hb⟩
      exact ⟨_, rfl, ho, hb⟩
  · refine (Try.slices_Clone_int b off l.length c l w (Nat.le_refl _) (by omega) h5).mono ?_
    rintro e w' ⟨v', rfl, ho, _, hb⟩
    rw [List.take_of_length_le (Nat.le_refl _)] at ho
    exact ⟨_, rfl, ho, hb⟩
end Go.Proofs.Ytcdlfhheolbhaaa
