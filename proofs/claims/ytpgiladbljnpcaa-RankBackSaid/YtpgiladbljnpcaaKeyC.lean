/-
  Rows of keys in memory; gangerref03.Same, Twice; rank.anyTwice: at any keys.
-/
import Derived.Test.YtpgiladbljnpcaaKeyB
import Derived.Maps.OwnSet
import Derived.Deep.LoopGhost
namespace Go.Proofs.Ytpgiladbljnpcaa
open Go.ChangeShapes Go.WideShapes Go.ChangeAt Go.RowKit Go.Lib Go.Sort Go.Maps
set_option linter.unusedVariables false

/-- The keys xs lie from off on in block b. -/
def KCells (w : World) (b off : Nat) (xs : List Key) : Prop := b < w.heap.size ∧ ∀ j, j < xs.length →
  w.cell? ⟨b, off + j * 3, none⟩ = some (.int .i64 (xs.getD j default).1) ∧ w.cell? ⟨b, off + j * 3 + 1, none⟩ = some (.int .i64 (xs.getD j default).2.1) ∧ w.cell? ⟨b, off + j * 3 + 2, none⟩ = some (.int .u32 (xs.getD j default).2.2)
theorem KCells.kept {w w' : World} {b off : Nat} {xs : List Key} (h : KCells w b off xs) (hb : Below w.heap.size w w') : KCells w' b off xs :=
  ⟨Nat.lt_of_lt_of_le h.1 hb.size, fun j hj => ⟨cell_next hb (h.2 j hj).1, cell_next hb (h.2 j hj).2.1, cell_next hb (h.2 j hj).2.2⟩⟩
/-- v is a slice of the keys xs. -/
def KRow (w : World) (v : Value) (xs : List Key) : Prop :=
  (xs = [] ∧ ∃ a c, v = .slice a 0 c ∧ c ≤ maxLen) ∨ ∃ b off c, v = .slice (some ⟨b, off, none⟩) xs.length c ∧ 0 < xs.length ∧ xs.length ≤ c ∧ c ≤ maxLen ∧ KCells w b off xs
theorem KRow.kept {w w' : World} {v : Value} {xs : List Key} (h : KRow w v xs) (hb : Below w.heap.size w w') : KRow w' v xs := by
  rcases h with h | ⟨b, off, c, h1, h2, h3, h4, h5⟩
  · exact .inl h
  · exact .inr ⟨b, off, c, h1, h2, h3, h4, h5.kept hb⟩

def idAt (xs : List Key) (k : Nat) : Lit := .int .u32 (xs.getD k default).2.2
def idsL (xs : List Key) (k : Nat) : List Lit := (xs.take k).map fun x => .int .u32 x.2.2
def setN (xs : List Key) (k : Nat) : DataW Unit := setOf (.agg []) (idsL xs k)
theorem setN_succ (xs : List Key) (k : Nat) (hk : k < xs.length) : setN xs (k + 1) = (setN xs k).put (idAt xs k) (.agg []) := by
  unfold setN
  have e : idsL xs (k + 1) = idsL xs k ++ [idAt xs k] := by
    unfold idsL idAt
    rw [List.take_add_one, List.map_append]
    simp [List.getElem?_eq_getElem hk]
  rw [e, setOf_snoc]
theorem setN_zero (xs : List Key) : setN xs 0 = .map [] := by simp [setN, idsL, setOf]
theorem law_u32 : Keyed Try.prog 22 := int_keyed Try.underlying22

set_option maxRecDepth 100000 in
theorem anyTwice_row (b off c : Nat) (xs : List Key) (w : World) (hn : xs.length ≤ 1048576) (hid : ∀ x ∈ xs, (Lit.int .u32 x.2.2).wf = true) (hc : KCells w b off xs) :
    Calls Try.prog 33 #[.slice (some ⟨b, off, none⟩) xs.length c] w
      fun e w' => e = .returned (.bool (decide (Maps.size (setN xs xs.length) < xs.length))) ∧ Below w.heap.size w w' := by
  have hmm := @run_makeMap Try.prog
  have HI := Lib.hid hid
  have HC := Lib.hid hc
  clear hid hc
  go_enter Try.func33, Try.ntmps33
  go_wp2_with fail
  go_loopw [9] (fun i wr => ∃ k : Nat, k ≤ xs.length ∧ i = .int .i64 k ∧ wr.ownsMap Try.prog 22 unitElem w.heap.size k (setN xs k) ∧ Below w.heap.size w wr)
    (fun i _ => xs.length - (intOf i).toNat)
  case atStart => exact ⟨0, Nat.zero_le _, rfl, by rw [setN_zero]; exact World.ownsMap_made _ _ _ _, (Below.refl _ _).alloc (Nat.le_refl _) _⟩
  case round =>
    obtain ⟨k, hk, rfl, hown, hB⟩ := hrel
    by_cases hlt : k < xs.length
    · have hlt' : decide (k < xs.length) = true := decide_eq_true hlt
      obtain ⟨c0, c1, c2⟩ := HC.out.2 k hlt
      have hbw := HC.out.1
      have d0 := (hB.cell (p := ⟨b, off + k * 3, none⟩) hbw).trans c0
      have d1 := (hB.cell (p := ⟨b, off + k * 3 + 1, none⟩) hbw).trans c1
      have d2 := (hB.cell (p := ⟨b, off + k * 3 + 2, none⟩) hbw).trans c2
      have E := Lib.hid (setN_succ xs k hlt)
      have hkey : keyOf Try.prog 22 (.int .u32 (xs.getD k default).2.2) = some (idAt xs k) := keyOf_int_mk Try.underlying22 (HI.out _ (by simp [List.getD, List.getElem?_eq_getElem hlt]))
      clear c0 c1 c2
      have hBs : w.heap.size ≤ wr.heap.size := hB.size
      generalize idAt xs k = kl at *
      generalize xs.getD k default = x at *
      obtain ⟨p, t, i⟩ := x
      dsimp only at d0 d1 d2 hkey
      go_wp2_with (first
        | (at_mapUpdate; refine wpList_mapUpdate_own _ rfl _ _ _ 72 rfl 22 73 law_u32 Try.underlying72 unitElem w.heap.size k _ rfl (hown.alloc _) (by unfold maxLen; omega) _ _ _ rfl rfl hkey _ [] unitElem_mk ?_; intro w1 hown1 hgrow1))
      go_roundw
      case rel => exact ⟨k + 1, hlt, by go_num, by rw [E.out]; exact hown1, (hB.alloc hBs _).grown hgrow1 (by simp; omega) (fun j hj => by cases hj; exact Nat.le_refl _)⟩
      case measure => simp [intOf]; omega
    · obtain rfl : k = xs.length := by omega
      have hlt' : decide (xs.length < xs.length) = false := decide_eq_false (by omega)
      generalize Maps.size (setN xs xs.length) = m at *
      go_wp2_with (first
        | (at_len; refine wpList_len_own _ rfl _ 72 rfl 22 73 Try.underlying72 _ w.heap.size _ _ rfl hown ?_))
      go_ret
      exact ⟨rfl, hB⟩

theorem add_len (xs : List Key) : ∀ L : List Int, ((xs.map fun x => Lit.int .u32 x.2.2).foldl addKey (L.map fun i => Lit.int .u32 i)).length ≤ L.length + xs.length ∧
    (((xs.map fun x => Lit.int .u32 x.2.2).foldl addKey (L.map fun i => Lit.int .u32 i)).length < L.length + xs.length ↔ ¬ (idsOk xs ∧ ∀ x ∈ xs, x.2.2 ∉ L)) := by
  induction xs with
  | nil => intro L; simp [idsOk]
  | cons x xs ih =>
    intro L
    have ha : (L.map fun i => Lit.int .u32 i).any (fun y => y.sameKey (Lit.int .u32 x.2.2)) = decide (x.2.2 ∈ L) := by
      rw [Bool.eq_iff_iff, List.any_eq_true, decide_eq_true_eq]
      constructor
      · rintro ⟨y, hy, he⟩
        obtain ⟨i, hi, rfl⟩ := List.mem_map.1 hy
        have := WideAt.sameKey_eq he
        simp at this; rw [← this]; exact hi
      · intro h
        exact ⟨_, List.mem_map.2 ⟨_, h, rfl⟩, by simp [Lit.sameKey]⟩
    rw [List.map_cons, List.foldl_cons]
    unfold idsOk
    rw [List.pairwise_cons]
    by_cases h : x.2.2 ∈ L
    · have e : addKey (L.map fun i => Lit.int .u32 i) (Lit.int .u32 x.2.2) = L.map fun i => Lit.int .u32 i := by unfold addKey; rw [ha]; simp [h]
      rw [e]
      obtain ⟨i1, i2⟩ := ih L
      refine ⟨by simp; omega, ?_⟩
      constructor
      · intro _ hh; exact hh.2 x List.mem_cons_self h
      · intro _; simp; omega
    · have e : addKey (L.map fun i => Lit.int .u32 i) (Lit.int .u32 x.2.2) = (L ++ [x.2.2]).map fun i => Lit.int .u32 i := by unfold addKey; rw [ha]; simp [h]
      rw [e]
      obtain ⟨i1, i2⟩ := ih (L ++ [x.2.2])
      have e1 : (L ++ [x.2.2]).length = L.length + 1 := by simp
      rw [e1] at i1 i2
      rw [List.length_cons]
      refine ⟨by omega, ?_⟩
      rw [show L.length + (xs.length + 1) = L.length + 1 + xs.length by omega, i2]
      apply not_congr
      unfold idsOk
      constructor
      · rintro ⟨h1, h2⟩
        refine ⟨⟨fun y hy he => ?_, h1⟩, fun y hy => ?_⟩
        · have := h2 y hy; rw [← he] at this; simp at this
        · rcases List.mem_cons.1 hy with rfl | hy
          · exact h
          · have := h2 y hy; simp at this; exact this.1
      · rintro ⟨⟨h1, h2⟩, h3⟩
        refine ⟨h2, fun y hy => ?_⟩
        have := h3 y (List.mem_cons_of_mem _ hy)
        have h4 := h1 y hy
        simp; exact ⟨this, fun e => h4 e.symm⟩
theorem size_twice (xs : List Key) : decide (Maps.size (setN xs xs.length) < xs.length) = twiceB xs := by
  unfold setN
  rw [size_setOf _ _ (fun x hx => by unfold idsL at hx; obtain ⟨_, _, rfl⟩ := List.mem_map.1 hx; trivial)]
  have := (add_len xs []).2
  unfold idsL twiceB
  rw [List.take_length]
  simp only [List.map_nil, List.length_nil, Nat.zero_add] at this
  rw [Bool.eq_iff_iff, decide_eq_true_eq, this]
  simp
theorem anyTwice_nil (a : Option Addr) (c : Nat) (w : World) :
    Calls Try.prog 33 #[.slice a 0 c] w fun e w' => e = .returned (.bool false) ∧ Below w.heap.size w w' := by
  have hmm := @run_makeMap Try.prog
  go_enter Try.func33, Try.ntmps33
  go_wp2_with fail
  refine wp_loop_rounds 1 ?_
  rw [rounds_succ]
  go_wp2_with (first
    | (at_len; refine wpList_len_own _ rfl _ 72 rfl 22 73 Try.underlying72 (unitElem (H := Unit)) w.heap.size 0 (.map []) rfl (World.ownsMap_made _ _ _ _) ?_))
  go_ret
  exact ⟨rfl, (Below.refl _ _).alloc (Nat.le_refl _) _⟩
/-- rank.anyTwice: at any keys. -/
theorem anyTwice_any (v : Value) (xs : List Key) (w : World) (hn : xs.length ≤ 1048576) (hid : ∀ x ∈ xs, (Lit.int .u32 x.2.2).wf = true) (h : KRow w v xs) :
    Calls Try.prog 33 #[v] w fun e w' => e = .returned (.bool (twiceB xs)) ∧ Below w.heap.size w w' := by
  rcases h with ⟨rfl, a, c, rfl, _⟩ | ⟨b, off, c, rfl, h0, h1, h2, hc⟩
  · exact (anyTwice_nil a c w).mono fun e w' ⟨he, hb⟩ => ⟨he, hb⟩
  · rw [← size_twice]; exact anyTwice_row b off c xs w hn hid hc
end Go.Proofs.Ytpgiladbljnpcaa
