/-
  rank.Put, rank.Drop: at any keys.
-/
import Derived.Test.YtpgiladbljnpcaaKeyS
import Derived.Test.YtpgiladbljnpcaaKeyL
import Derived.Test.YtpgiladbljnpcaaKeyO
import Derived.Test.YtpgiladbljnpcaaKeyBs
import Derived.Test.YtpgiladbljnpcaaKeyF
import Derived.Test.YtpgiladbljnpcaaSlInsKey
import Derived.Test.YtpgiladbljnpcaaSlDelKey
namespace Go.Proofs.Ytpgiladbljnpcaa
open Go.ChangeShapes Go.WideShapes Go.ChangeAt Go.RowKit Go.Lib Go.Sort Go.Maps
set_option linter.unusedVariables false

def putE (xs : List Key) (k : Key) : Int := if checkV xs ≠ 0 then checkV xs else if 0 ≤ idxK xs k.2.2 then 30 else 0
def putL (xs : List Key) (k : Key) : List Key := if putE xs k = 0 then layK xs k else []
def dropL (xs : List Key) (id : Int) : List Key := if checkV xs ≠ 0 then [] else xs.filter fun x => x.2.2 != id
def dropB (xs : List Key) (id : Int) : Bool := decide (checkV xs = 0) && decide (0 ≤ idxK xs id)

theorem flatL_take (xs : List Key) (p : Nat) (h : p ≤ xs.length) : flatL (xs.take p) = (flatL xs).take (p * 3) := by
  have e : flatL xs = flatL (xs.take p) ++ flatL (xs.drop p) := by rw [← flatL_append, List.take_append_drop]
  rw [e, List.take_left' (by rw [flatL_len, List.length_take]; omega)]
theorem flatL_drop (xs : List Key) (p : Nat) (h : p ≤ xs.length) : flatL (xs.drop p) = (flatL xs).drop (p * 3) := by
  have e : flatL xs = flatL (xs.take p) ++ flatL (xs.drop p) := by rw [← flatL_append, List.take_append_drop]
  rw [e, List.drop_left' (by rw [flatL_len, List.length_take]; omega)]
theorem sorted_of_check {xs : List Key} (h : checkV xs = 0) : xs.Pairwise fun x y => kLess y x = false := by
  have hr : rankedB xs = true := by
    unfold checkV at h
    cases ht : twiceB xs <;> cases hr : rankedB xs <;> rw [ht, hr] at h <;> simp at h ⊢
  exact ((rankedB_iff xs).1 hr).imp fun h => less_asymm h
theorem layK_place {xs : List Key} {k : Key} {p : Nat} (h : p ≤ xs.length) (h1 : ∀ q, q < p → cmpK (at_ xs q) k < 0) (h2 : ∀ q, p ≤ q → q < xs.length → 0 ≤ cmpK (at_ xs q) k) :
    flatL (layK xs k) = (flatL xs).take (p * 3) ++ encK k ++ (flatL xs).drop (p * 3) := by
  rw [layK_at h (fun j hj => decide_eq_true (h1 j hj)) (fun hp => decide_eq_false (by have := h2 p (Nat.le_refl _) hp; omega)), flatL_append, flatL_append, flatL_take xs p h, flatL_drop xs p h]
  simp [flatL]
theorem below_grown {w w1 w2 : World} {row : Option Nat} (h : Below w.heap.size w w1) (hg : w1.grownBy w2 row) (hr : ∀ j, row = some j → w.heap.size ≤ j) : Below w.heap.size w w2 := h.grown hg h.size hr

theorem alloc_big (w : World) (o : Obj) : ¬ (w.alloc o).drew.heap.size ≤ w.heap.size := by
  have : (w.alloc o).drew.heap.size = w.heap.size + 1 := Array.size_push _
  omega
/-- A key comes into a row that is its owner's, out of a block of its own. -/
theorem ins_key (W0 : World) (base : Nat) (v : Value) (xs : List Key) (k : Key) (p vb : Nat) (t : TypeId) (W : World) (hn : xs.length ≤ 1048576) (h : p ≤ xs.length) (h1 : ∀ q, q < p → cmpK (at_ xs q) k < 0) (h2 : ∀ q, p ≤ q → q < xs.length → 0 ≤ cmpK (at_ xs q) k)
    (hbase : W0.heap.size ≤ base) (hbW : base ≤ W.heap.size) (hown : W.ownsRow base 24 3 v xs.length (flatL xs)) (hB : Blk W vb #[.int .i64 k.1, .int .i64 k.2.1, .int .u32 k.2.2] t) (hne : some vb ≠ v.ownBlock) (hbel : Below W0.heap.size W0 W) :
    Calls Try.prog 41 #[v, .int .i64 p, .slice (some ⟨vb, 0, none⟩) 1 1] W
      fun e w' => ∃ v', e = .returned v' ∧ w'.ownsRow W0.heap.size 24 3 v' (xs.length + 1) (flatL (layK xs k)) ∧ Below W0.heap.size W0 w' := by
  refine (insIKey_any base v xs.length p 1 1 vb _ t (flatL xs) (encK k) W (by omega) h (by omega) hbW hown (flatL_one xs) hB hne rfl rfl (encK_one k)).mono ?_
  rintro e w' ⟨v', rfl, ho, hg⟩
  refine ⟨v', rfl, ?_, below_grown hbel hg fun j hj => Nat.le_trans hbase (hown.lt j hj).1⟩
  rw [layK_place h h1 h2]
  exact owns_mono ho hbase

theorem put_bad1 (v : Value) (xs : List Key) (k : Key) (w : World) (hn : xs.length ≤ 1048576) (hid : ∀ x ∈ xs, (Lit.int .u32 x.2.2).wf = true) (h : KRow w v xs) (hc : checkV xs ≠ 0) :
    Calls Try.prog 20 #[v, keyV k] w fun e w' => e = .returned (.tuple #[.slice none 0 0, .int .i64 (checkV xs)]) ∧ Below w.heap.size w w' := by
  have H1 : Hid (∀ w1, Below w.heap.size w w1 → Calls Try.prog 15 #[v] w1 fun e w' => e = .returned (.int .i64 (checkV xs)) ∧ Below w1.heap.size w1 w') := fun w1 hb => check_any v xs w1 hn hid (h.kept hb)
  unfold keyV
  have t : (checkV xs != 0) = true := bne_iff_ne.2 hc
  clear h hn hid hc
  generalize checkV xs = cv at *
  go_enter Try.func20, Try.ntmps20
  go_wp2_with fail
  refine (H1.out _ ((Below.refl _ _).alloc (Nat.le_refl _) _)).mono ?_; rintro e w1 ⟨rfl, b1⟩
  go_wp2_with fail
  go_ret2
  exact ⟨rfl, below_next b1 ((Below.refl _ _).alloc (Nat.le_refl _) _)⟩
theorem put_bad2 (v : Value) (xs : List Key) (k : Key) (w : World) (hn : xs.length ≤ 1048576) (hid : ∀ x ∈ xs, (Lit.int .u32 x.2.2).wf = true) (h : KRow w v xs) (hc : checkV xs = 0) (hi : 0 ≤ idxK xs k.2.2) :
    Calls Try.prog 20 #[v, keyV k] w fun e w' => e = .returned (.tuple #[.slice none 0 0, .int .i64 30]) ∧ Below w.heap.size w w' := by
  have H1 : Hid (∀ w1, Below w.heap.size w w1 → Calls Try.prog 15 #[v] w1 fun e w' => e = .returned (.int .i64 0) ∧ Below w1.heap.size w1 w') := fun w1 hb => by
    have := check_any v xs w1 hn hid (h.kept hb); rw [hc] at this; exact this
  have H2 : Hid (∀ w1, Below w.heap.size w w1 → Calls Try.prog 39 #[v, .int .u32 k.2.2] w1 fun e w' => e = .returned (.int .i64 (idxK xs k.2.2)) ∧ Below w1.heap.size w1 w') := fun w1 hb => find_any v k.2.2 xs w1 hn (h.kept hb)
  obtain ⟨kp, kt, ki⟩ := k
  unfold keyV
  dsimp only at *
  have t : decide (idxK xs ki ≥ 0) = true := decide_eq_true hi
  clear h hn hid hc
  generalize idxK xs ki = ix at *
  go_enter Try.func20, Try.ntmps20
  go_wp2_with fail
  refine (H1.out _ ((Below.refl _ _).alloc (Nat.le_refl _) _)).mono ?_; rintro e w1 ⟨rfl, b1⟩
  have B1 := Lib.hid (below_next b1 ((Below.refl _ _).alloc (Nat.le_refl _) _))
  have KB := Lib.hid ((Blk.new w #[.int .i64 kp, .int .i64 kt, .int .u32 ki] 24).kept b1)
  have c2 := KB.out.cell 2; simp at c2
  clear b1
  go_wp2_with fail
  refine (H2.out _ B1.out).mono ?_; rintro e w2 ⟨rfl, b2⟩
  go_wp2_with fail
  go_ret2
  exact ⟨rfl, below_next b2 B1.out⟩

set_option maxHeartbeats 2000000 in
set_option maxRecDepth 100000 in
theorem put_ok (v : Value) (xs : List Key) (k : Key) (w : World) (hn : xs.length ≤ 1048576) (hid : ∀ x ∈ xs, (Lit.int .u32 x.2.2).wf = true) (h : KRow w v xs) (hc : checkV xs = 0) (hi : ¬ 0 ≤ idxK xs k.2.2) :
    Calls Try.prog 20 #[v, keyV k] w fun e w' => ∃ v', e = .returned (.tuple #[v', .int .i64 0]) ∧ w'.ownsRow w.heap.size 24 3 v' (xs.length + 1) (flatL (layK xs k)) ∧ Below w.heap.size w w' := by
  have H1 : Hid (∀ w1, Below w.heap.size w w1 → Calls Try.prog 15 #[v] w1 fun e w' => e = .returned (.int .i64 0) ∧ Below w1.heap.size w1 w') := fun w1 hb => by
    have := check_any v xs w1 hn hid (h.kept hb); rw [hc] at this; exact this
  have H2 : Hid (∀ w1, Below w.heap.size w w1 → Calls Try.prog 39 #[v, .int .u32 k.2.2] w1 fun e w' => e = .returned (.int .i64 (idxK xs k.2.2)) ∧ Below w1.heap.size w1 w') := fun w1 hb => find_any v k.2.2 xs w1 hn (h.kept hb)
  have H3 : Hid (∀ w1, Below w.heap.size w w1 → Calls Try.prog 40 #[v, .agg #[.int .i64 k.1, .int .i64 k.2.1, .int .u32 k.2.2], .func (.func 32) #[] #[]] w1
      fun e w' => ∃ p f, e = .returned (.tuple #[.int .i64 (p : Nat), .bool f]) ∧ Hid (p ≤ xs.length ∧ (∀ q, q < p → cmpK (at_ xs q) k < 0) ∧ (∀ q, p ≤ q → q < xs.length → 0 ≤ cmpK (at_ xs q) k)) ∧ Below w1.heap.size w1 w') := fun w1 hb => bs_any v xs k w1 hn (h.kept hb) (mono_of_sorted (sorted_of_check hc))
  have H4 : Hid (∀ w1, Below w.heap.size w w1 → Calls Try.prog 35 #[v] w1
      fun e w' => ∃ v', e = .returned v' ∧ w'.ownsRow w1.heap.size 24 3 v' xs.length (flatL xs) ∧ Below w1.heap.size w1 w') := fun w1 hb => clone_any v xs w1 hn (h.kept hb)
  have H5 : Hid (∀ (p : Nat), Hid (p ≤ xs.length ∧ (∀ q, q < p → cmpK (at_ xs q) k < 0) ∧ (∀ q, p ≤ q → q < xs.length → 0 ≤ cmpK (at_ xs q) k)) → ∀ base v vb t W, w.heap.size ≤ base → base ≤ W.heap.size → W.ownsRow base 24 3 v xs.length (flatL xs) → Blk W vb #[.int .i64 k.1, .int .i64 k.2.1, .int .u32 k.2.2] t → some vb ≠ v.ownBlock → Below w.heap.size w W →
      Calls Try.prog 41 #[v, .int .i64 p, .slice (some ⟨vb, 0, none⟩) 1 1] W
        fun e w' => ∃ v', e = .returned v' ∧ w'.ownsRow w.heap.size 24 3 v' (xs.length + 1) (flatL (layK xs k)) ∧ Below w.heap.size w w') :=
    fun p hp base v vb t W a1 a2 a3 a4 a5 a6 => ins_key w base v xs k p vb t W hn hp.out.1 hp.out.2.1 hp.out.2.2 a1 a2 a3 a4 a5 a6
  obtain ⟨kp, kt, ki⟩ := k
  unfold keyV
  dsimp only at *
  have t : decide (idxK xs ki ≥ 0) = false := decide_eq_false hi
  clear h hn hid hc
  generalize idxK xs ki = ix at *
  generalize flatL (layK xs (kp, kt, ki)) = fl at *
  generalize flatL xs = fx at *
  go_enter Try.func20, Try.ntmps20
  go_wp2_with fail
  refine (H1.out _ ((Below.refl _ _).alloc (Nat.le_refl _) _)).mono ?_; rintro e w1 ⟨rfl, b1⟩
  have B1 := Lib.hid (below_next b1 ((Below.refl _ _).alloc (Nat.le_refl _) _))
  have KB := Lib.hid ((Blk.new w #[.int .i64 kp, .int .i64 kt, .int .u32 ki] 24).kept b1)
  have c2 := KB.out.cell 2; simp at c2
  clear b1 H1
  go_wp2_with fail
  refine (H2.out _ B1.out).mono ?_; rintro e w2 ⟨rfl, b2⟩
  have B2 := Lib.hid (below_next b2 B1.out)
  have KB2 := Lib.hid (KB.out.kept b2)
  have d0 := KB2.out.cell 0; simp at d0
  have d1 := KB2.out.cell 1; simp at d1
  have d2 := KB2.out.cell 2; simp at d2
  clear c2 b2 H2 KB
  go_wp2_with fail
  refine (H3.out _ B2.out).mono ?_; rintro e w3 ⟨p, f, rfl, hp, b3⟩
  have B3 := Lib.hid (below_next b3 B2.out)
  have KB3 := Lib.hid (KB2.out.kept b3)
  have e0 := KB3.out.cell 0; simp at e0
  have e1 := KB3.out.cell 1; simp at e1
  have e2 := KB3.out.cell 2; simp at e2
  clear d0 d1 d2 b3 H3 KB2 B1 B2
  go_wp2_with fail
  have H5p := Lib.hid (H5.out p hp)
  have hB0 : w.heap.size < w3.heap.size := KB3.out.lt
  clear H5 hp
  go_region_with (first
    | (go_at_call 35; refine (H4.out _ ?_).mono ?_; (first | exact B3.out.drew | exact (B3.out.alloc (Nat.le_of_lt hB0) _).drew); rintro e w4 ⟨v4, rfl, o4, b4⟩; (try (have x0 := cell_next b4 e0; have x1 := cell_next b4 e1; have x2 := cell_next b4 e2)))
    | (go_at_call 41;
       (first
         | refine (H5p.out w3.drew.heap.size v4 w4.heap.size 24 _ (Nat.le_of_lt hB0) (Nat.le_trans b4.size ((Below.refl _ w4).alloc (Nat.le_refl _) _).size) (World.ownsRow.alloc o4 _) (Blk.new _ _ _) (fun h => by have := (o4.lt _ h.symm).2; omega) ((below_next b4 B3.out.drew).alloc (Nat.le_trans (Nat.le_of_lt hB0) b4.size) _)).mono ?_
         | refine (H5p.out _ v4 w3.heap.size 24 w4 (Nat.le_trans (Nat.le_of_lt hB0) ((Below.refl _ w3).alloc (Nat.le_refl _) _).size) b4.size o4 (Blk.kept (Blk.drew (Blk.new w3 #[.int .i64 kp, .int .i64 kt, .int .u32 ki] 24)) b4) (fun h => absurd (o4.lt _ h.symm).1 (alloc_big _ _)) (below_next b4 (B3.out.alloc (Nat.le_of_lt hB0) _).drew)).mono ?_);
       rintro e w5 ⟨v5, rfl, o5, b5⟩))
  all_goals
    go_wp2_with fail
    go_ret2
    exact ⟨v5, rfl, o5, b5⟩

theorem idxK_some {xs : List Key} {id : Int} (h : 0 ≤ idxK xs id) : ∃ i : Nat, idxK xs id = i ∧ i < xs.length ∧ (at_ xs i).2.2 = id := by
  unfold idxK at *
  cases hf : xs.findIdx? (fun x => x.2.2 == id) with
  | none => rw [hf] at h; simp at h
  | some i =>
    obtain ⟨h1, h2, _⟩ := List.findIdx?_eq_some_iff_getElem.1 hf
    refine ⟨i, rfl, h1, ?_⟩
    rw [at_getElem h1] at h2
    simpa using h2
theorem idxK_neg {xs : List Key} {id : Int} (h : ¬ 0 ≤ idxK xs id) : ∀ x ∈ xs, x.2.2 ≠ id := by
  unfold idxK at *
  cases hf : xs.findIdx? (fun x => x.2.2 == id) with
  | none =>
    intro x hx
    have := List.findIdx?_eq_none_iff.1 hf x hx
    simpa using this
  | some i => rw [hf] at h; simp at h
theorem ids_of_check {xs : List Key} (h : checkV xs = 0) : idsOk xs := by
  unfold checkV twiceB at h
  by_cases hi : idsOk xs
  · exact hi
  · rw [decide_eq_false hi] at h; simp at h
theorem filter_at {xs : List Key} {id : Int} {i : Nat} (ho : idsOk xs) (hi : i < xs.length) (he : (at_ xs i).2.2 = id) : (xs.filter fun x => x.2.2 != id) = xs.take i ++ xs.drop (i + 1) := by
  unfold idsOk at ho
  have hp := (pairwise_at xs).1 ho
  have h0 : xs = xs.take i ++ at_ xs i :: xs.drop (i + 1) := by
    rw [← at_getElem hi, ← List.drop_eq_getElem_cons hi, List.take_append_drop]
  have h1 : (xs.take i).filter (fun x => x.2.2 != id) = xs.take i := by
    rw [List.filter_eq_self]
    intro x hx
    obtain ⟨j, hj, rfl⟩ := List.mem_iff_getElem.1 hx
    have hj' : j < i := by simp at hj; omega
    rw [List.getElem_take, at_getElem (by omega)]
    have := hp j i hj' hi
    rw [he] at this
    simpa using this
  have h2 : (xs.drop (i + 1)).filter (fun x => x.2.2 != id) = xs.drop (i + 1) := by
    rw [List.filter_eq_self]
    intro x hx
    obtain ⟨j, hj, rfl⟩ := List.mem_iff_getElem.1 hx
    have hj' : i + 1 + j < xs.length := by simp at hj; omega
    rw [List.getElem_drop, at_getElem hj']
    have := hp i (i + 1 + j) (by omega) hj'
    rw [he] at this
    simpa using fun e => this e.symm
  conv => lhs; rw [h0]
  rw [List.filter_append, List.filter_cons, h1, h2, if_neg (by simp [he])]
theorem filter_all {xs : List Key} {id : Int} (h : ¬ 0 ≤ idxK xs id) : (xs.filter fun x => x.2.2 != id) = xs := by
  rw [List.filter_eq_self]
  intro x hx
  simpa using idxK_neg h x hx

theorem drop_bad (v : Value) (xs : List Key) (id : Int) (w : World) (hn : xs.length ≤ 1048576) (hid : ∀ x ∈ xs, (Lit.int .u32 x.2.2).wf = true) (h : KRow w v xs) (hc : checkV xs ≠ 0) :
    Calls Try.prog 22 #[v, .int .u32 id] w fun e w' => e = .returned (.tuple #[.slice none 0 0, .bool false]) ∧ Below w.heap.size w w' := by
  have H1 : Hid (Calls Try.prog 15 #[v] w fun e w' => e = .returned (.int .i64 (checkV xs)) ∧ Below w.heap.size w w') := check_any v xs w hn hid h
  have t : (checkV xs != 0) = true := bne_iff_ne.2 hc
  clear h hn hid hc
  generalize checkV xs = cv at *
  go_enter Try.func22, Try.ntmps22
  go_wp2_with fail
  refine H1.out.mono ?_; rintro e w1 ⟨rfl, b1⟩
  go_wp2_with fail
  go_ret2
  exact ⟨rfl, b1⟩

set_option maxHeartbeats 1000000 in
theorem drop_ok (v : Value) (xs : List Key) (id : Int) (w : World) (hn : xs.length ≤ 1048576) (hid : ∀ x ∈ xs, (Lit.int .u32 x.2.2).wf = true) (h : KRow w v xs) (hc : checkV xs = 0) :
    Calls Try.prog 22 #[v, .int .u32 id] w fun e w' => ∃ v', e = .returned (.tuple #[v', .bool (dropB xs id)]) ∧ w'.ownsRow w.heap.size 24 3 v' (dropL xs id).length (flatL (dropL xs id)) ∧ Below w.heap.size w w' := by
  have H1 : Hid (Calls Try.prog 15 #[v] w fun e w' => e = .returned (.int .i64 0) ∧ Below w.heap.size w w') := by
    have := check_any v xs w hn hid h; rw [hc] at this; exact this
  have H4 : Hid (∀ w1, Below w.heap.size w w1 → Calls Try.prog 35 #[v] w1
      fun e w' => ∃ v', e = .returned v' ∧ w'.ownsRow w1.heap.size 24 3 v' xs.length (flatL xs) ∧ Below w1.heap.size w1 w') := fun w1 hb => clone_any v xs w1 hn (h.kept hb)
  have H2 : Hid (∀ v' w1 base, w1.ownsRow base 24 3 v' xs.length (flatL xs) → Calls Try.prog 39 #[v', .int .u32 id] w1 fun e w' => e = .returned (.int .i64 (idxK xs id)) ∧ Below w1.heap.size w1 w') := fun v' w1 base ho => find_any v' id xs w1 hn (krow_of_owns ho)
  have hdl : dropL xs id = xs.filter fun x => x.2.2 != id := by unfold dropL; rw [if_neg (by simp [hc])]
  have hdb : dropB xs id = decide (0 ≤ idxK xs id) := by unfold dropB; simp [hc]
  rw [hdl, hdb]
  clear hdl hdb
  by_cases hi : 0 ≤ idxK xs id
  · obtain ⟨i, hix, hil, hie⟩ := idxK_some hi
    have ef : (xs.filter fun x => x.2.2 != id) = xs.take i ++ xs.drop (i + 1) := filter_at (ids_of_check hc) hil hie
    have el : (xs.take i ++ xs.drop (i + 1)).length = i + (xs.length - (i + 1)) := by rw [List.length_append, List.length_take, List.length_drop]; omega
    have efl : flatL (xs.take i ++ xs.drop (i + 1)) = (flatL xs).take (i * 3) ++ (flatL xs).drop ((i + 1) * 3) := by rw [flatL_append, flatL_take xs i (by omega), flatL_drop xs (i + 1) (by omega)]
    rw [ef, el, efl, hix]
    rw [hix] at H2
    have H3 : Hid (∀ v' w1 base, w1.ownsRow base 24 3 v' xs.length (flatL xs) → Calls Try.prog 42 #[v', .int .i64 i, .int .i64 ((i : Int) + 1)] w1
        fun e w' => ∃ v2, e = .returned v2 ∧ w'.ownsRow base 24 3 v2 (i + (xs.length - (i + 1))) ((flatL xs).take (i * 3) ++ (flatL xs).drop ((i + 1) * 3)) ∧ w1.grownBy w' v'.ownBlock) := fun v' w1 base ho => by
      have := delIKey_any base v' xs.length i (i + 1) (flatL xs) w1 (by omega) (by omega) ho (flatL_one xs)
      rwa [show (((i + 1 : Nat)) : Int) = (i : Int) + 1 by omega] at this
    have t : decide ((i : Int) < 0) = false := decide_eq_false (by omega)
    have t2 : decide (0 ≤ (i : Int)) = true := decide_eq_true (by omega)
    rw [t2]
    have hi63 : (i : Int) + 1 ≤ 9223372036854775807 := by omega
    have hi0 : (0 : Int) ≤ i := by omega
    clear h hid hc hie ef el efl hi hix
    generalize (flatL xs).take (i * 3) ++ (flatL xs).drop ((i + 1) * 3) = fl at *
    generalize i + (xs.length - (i + 1)) = nl at *
    generalize flatL xs = fx at *
    go_enter Try.func22, Try.ntmps22
    go_wp2_with fail
    refine H1.out.mono ?_; rintro e w1 ⟨rfl, b1⟩
    go_wp2_with fail
    refine (H4.out _ b1).mono ?_; rintro e w4 ⟨v4, rfl, o4, b4⟩
    have O4 := Lib.hid o4
    have B4 := Lib.hid (below_next b4 b1)
    have hb1 := Lib.hid b1.size
    clear o4 b4 b1
    go_wp2_with fail
    refine (H2.out _ _ _ O4.out).mono ?_; rintro e w5 ⟨rfl, b5⟩
    have O5 := Lib.hid (owns_below O4.out b5)
    have B5 := Lib.hid (below_next b5 B4.out)
    clear b5 O4 B4
    go_wp2_with fail
    refine (H3.out _ _ _ O5.out).mono ?_; rintro e w6 ⟨v6, rfl, o6, g6⟩
    have O6 := Lib.hid (owns_mono o6 hb1.out)
    have B6 := Lib.hid (below_grown B5.out g6 fun j hj => Nat.le_trans hb1.out (O5.out.lt j hj).1)
    clear o6 g6
    go_wp2_with fail
    go_ret2
    exact ⟨v6, rfl, O6.out, B6.out⟩
  · rw [filter_all hi]
    have t : decide (idxK xs id < 0) = true := decide_eq_true (by omega)
    have t2 : decide (0 ≤ idxK xs id) = false := decide_eq_false hi
    rw [t2]
    clear h hid hc hi t2
    generalize idxK xs id = ix at *
    generalize flatL xs = fx at *
    go_enter Try.func22, Try.ntmps22
    go_wp2_with fail
    refine H1.out.mono ?_; rintro e w1 ⟨rfl, b1⟩
    go_wp2_with fail
    refine (H4.out _ b1).mono ?_; rintro e w4 ⟨v4, rfl, o4, b4⟩
    have O4 := Lib.hid o4
    have B4 := Lib.hid (below_next b4 b1)
    have hb1 := Lib.hid b1.size
    clear o4 b4 b1
    go_wp2_with fail
    refine (H2.out _ _ _ O4.out).mono ?_; rintro e w5 ⟨rfl, b5⟩
    have O5 := Lib.hid (owns_mono (owns_below O4.out b5) hb1.out)
    have B5 := Lib.hid (below_next b5 B4.out)
    clear b5 O4 B4
    go_wp2_with fail
    go_ret2
    exact ⟨v4, rfl, O5.out, B5.out⟩
end Go.Proofs.Ytpgiladbljnpcaa
