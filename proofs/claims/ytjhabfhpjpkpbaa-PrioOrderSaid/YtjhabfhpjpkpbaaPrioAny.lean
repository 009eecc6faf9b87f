/-
  prio.Prio's first region: the table of weights and factors, in whatever order it is made.
-/
import Derived.Test.YtjhabfhpjpkpbaaPrioRef
import Derived.Test.YtjhabfhpjpkpbaaReg
import Derived.Deep.RegionHeld3
import Derived.Deep.DeepCutAuto
import Derived.Deep.CutBlock
import Derived.Lib.ItoaWalk
namespace Go.Proofs.Ytjhabfhpjpkpbaa
open Go.ChangeShapes Go.WideShapes Go.ChangeAt Go.RowKit
set_option linter.unusedVariables false

theorem below_new (w : World) (o : Obj) : Below w.heap.size w (w.alloc o) := (Below.refl _ _).alloc (Nat.le_refl _) _

/-- Operation `k` has come up. -/
def L (listed : Array Bool) (k : Nat) : Prop := listed.getD k false = true
theorem L_set {listed : Array Bool} {i k : Nat} (h : L (listed.setIfInBounds i true) k) (hk : k ≠ i) : L listed k := by
  unfold L at *
  simp only [Array.getD_eq_getD_getElem?] at *
  rw [Array.getElem?_setIfInBounds_ne (fun e => hk e.symm)] at h
  exact h
theorem L_not {listed : Array Bool} {i n : Nat} (hn : listed.size = n) (hi : i < n) (h : listed.getD i true = false) : ¬ L listed i := by
  unfold L
  have hi' : i < listed.size := by omega
  simp [Array.getD, hi'] at h ⊢
  exact h
def upd (x : Nat → Value) (d : Nat) (v : Value) : Nat → Value := fun k => if k = d then v else x k
theorem tab_step {x : Nat → Value} {val : Nat → Value} {listed : Array Bool} {i : Nat} {v : Value} (hx : ∀ k, k < 32 → L listed k → x (16 + k) = val k) (hv : v = val i) :
    ∀ k, k < 32 → L (listed.setIfInBounds i true) k → upd x (16 + i) v (16 + k) = val k := by
  intro k hk hl
  unfold upd
  by_cases h : k = i
  · subst h; rw [if_pos rfl]; exact hv
  · rw [if_neg (by omega)]; exact hx k hk (L_set hl h)
theorem tab_keep {x : Nat → Value} {val : Nat → Value} {listed : Array Bool} {i d : Nat} {v : Value} (hx : ∀ k, k < 32 → L listed k → x (16 + k) = val k) (hi : 32 ≤ i) (hd : d < 16) :
    ∀ k, k < 32 → L (listed.setIfInBounds i true) k → upd x d v (16 + k) = val k := by
  intro k hk hl
  unfold upd
  rw [if_neg (by omega)]; exact hx k hk (L_set hl (by omega))

def prVal (n : Nat) (f a s q p since size qos part factor now all : Int) : Nat → Value
  | 0 => .pointer (some ⟨n, 0, none⟩)
  | 1 => .int .i64 f
  | 2 => .pointer (some ⟨n + 1, 6, none⟩)
  | 3 => .int .i64 factor
  | 4 => .agg #[.int .i64 f, .int .i64 factor]
  | 5 => .pointer (some ⟨n, 1, none⟩)
  | 6 => .int .i64 a
  | 7 => .pointer (some ⟨n + 1, 1, none⟩)
  | 8 => .int .i64 since
  | 9 => .int .i64 now
  | 10 => .int .i64 (ageV since now)
  | 11 => .agg #[.int .i64 a, .int .i64 (ageV since now)]
  | 12 => .pointer (some ⟨n, 2, none⟩)
  | 13 => .int .i64 s
  | 14 => .pointer (some ⟨n + 1, 2, none⟩)
  | 15 => .int .i64 size
  | 16 => .int .i64 all
  | 17 => .int .i64 (sizeV size all)
  | 18 => .agg #[.int .i64 s, .int .i64 (sizeV size all)]
  | 19 => .pointer (some ⟨n, 3, none⟩)
  | 20 => .int .i64 q
  | 21 => .pointer (some ⟨n + 1, 4, none⟩)
  | 22 => .int .i64 qos
  | 23 => .int .i64 (ofV qos 1048576)
  | 24 => .agg #[.int .i64 q, .int .i64 (ofV qos 1048576)]
  | 25 => .pointer (some ⟨n, 4, none⟩)
  | 26 => .int .i64 p
  | 27 => .pointer (some ⟨n + 1, 5, none⟩)
  | 28 => .int .i64 part
  | 29 => .int .i64 (ofV part 1048576)
  | 30 => .agg #[.int .i64 p, .int .i64 (ofV part 1048576)]
  | 31 => .agg #[.int .i64 f, .int .i64 factor, .int .i64 a, .int .i64 (ageV since now), .int .i64 s, .int .i64 (sizeV size all), .int .i64 q, .int .i64 (ofV qos 1048576), .int .i64 p, .int .i64 (ofV part 1048576)]
  | _ => undef

def prMk (n : Nat) (f a s q p id since size nice qos part factor now all : Int) (x : Nat → Value) : Act := { tmps := #[.agg #[.int .i64 f, .int .i64 a, .int .i64 s, .int .i64 q, .int .i64 p], .agg #[.int .u32 id, .int .i64 since, .int .i64 size, .int .i64 nice, .int .i64 qos, .int .i64 part, .int .i64 factor], .int .i64 now, .int .i64 all, .pointer (some ⟨n, 0, none⟩), .pointer (some ⟨n + 1, 0, none⟩), undef, undef, .int .i64 0, .int .i64 0, x 10, undef, undef, undef, undef, undef, x 16, x 17, x 18, x 19, x 20, x 21, x 22, x 23, x 24, x 25, x 26, x 27, x 28, x 29, x 30, x 31, x 32, x 33, x 34, x 35, x 36, x 37, x 38, x 39, x 40, x 41, x 42, x 43, x 44, x 45, x 46, x 47, undef, undef, undef, undef, undef, undef, undef, undef, undef, undef, undef, undef, undef, undef, undef, undef, undef, undef, undef, undef, undef, undef, undef, undef, undef, undef, undef, undef, undef, undef, undef, undef, undef, undef, undef, undef, undef, undef, undef, undef, undef, undef, undef, undef, undef, undef, undef, undef, undef, undef, undef, undef, undef, undef, undef, undef], defers := [] }

def PInv (w0 : World) (n : Nat) (f a s q p id since size nice qos part factor now all : Int) (listed : Array Bool) (ac : Act) (w' : World) : Prop :=
  ∃ x : Nat → Value, ac = prMk n f a s q p id since size nice qos part factor now all x ∧ Blk w' n #[.int .i64 f, .int .i64 a, .int .i64 s, .int .i64 q, .int .i64 p] 26 ∧ Blk w' (n + 1) #[.int .u32 id, .int .i64 since, .int .i64 size, .int .i64 nice, .int .i64 qos, .int .i64 part, .int .i64 factor] 29 ∧ Below w0.heap.size w0 w' ∧
    (∀ k, k < 32 → L listed k → x (16 + k) = prVal n f a s q p since size qos part factor now all k) ∧
    (L listed 33 → L listed 32) ∧
    (L listed 32 → ∃ (b : Nat) (y : Nat → Value), x 10 = .pointer (some ⟨b, 0, none⟩) ∧ w0.heap.size ≤ b ∧ n + 1 < b ∧ Blk w' b #[y 0, y 1, y 2, y 3, y 4, y 5, y 6, y 7, y 8, y 9] 57 ∧ (L listed 33 → #[y 0, y 1, y 2, y 3, y 4, y 5, y 6, y 7, y 8, y 9] = #[.int .i64 f, .int .i64 factor, .int .i64 a, .int .i64 (ageV since now), .int .i64 s, .int .i64 (sizeV size all), .int .i64 q, .int .i64 (ofV qos 1048576), .int .i64 p, .int .i64 (ofV part 1048576)]))

theorem L_mono {listed : Array Bool} {i k : Nat} (h : L listed k) : L (listed.setIfInBounds i true) k := by
  unfold L at *
  simp only [Array.getD_eq_getD_getElem?] at *
  by_cases e : i = k
  · subst e
    rw [Array.getElem?_setIfInBounds_self]
    split
    · rfl
    · rename_i hn
      rw [Array.getElem?_eq_none (by omega)] at h
      simp at h
  · rw [Array.getElem?_setIfInBounds_ne e]; exact h
def needsB (ops : Array Oper) (i j : Nat) : Bool := match ops[i]? with | some o => o.after.any (fun e => e.on == j && Region.binds .any e) | none => false
theorem listed_of_need {ops : Array Oper} {listed : Array Bool} {i j : Nat} (hi : i ∈ Region.ready .any ops listed) (h : needsB ops i j = true) : L listed j := by
  obtain ⟨h1, h2, h3⟩ := mem_ready hi
  unfold needsB at h
  have ho : ops[i]? = some ops[i] := Array.getElem?_eq_getElem h1
  rw [ho] at h
  simp only [Array.any_eq_true'] at h
  obtain ⟨e, he, h4⟩ := h
  rw [Bool.and_eq_true] at h4
  have h5 := h3 _ ho e he h4.2
  have h6 : e.on = j := by simpa using h4.1
  rw [← h6]; exact h5
theorem pinv_of {w w' : World} {n : Nat} {f a s q p id since size nice qos part factor now all : Int} {listed : Array Bool} {ac ac' : Act} (h : PInv w n f a s q p id since size nice qos part factor now all listed ac w') (e : ac' = ac) : PInv w n f a s q p id since size nice qos part factor now all listed ac' w' := e ▸ h
theorem pinv_step {w w' w2 : World} {n : Nat} {f a s q p id since size nice qos part factor now all : Int} {listed : Array Bool} {x : Nat → Value} (i : Nat) (v : Value) (hi : i < 32) (hv : v = prVal n f a s q p since size qos part factor now all i)
    (B1 : Blk w' n #[.int .i64 f, .int .i64 a, .int .i64 s, .int .i64 q, .int .i64 p] 26) (B2 : Blk w' (n + 1) #[.int .u32 id, .int .i64 since, .int .i64 size, .int .i64 nice, .int .i64 qos, .int .i64 part, .int .i64 factor] 29) (bw : Below w.heap.size w w')
    (hx : ∀ k, k < 32 → L listed k → x (16 + k) = prVal n f a s q p since size qos part factor now all k) (h33 : L listed 33 → L listed 32)
    (hb : L listed 32 → ∃ (b : Nat) (y : Nat → Value), x 10 = .pointer (some ⟨b, 0, none⟩) ∧ w.heap.size ≤ b ∧ n + 1 < b ∧ Blk w' b #[y 0, y 1, y 2, y 3, y 4, y 5, y 6, y 7, y 8, y 9] 57 ∧ (L listed 33 → #[y 0, y 1, y 2, y 3, y 4, y 5, y 6, y 7, y 8, y 9] = #[.int .i64 f, .int .i64 factor, .int .i64 a, .int .i64 (ageV since now), .int .i64 s, .int .i64 (sizeV size all), .int .i64 q, .int .i64 (ofV qos 1048576), .int .i64 p, .int .i64 (ofV part 1048576)]))
    (hw : Below w'.heap.size w' w2) : PInv w n f a s q p id since size nice qos part factor now all (listed.setIfInBounds i true) (prMk n f a s q p id since size nice qos part factor now all (upd x (16 + i) v)) w2 := by
  refine ⟨upd x (16 + i) v, rfl, B1.kept hw, B2.kept hw, below_next hw bw, ?_, fun h => L_mono (h33 (L_set h (by omega))), ?_⟩
  · exact tab_step hx hv
  · intro h
    obtain ⟨b, z, e1, e2, e3, e4, e5⟩ := hb (L_set h (by omega))
    refine ⟨b, z, ?_, e2, e3, e4.kept hw, fun h' => e5 (L_set h' (by omega))⟩
    unfold upd
    rw [if_neg (by omega)]; exact e1

theorem set10 {W : World} {b : Nat} {y : Nat → Value} {t : TypeId} (h : Blk W b #[y 0, y 1, y 2, y 3, y 4, y 5, y 6, y 7, y 8, y 9] t) (v0 v1 v2 v3 v4 v5 v6 v7 v8 v9 : Value) : Blk ((((((((((W.setCell ⟨b, 0, none⟩ v0).setCell ⟨b, 1, none⟩ v1).setCell ⟨b, 2, none⟩ v2).setCell ⟨b, 3, none⟩ v3).setCell ⟨b, 4, none⟩ v4).setCell ⟨b, 5, none⟩ v5).setCell ⟨b, 6, none⟩ v6).setCell ⟨b, 7, none⟩ v7).setCell ⟨b, 8, none⟩ v8).setCell ⟨b, 9, none⟩ v9) b #[v0, v1, v2, v3, v4, v5, v6, v7, v8, v9] t := by
  have := (((((((((h.set 0 v0).set 1 v1).set 2 v2).set 3 v3).set 4 v4).set 5 v5).set 6 v6).set 7 v7).set 8 v8).set 9 v9
  simpa using this
theorem set10_other {W : World} {b c : Nat} {cs : Array Value} {t : TypeId} (h : Blk W c cs t) (hne : c ≠ b) (v0 v1 v2 v3 v4 v5 v6 v7 v8 v9 : Value) : Blk ((((((((((W.setCell ⟨b, 0, none⟩ v0).setCell ⟨b, 1, none⟩ v1).setCell ⟨b, 2, none⟩ v2).setCell ⟨b, 3, none⟩ v3).setCell ⟨b, 4, none⟩ v4).setCell ⟨b, 5, none⟩ v5).setCell ⟨b, 6, none⟩ v6).setCell ⟨b, 7, none⟩ v7).setCell ⟨b, 8, none⟩ v8).setCell ⟨b, 9, none⟩ v9) c cs t :=
  (((((((((h.other hne v0).other hne v1).other hne v2).other hne v3).other hne v4).other hne v5).other hne v6).other hne v7).other hne v8).other hne v9
theorem set10_below {B : Nat} {X W : World} {b : Nat} (h : Below B X W) (hb : B ≤ b) (v0 v1 v2 v3 v4 v5 v6 v7 v8 v9 : Value) : Below B X ((((((((((W.setCell ⟨b, 0, none⟩ v0).setCell ⟨b, 1, none⟩ v1).setCell ⟨b, 2, none⟩ v2).setCell ⟨b, 3, none⟩ v3).setCell ⟨b, 4, none⟩ v4).setCell ⟨b, 5, none⟩ v5).setCell ⟨b, 6, none⟩ v6).setCell ⟨b, 7, none⟩ v7).setCell ⟨b, 8, none⟩ v8).setCell ⟨b, 9, none⟩ v9) :=
  (((((((((h.setCell hb v0).setCell hb v1).setCell hb v2).setCell hb v3).setCell hb v4).setCell hb v5).setCell hb v6).setCell hb v7).setCell hb v8).setCell hb v9


set_option linter.unusedSimpArgs false
def prOk (f a s q p id since nice factor now all : Int) : Bool :=
  inB f 0 1048576 && inB a 0 1048576 && inB s 0 1048576 && inB q 0 1048576 && inB p 0 1048576 && !(id == 0) && inB factor 0 65536 && inB nice (-10000) 10000 && decide (0 ≤ since) && inB now 0 1099511627776 && inB all 1 1048576
def prSum (f a s q p since size qos part factor now all : Int) : Int :=
  f * factor / 65536 + a * ageV since now / 65536 + s * sizeV size all / 65536 + q * ofV qos 1048576 / 65536 + p * ofV part 1048576 / 65536
def prV (f a s q p id since size nice qos part factor now all : Int) : Int := if prOk f a s q p id since nice factor now all then prSum f a s q p since size qos part factor now all - nice else 0
def prE (f a s q p id since nice factor now all : Int) : Int := if prOk f a s q p id since nice factor now all then 0 else 2

theorem idx_0 (v0 v1 v2 v3 v4 v5 v6 v7 v8 v9 : Value) (w : World) : Sem.run Try.prog (Instr.index 57 (.agg #[v0, v1, v2, v3, v4, v5, v6, v7, v8, v9]) (.int .i64 0)) w = .ok (.agg #[v0, v1]) w := by kernel_rfl
theorem idx_1 (v0 v1 v2 v3 v4 v5 v6 v7 v8 v9 : Value) (w : World) : Sem.run Try.prog (Instr.index 57 (.agg #[v0, v1, v2, v3, v4, v5, v6, v7, v8, v9]) (.int .i64 1)) w = .ok (.agg #[v2, v3]) w := by kernel_rfl
theorem idx_2 (v0 v1 v2 v3 v4 v5 v6 v7 v8 v9 : Value) (w : World) : Sem.run Try.prog (Instr.index 57 (.agg #[v0, v1, v2, v3, v4, v5, v6, v7, v8, v9]) (.int .i64 2)) w = .ok (.agg #[v4, v5]) w := by kernel_rfl
theorem idx_3 (v0 v1 v2 v3 v4 v5 v6 v7 v8 v9 : Value) (w : World) : Sem.run Try.prog (Instr.index 57 (.agg #[v0, v1, v2, v3, v4, v5, v6, v7, v8, v9]) (.int .i64 3)) w = .ok (.agg #[v6, v7]) w := by kernel_rfl
theorem idx_4 (v0 v1 v2 v3 v4 v5 v6 v7 v8 v9 : Value) (w : World) : Sem.run Try.prog (Instr.index 57 (.agg #[v0, v1, v2, v3, v4, v5, v6, v7, v8, v9]) (.int .i64 4)) w = .ok (.agg #[v8, v9]) w := by kernel_rfl
attribute [local go_sem] idx_0 idx_1 idx_2 idx_3 idx_4

theorem below_al {X W : World} (h : Below X.heap.size X W) (o : Obj) : Below X.heap.size X (W.alloc o) := h.alloc h.size _

theorem inB_in {n a b : Int} (h : inB n a b = true) : a ≤ n ∧ n ≤ b := of_decide_eq_true h
theorem mul_bd {f x : Int} (h : inB f 0 1048576 = true) (hx : 0 ≤ x ∧ x ≤ 65536) : 0 ≤ f * x ∧ f * x ≤ 68719476736 := by
  obtain ⟨h1, h2⟩ := inB_in h
  obtain ⟨h3, h4⟩ := hx
  refine ⟨Int.mul_nonneg h1 h3, ?_⟩
  have := Int.mul_le_mul h2 h4 h3 (by omega)
  omega

set_option maxRecDepth 100000 in
set_option maxHeartbeats 4000000 in
theorem prio_any (f a s q p id since size nice qos part factor now all : Int) (w : World)
    (h1 : I64 since) (h2 : I64 size) (h3 : I64 qos) (h4 : I64 part) (h5 : I64 now) (h6 : I64 all) :
    Calls Try.prog 17 #[.agg #[.int .i64 f, .int .i64 a, .int .i64 s, .int .i64 q, .int .i64 p], .agg #[.int .u32 id, .int .i64 since, .int .i64 size, .int .i64 nice, .int .i64 qos, .int .i64 part, .int .i64 factor], .int .i64 now, .int .i64 all] w
      fun e w' => e = .returned (.tuple #[.int .i64 (prV f a s q p id since size nice qos part factor now all), .int .i64 (prE f a s q p id since nice factor now all)]) ∧ Below w.heap.size w w' := by
  have C1 := Lib.hid h1
  have C2 := Lib.hid h2
  have C3 := Lib.hid h3
  have C4 := Lib.hid h4
  have C5 := Lib.hid h5
  have C6 := Lib.hid h6
  clear h1 h2 h3 h4 h5 h6
  go_enter Try.func17, Try.ntmps17
  go_wp2_with fail
  go_upto_region 2 with fail
  go_cut [10] (fun sl wx => ∃ b, sl = .pointer (some ⟨b, 0, none⟩) ∧ Blk wx b #[.int .i64 f, .int .i64 factor, .int .i64 a, .int .i64 (ageV since now), .int .i64 s, .int .i64 (sizeV size all), .int .i64 q, .int .i64 (ofV qos 1048576), .int .i64 p, .int .i64 (ofV part 1048576)] 57 ∧ Blk wx (w.heap.size + 1) #[.int .u32 id, .int .i64 since, .int .i64 size, .int .i64 nice, .int .i64 qos, .int .i64 part, .int .i64 factor] 29 ∧ Below w.heap.size w wx)
  case rest =>
    obtain ⟨b, rfl, P0, A0, bw⟩ := hcut
    have c0 := P0.cell 0; simp at c0
    have c1 := P0.cell 1; simp at c1
    have c2 := P0.cell 2; simp at c2
    have c3 := P0.cell 3; simp at c3
    have c4 := P0.cell 4; simp at c4
    have c5 := P0.cell 5; simp at c5
    have c6 := P0.cell 6; simp at c6
    have c7 := P0.cell 7; simp at c7
    have c8 := P0.cell 8; simp at c8
    have c9 := P0.cell 9; simp at c9
    go_wp2_with fail
    refine wp_loop_rounds 6 ?_
    rw [rounds_succ]
    go_wp2_with fail
    refine (within_any _ _ _ _).mono ?_; rintro e w1 ⟨rfl, rfl⟩
    cases q0 : inB f 0 1048576
    · go_wp2_with fail
      go_ret2
      exact ⟨ret_tup2 (by simp [prV, prOk, q0]) (by simp [prE, prOk, q0]), by repeat (first | exact bw | refine below_al ?_ _)⟩
    go_wp2_with fail
    rw [rounds_succ]
    go_wp2_with fail
    refine (within_any _ _ _ _).mono ?_; rintro e w1 ⟨rfl, rfl⟩
    cases q1 : inB a 0 1048576
    · go_wp2_with fail
      go_ret2
      exact ⟨ret_tup2 (by simp [prV, prOk, q0, q1]) (by simp [prE, prOk, q0, q1]), by repeat (first | exact bw | refine below_al ?_ _)⟩
    go_wp2_with fail
    rw [rounds_succ]
    go_wp2_with fail
    refine (within_any _ _ _ _).mono ?_; rintro e w1 ⟨rfl, rfl⟩
    cases q2 : inB s 0 1048576
    · go_wp2_with fail
      go_ret2
      exact ⟨ret_tup2 (by simp [prV, prOk, q0, q1, q2]) (by simp [prE, prOk, q0, q1, q2]), by repeat (first | exact bw | refine below_al ?_ _)⟩
    go_wp2_with fail
    rw [rounds_succ]
    go_wp2_with fail
    refine (within_any _ _ _ _).mono ?_; rintro e w1 ⟨rfl, rfl⟩
    cases q3 : inB q 0 1048576
    · go_wp2_with fail
      go_ret2
      exact ⟨ret_tup2 (by simp [prV, prOk, q0, q1, q2, q3]) (by simp [prE, prOk, q0, q1, q2, q3]), by repeat (first | exact bw | refine below_al ?_ _)⟩
    go_wp2_with fail
    rw [rounds_succ]
    go_wp2_with fail
    refine (within_any _ _ _ _).mono ?_; rintro e w1 ⟨rfl, rfl⟩
    cases q4 : inB p 0 1048576
    · go_wp2_with fail
      go_ret2
      exact ⟨ret_tup2 (by simp [prV, prOk, q0, q1, q2, q3, q4]) (by simp [prE, prOk, q0, q1, q2, q3, q4]), by repeat (first | exact bw | refine below_al ?_ _)⟩
    go_wp2_with fail
    rw [rounds_succ]
    go_name_world w5 hw5
    have P5 : Blk w5 b #[.int .i64 f, .int .i64 factor, .int .i64 a, .int .i64 (ageV since now), .int .i64 s, .int .i64 (sizeV size all), .int .i64 q, .int .i64 (ofV qos 1048576), .int .i64 p, .int .i64 (ofV part 1048576)] 57 := by rw [← hw5]; exact ((((P0.old _).old _).old _).old _).old _
    have A5 : Blk w5 (w.heap.size + 1) #[.int .u32 id, .int .i64 since, .int .i64 size, .int .i64 nice, .int .i64 qos, .int .i64 part, .int .i64 factor] 29 := by rw [← hw5]; exact ((((A0.old _).old _).old _).old _).old _
    have b5 : Below w.heap.size w w5 := by rw [← hw5]; exact below_al (below_al (below_al (below_al (below_al bw _) _) _) _) _
    clear hw5 P0 A0 bw c0 c1 c2 c3 c4 c5 c6 c7 c8 c9
    have a0 := A5.cell 0; simp at a0
    have a1 := A5.cell 1; simp at a1
    have a3 := A5.cell 3; simp at a3
    have a6 := A5.cell 6; simp at a6
    by_cases qi : id = 0
    · go_wp2_with fail
      go_ret2
      exact ⟨ret_tup2 (by simp [prV, prOk, q0, q1, q2, q3, q4, qi]) (by simp [prE, prOk, q0, q1, q2, q3, q4, qi]), b5⟩
    have qi' : (id != 0) = true := by simp [qi]
    go_wp2_with fail
    refine (within_any _ _ _ _).mono ?_; rintro e w1 ⟨rfl, rfl⟩
    cases q5 : inB factor 0 65536
    · go_wp2_with fail
      go_ret2
      exact ⟨ret_tup2 (by simp [prV, prOk, q0, q1, q2, q3, q4, qi, q5]) (by simp [prE, prOk, q0, q1, q2, q3, q4, qi, q5]), b5⟩
    go_wp2_with fail
    refine (within_any _ _ _ _).mono ?_; rintro e w1 ⟨rfl, rfl⟩
    cases q6 : inB nice (-10000) 10000
    · go_wp2_with fail
      go_ret2
      exact ⟨ret_tup2 (by simp [prV, prOk, q0, q1, q2, q3, q4, qi, q5, q6]) (by simp [prE, prOk, q0, q1, q2, q3, q4, qi, q5, q6]), b5⟩
    cases q7 : decide (0 ≤ since)
    · go_wp2_with fail
      go_ret2
      exact ⟨ret_tup2 (by simp [prV, prOk, q0, q1, q2, q3, q4, qi, q5, q6, q7]) (by simp [prE, prOk, q0, q1, q2, q3, q4, qi, q5, q6, q7]), b5⟩
    go_wp2_with fail
    refine (within_any _ _ _ _).mono ?_; rintro e w1 ⟨rfl, rfl⟩
    cases q8 : inB now 0 1099511627776
    · go_wp2_with fail
      go_ret2
      exact ⟨ret_tup2 (by simp [prV, prOk, q0, q1, q2, q3, q4, qi, q5, q6, q7, q8]) (by simp [prE, prOk, q0, q1, q2, q3, q4, qi, q5, q6, q7, q8]), b5⟩
    go_wp2_with fail
    refine (within_any _ _ _ _).mono ?_; rintro e w1 ⟨rfl, rfl⟩
    cases q9 : inB all 1 1048576
    · go_wp2_with fail
      go_ret2
      exact ⟨ret_tup2 (by simp [prV, prOk, q0, q1, q2, q3, q4, qi, q5, q6, q7, q8, q9]) (by simp [prE, prOk, q0, q1, q2, q3, q4, qi, q5, q6, q7, q8, q9]), b5⟩
    have hok : prOk f a s q p id since nice factor now all = true := by simp [prOk, q0, q1, q2, q3, q4, qi, q5, q6, q7, q8, q9]
    have hV : prV f a s q p id since size nice qos part factor now all = prSum f a s q p since size qos part factor now all - nice := by unfold prV; rw [if_pos hok]
    have hE : prE f a s q p id since nice factor now all = 0 := by unfold prE; rw [if_pos hok]
    unfold prSum at hV
    have m0 := mul_bd q0 (inB_in q5)
    have m1 := mul_bd q1 (ageV_bd since now)
    have m2 := mul_bd q2 (sizeV_bd size all)
    have m3 := mul_bd q3 (ofV_bd qos 1048576)
    have m4 := mul_bd q4 (ofV_bd part 1048576)
    have mn := inB_in q6
    obtain ⟨m0, m0'⟩ := m0
    obtain ⟨m1, m1'⟩ := m1
    obtain ⟨m2, m2'⟩ := m2
    obtain ⟨m3, m3'⟩ := m3
    obtain ⟨m4, m4'⟩ := m4
    obtain ⟨mn, mn'⟩ := mn
    generalize ageV since now = x1 at *
    generalize sizeV size all = x2 at *
    generalize ofV qos 1048576 = x3 at *
    generalize ofV part 1048576 = x4 at *
    have HV := Lib.hid hV
    have HE := Lib.hid hE
    clear hV hE hok q0 q1 q2 q3 q4 q5 q6 q7 q8 q9 C1 C2 C3 C4 C5 C6 a0 a1 a6
    have c0 := P5.cell 0; simp at c0
    have c1 := P5.cell 1; simp at c1
    have c2 := P5.cell 2; simp at c2
    have c3 := P5.cell 3; simp at c3
    have c4 := P5.cell 4; simp at c4
    have c5 := P5.cell 5; simp at c5
    have c6 := P5.cell 6; simp at c6
    have c7 := P5.cell 7; simp at c7
    have c8 := P5.cell 8; simp at c8
    have c9 := P5.cell 9; simp at c9
    go_wp2_with fail
    refine wp_loop_rounds 6 ?_
    rw [rounds_succ]
    go_wp2_with fail
    rw [rounds_succ]
    go_wp2_with fail
    rw [rounds_succ]
    go_wp2_with fail
    rw [rounds_succ]
    go_wp2_with fail
    rw [rounds_succ]
    go_wp2_with fail
    rw [rounds_succ]
    go_name_world w6 hw6
    have A6 : Blk w6 (w.heap.size + 1) #[.int .u32 id, .int .i64 since, .int .i64 size, .int .i64 nice, .int .i64 qos, .int .i64 part, .int .i64 factor] 29 := by rw [← hw6]; exact ((((A5.old _).old _).old _).old _).old _
    have b6 : Below w.heap.size w w6 := by rw [← hw6]; exact below_al (below_al (below_al (below_al (below_al b5 _) _) _) _) _
    clear hw6 P5 A5 b5 c0 c1 c2 c3 c4 c5 c6 c7 c8 c9 a3
    have a3 := A6.cell 3; simp at a3
    go_wp2_with fail
    go_ret2
    exact ⟨ret_tup2 HV.out.symm HE.out.symm, b6⟩

  case first =>
  refine wp_region_inv (PInv w w.heap.size f a s q p id since size nice qos part factor now all) (by kernel_rfl) (by kernel_rfl) ?_ ?_ ?_
  · refine ⟨fun _ => undef, rfl, ?_, ?_, ?_, ?_, ?_, ?_⟩
    · exact ((Blk.new _ _ _).old _).drew
    · exact (Blk.fresh _ _ _ _ (by simp)).drew
    · exact ((Below.refl _ _).alloc (Nat.le_refl _) _).alloc (by simp) _ |>.drew
    · intro k hk h; exact absurd h (by unfold L; simp [Array.getD])
    · intro h; exact absurd h (by unfold L; simp [Array.getD])
    · intro h; exact absurd h (by unfold L; simp [Array.getD])
  · intro i listed ac w' hsz hI hi
    obtain ⟨x, rfl, B1, B2, bw, hx, h33, hb⟩ := hI
    obtain ⟨hi1, hi2, hi3⟩ := mem_ready hi
    match i, hi1 with
    | 0, _ =>
      refine wpOp_step rfl (fun K hK => ?_)
      unfold prMk
      go_simp
      exact hK _ _ (pinv_of (pinv_step (x := x) 0 (.pointer (some ⟨w.heap.size, 0, none⟩)) (by omega) rfl B1 B2 bw hx h33 hb (Below.refl _ _)) (by simp [prMk, upd]))
    | 1, _ =>
      have d16 := hx 0 (by omega) (listed_of_need hi (by kernel_rfl))
      simp only [prVal] at d16
      have c := B1.cell 0
      simp at c
      refine wpOp_step rfl (fun K hK => ?_)
      unfold prMk
      simp only [d16]
      go_simp
      exact hK _ _ (pinv_of (pinv_step (x := x) 1 (.int .i64 f) (by omega) rfl B1 B2 bw hx h33 hb (Below.refl _ _)) (by simp [prMk, upd, d16]))
    | 2, _ =>
      refine wpOp_step rfl (fun K hK => ?_)
      unfold prMk
      go_simp
      exact hK _ _ (pinv_of (pinv_step (x := x) 2 (.pointer (some ⟨w.heap.size + 1, 6, none⟩)) (by omega) rfl B1 B2 bw hx h33 hb (Below.refl _ _)) (by simp [prMk, upd]))
    | 3, _ =>
      have d18 := hx 2 (by omega) (listed_of_need hi (by kernel_rfl))
      simp only [prVal] at d18
      have c := B2.cell 6
      simp at c
      refine wpOp_step rfl (fun K hK => ?_)
      unfold prMk
      simp only [d18]
      go_simp
      exact hK _ _ (pinv_of (pinv_step (x := x) 3 (.int .i64 factor) (by omega) rfl B1 B2 bw hx h33 hb (Below.refl _ _)) (by simp [prMk, upd, d18]))
    | 4, _ =>
      have d17 := hx 1 (by omega) (listed_of_need hi (by kernel_rfl))
      have d19 := hx 3 (by omega) (listed_of_need hi (by kernel_rfl))
      simp only [prVal] at d17 d19
      refine wpOp_step rfl (fun K hK => ?_)
      unfold prMk
      simp only [d17, d19]
      go_simp
      exact hK _ _ (pinv_of (pinv_step (x := x) 4 (.agg #[.int .i64 f, .int .i64 factor]) (by omega) rfl B1 B2 bw hx h33 hb (Below.refl _ _)) (by simp [prMk, upd, d17, d19]))
    | 5, _ =>
      refine wpOp_step rfl (fun K hK => ?_)
      unfold prMk
      go_simp
      exact hK _ _ (pinv_of (pinv_step (x := x) 5 (.pointer (some ⟨w.heap.size, 1, none⟩)) (by omega) rfl B1 B2 bw hx h33 hb (Below.refl _ _)) (by simp [prMk, upd]))
    | 6, _ =>
      have d21 := hx 5 (by omega) (listed_of_need hi (by kernel_rfl))
      simp only [prVal] at d21
      have c := B1.cell 1
      simp at c
      refine wpOp_step rfl (fun K hK => ?_)
      unfold prMk
      simp only [d21]
      go_simp
      exact hK _ _ (pinv_of (pinv_step (x := x) 6 (.int .i64 a) (by omega) rfl B1 B2 bw hx h33 hb (Below.refl _ _)) (by simp [prMk, upd, d21]))
    | 7, _ =>
      refine wpOp_step rfl (fun K hK => ?_)
      unfold prMk
      go_simp
      exact hK _ _ (pinv_of (pinv_step (x := x) 7 (.pointer (some ⟨w.heap.size + 1, 1, none⟩)) (by omega) rfl B1 B2 bw hx h33 hb (Below.refl _ _)) (by simp [prMk, upd]))
    | 8, _ =>
      have d23 := hx 7 (by omega) (listed_of_need hi (by kernel_rfl))
      simp only [prVal] at d23
      have c := B2.cell 1
      simp at c
      refine wpOp_step rfl (fun K hK => ?_)
      unfold prMk
      simp only [d23]
      go_simp
      exact hK _ _ (pinv_of (pinv_step (x := x) 8 (.int .i64 since) (by omega) rfl B1 B2 bw hx h33 hb (Below.refl _ _)) (by simp [prMk, upd, d23]))
    | 9, _ =>
      refine wpOp_step rfl (fun K hK => ?_)
      unfold prMk
      go_simp
      exact hK _ _ (pinv_of (pinv_step (x := x) 9 (.int .i64 now) (by omega) rfl B1 B2 bw hx h33 hb (Below.refl _ _)) (by simp [prMk, upd]))
    | 10, _ =>
      have d24 := hx 8 (by omega) (listed_of_need hi (by kernel_rfl))
      have d25 := hx 9 (by omega) (listed_of_need hi (by kernel_rfl))
      simp only [prVal] at d24 d25
      refine wpOp_step rfl (fun K hK => ?_)
      unfold prMk
      simp only [d24, d25]
      go_simp
      refine (prioAge_any _ _ _ C1.out C5.out).mono ?_; rintro e w2 ⟨rfl, b2⟩
      go_simp
      exact hK _ _ (pinv_of (pinv_step (x := x) 10 (.int .i64 (ageV since now)) (by omega) rfl B1 B2 bw hx h33 hb b2) (by simp [prMk, upd, d24, d25]))
    | 11, _ =>
      have d22 := hx 6 (by omega) (listed_of_need hi (by kernel_rfl))
      have d26 := hx 10 (by omega) (listed_of_need hi (by kernel_rfl))
      simp only [prVal] at d22 d26
      refine wpOp_step rfl (fun K hK => ?_)
      unfold prMk
      simp only [d22, d26]
      go_simp
      exact hK _ _ (pinv_of (pinv_step (x := x) 11 (.agg #[.int .i64 a, .int .i64 (ageV since now)]) (by omega) rfl B1 B2 bw hx h33 hb (Below.refl _ _)) (by simp [prMk, upd, d22, d26]))
    | 12, _ =>
      refine wpOp_step rfl (fun K hK => ?_)
      unfold prMk
      go_simp
      exact hK _ _ (pinv_of (pinv_step (x := x) 12 (.pointer (some ⟨w.heap.size, 2, none⟩)) (by omega) rfl B1 B2 bw hx h33 hb (Below.refl _ _)) (by simp [prMk, upd]))
    | 13, _ =>
      have d28 := hx 12 (by omega) (listed_of_need hi (by kernel_rfl))
      simp only [prVal] at d28
      have c := B1.cell 2
      simp at c
      refine wpOp_step rfl (fun K hK => ?_)
      unfold prMk
      simp only [d28]
      go_simp
      exact hK _ _ (pinv_of (pinv_step (x := x) 13 (.int .i64 s) (by omega) rfl B1 B2 bw hx h33 hb (Below.refl _ _)) (by simp [prMk, upd, d28]))
    | 14, _ =>
      refine wpOp_step rfl (fun K hK => ?_)
      unfold prMk
      go_simp
      exact hK _ _ (pinv_of (pinv_step (x := x) 14 (.pointer (some ⟨w.heap.size + 1, 2, none⟩)) (by omega) rfl B1 B2 bw hx h33 hb (Below.refl _ _)) (by simp [prMk, upd]))
    | 15, _ =>
      have d30 := hx 14 (by omega) (listed_of_need hi (by kernel_rfl))
      simp only [prVal] at d30
      have c := B2.cell 2
      simp at c
      refine wpOp_step rfl (fun K hK => ?_)
      unfold prMk
      simp only [d30]
      go_simp
      exact hK _ _ (pinv_of (pinv_step (x := x) 15 (.int .i64 size) (by omega) rfl B1 B2 bw hx h33 hb (Below.refl _ _)) (by simp [prMk, upd, d30]))
    | 16, _ =>
      refine wpOp_step rfl (fun K hK => ?_)
      unfold prMk
      go_simp
      exact hK _ _ (pinv_of (pinv_step (x := x) 16 (.int .i64 all) (by omega) rfl B1 B2 bw hx h33 hb (Below.refl _ _)) (by simp [prMk, upd]))
    | 17, _ =>
      have d31 := hx 15 (by omega) (listed_of_need hi (by kernel_rfl))
      have d32 := hx 16 (by omega) (listed_of_need hi (by kernel_rfl))
      simp only [prVal] at d31 d32
      refine wpOp_step rfl (fun K hK => ?_)
      unfold prMk
      simp only [d31, d32]
      go_simp
      refine (prioSize_any _ _ _ C2.out C6.out).mono ?_; rintro e w2 ⟨rfl, b2⟩
      go_simp
      exact hK _ _ (pinv_of (pinv_step (x := x) 17 (.int .i64 (sizeV size all)) (by omega) rfl B1 B2 bw hx h33 hb b2) (by simp [prMk, upd, d31, d32]))
    | 18, _ =>
      have d29 := hx 13 (by omega) (listed_of_need hi (by kernel_rfl))
      have d33 := hx 17 (by omega) (listed_of_need hi (by kernel_rfl))
      simp only [prVal] at d29 d33
      refine wpOp_step rfl (fun K hK => ?_)
      unfold prMk
      simp only [d29, d33]
      go_simp
      exact hK _ _ (pinv_of (pinv_step (x := x) 18 (.agg #[.int .i64 s, .int .i64 (sizeV size all)]) (by omega) rfl B1 B2 bw hx h33 hb (Below.refl _ _)) (by simp [prMk, upd, d29, d33]))
    | 19, _ =>
      refine wpOp_step rfl (fun K hK => ?_)
      unfold prMk
      go_simp
      exact hK _ _ (pinv_of (pinv_step (x := x) 19 (.pointer (some ⟨w.heap.size, 3, none⟩)) (by omega) rfl B1 B2 bw hx h33 hb (Below.refl _ _)) (by simp [prMk, upd]))
    | 20, _ =>
      have d35 := hx 19 (by omega) (listed_of_need hi (by kernel_rfl))
      simp only [prVal] at d35
      have c := B1.cell 3
      simp at c
      refine wpOp_step rfl (fun K hK => ?_)
      unfold prMk
      simp only [d35]
      go_simp
      exact hK _ _ (pinv_of (pinv_step (x := x) 20 (.int .i64 q) (by omega) rfl B1 B2 bw hx h33 hb (Below.refl _ _)) (by simp [prMk, upd, d35]))
    | 21, _ =>
      refine wpOp_step rfl (fun K hK => ?_)
      unfold prMk
      go_simp
      exact hK _ _ (pinv_of (pinv_step (x := x) 21 (.pointer (some ⟨w.heap.size + 1, 4, none⟩)) (by omega) rfl B1 B2 bw hx h33 hb (Below.refl _ _)) (by simp [prMk, upd]))
    | 22, _ =>
      have d37 := hx 21 (by omega) (listed_of_need hi (by kernel_rfl))
      simp only [prVal] at d37
      have c := B2.cell 4
      simp at c
      refine wpOp_step rfl (fun K hK => ?_)
      unfold prMk
      simp only [d37]
      go_simp
      exact hK _ _ (pinv_of (pinv_step (x := x) 22 (.int .i64 qos) (by omega) rfl B1 B2 bw hx h33 hb (Below.refl _ _)) (by simp [prMk, upd, d37]))
    | 23, _ =>
      have d38 := hx 22 (by omega) (listed_of_need hi (by kernel_rfl))
      simp only [prVal] at d38
      refine wpOp_step rfl (fun K hK => ?_)
      unfold prMk
      simp only [d38]
      go_simp
      refine (prioOf_any _ _ _ C3.out (by decide)).mono ?_; rintro e w2 ⟨rfl, b2⟩
      go_simp
      exact hK _ _ (pinv_of (pinv_step (x := x) 23 (.int .i64 (ofV qos 1048576)) (by omega) rfl B1 B2 bw hx h33 hb b2) (by simp [prMk, upd, d38]))
    | 24, _ =>
      have d36 := hx 20 (by omega) (listed_of_need hi (by kernel_rfl))
      have d39 := hx 23 (by omega) (listed_of_need hi (by kernel_rfl))
      simp only [prVal] at d36 d39
      refine wpOp_step rfl (fun K hK => ?_)
      unfold prMk
      simp only [d36, d39]
      go_simp
      exact hK _ _ (pinv_of (pinv_step (x := x) 24 (.agg #[.int .i64 q, .int .i64 (ofV qos 1048576)]) (by omega) rfl B1 B2 bw hx h33 hb (Below.refl _ _)) (by simp [prMk, upd, d36, d39]))
    | 25, _ =>
      refine wpOp_step rfl (fun K hK => ?_)
      unfold prMk
      go_simp
      exact hK _ _ (pinv_of (pinv_step (x := x) 25 (.pointer (some ⟨w.heap.size, 4, none⟩)) (by omega) rfl B1 B2 bw hx h33 hb (Below.refl _ _)) (by simp [prMk, upd]))
    | 26, _ =>
      have d41 := hx 25 (by omega) (listed_of_need hi (by kernel_rfl))
      simp only [prVal] at d41
      have c := B1.cell 4
      simp at c
      refine wpOp_step rfl (fun K hK => ?_)
      unfold prMk
      simp only [d41]
      go_simp
      exact hK _ _ (pinv_of (pinv_step (x := x) 26 (.int .i64 p) (by omega) rfl B1 B2 bw hx h33 hb (Below.refl _ _)) (by simp [prMk, upd, d41]))
    | 27, _ =>
      refine wpOp_step rfl (fun K hK => ?_)
      unfold prMk
      go_simp
      exact hK _ _ (pinv_of (pinv_step (x := x) 27 (.pointer (some ⟨w.heap.size + 1, 5, none⟩)) (by omega) rfl B1 B2 bw hx h33 hb (Below.refl _ _)) (by simp [prMk, upd]))
    | 28, _ =>
      have d43 := hx 27 (by omega) (listed_of_need hi (by kernel_rfl))
      simp only [prVal] at d43
      have c := B2.cell 5
      simp at c
      refine wpOp_step rfl (fun K hK => ?_)
      unfold prMk
      simp only [d43]
      go_simp
      exact hK _ _ (pinv_of (pinv_step (x := x) 28 (.int .i64 part) (by omega) rfl B1 B2 bw hx h33 hb (Below.refl _ _)) (by simp [prMk, upd, d43]))
    | 29, _ =>
      have d44 := hx 28 (by omega) (listed_of_need hi (by kernel_rfl))
      simp only [prVal] at d44
      refine wpOp_step rfl (fun K hK => ?_)
      unfold prMk
      simp only [d44]
      go_simp
      refine (prioOf_any _ _ _ C4.out (by decide)).mono ?_; rintro e w2 ⟨rfl, b2⟩
      go_simp
      exact hK _ _ (pinv_of (pinv_step (x := x) 29 (.int .i64 (ofV part 1048576)) (by omega) rfl B1 B2 bw hx h33 hb b2) (by simp [prMk, upd, d44]))
    | 30, _ =>
      have d42 := hx 26 (by omega) (listed_of_need hi (by kernel_rfl))
      have d45 := hx 29 (by omega) (listed_of_need hi (by kernel_rfl))
      simp only [prVal] at d42 d45
      refine wpOp_step rfl (fun K hK => ?_)
      unfold prMk
      simp only [d42, d45]
      go_simp
      exact hK _ _ (pinv_of (pinv_step (x := x) 30 (.agg #[.int .i64 p, .int .i64 (ofV part 1048576)]) (by omega) rfl B1 B2 bw hx h33 hb (Below.refl _ _)) (by simp [prMk, upd, d42, d45]))
    | 31, _ =>
      have d20 := hx 4 (by omega) (listed_of_need hi (by kernel_rfl))
      have d27 := hx 11 (by omega) (listed_of_need hi (by kernel_rfl))
      have d34 := hx 18 (by omega) (listed_of_need hi (by kernel_rfl))
      have d40 := hx 24 (by omega) (listed_of_need hi (by kernel_rfl))
      have d46 := hx 30 (by omega) (listed_of_need hi (by kernel_rfl))
      simp only [prVal] at d20 d27 d34 d40 d46
      refine wpOp_step rfl (fun K hK => ?_)
      unfold prMk
      simp only [d20, d27, d34, d40, d46]
      go_simp
      exact hK _ _ (pinv_of (pinv_step (x := x) 31 (.agg #[.int .i64 f, .int .i64 factor, .int .i64 a, .int .i64 (ageV since now), .int .i64 s, .int .i64 (sizeV size all), .int .i64 q, .int .i64 (ofV qos 1048576), .int .i64 p, .int .i64 (ofV part 1048576)]) (by omega) rfl B1 B2 bw hx h33 hb (Below.refl _ _)) (by simp [prMk, upd, d20, d27, d34, d40, d46]))
    | 32, hi1' =>
      refine wpOp_step rfl (fun K hK => ?_)
      unfold prMk
      go_simp
      exact hK _ _ ⟨upd x 10 (.pointer (some ⟨w'.heap.size, 0, none⟩)), by simp [prMk, upd], B1.old _, B2.old _, below_next (below_new _ _) bw, tab_keep hx (by omega) (by omega), fun h => L_mono (h33 (L_set h (by decide))),
        fun _ => ⟨w'.heap.size, fun _ => .int .i64 0, by simp [upd], bw.size, B2.lt, Blk.new _ _ _, fun h' => absurd (h33 (L_set h' (by decide))) (L_not hsz hi1' hi2)⟩⟩
    | 33, _ =>
      have d47 := hx 31 (by omega) (listed_of_need hi (by kernel_rfl))
      simp only [prVal] at d47
      obtain ⟨b, y, e1, e2, e3, B3, e5⟩ := hb (listed_of_need hi (by kernel_rfl))
      have c0 := B3.cell 0; simp at c0
      have c1 := B3.cell 1; simp at c1
      have c2 := B3.cell 2; simp at c2
      have c3 := B3.cell 3; simp at c3
      have c4 := B3.cell 4; simp at c4
      have c5 := B3.cell 5; simp at c5
      have c6 := B3.cell 6; simp at c6
      have c7 := B3.cell 7; simp at c7
      have c8 := B3.cell 8; simp at c8
      have c9 := B3.cell 9; simp at c9
      have fz := B3.free
      refine wpOp_step rfl (fun K hK => ?_)
      unfold prMk
      simp only [d47, e1]
      go_simp
      exact hK _ _ ⟨x, by simp [prMk, d47, e1], set10_other B1 (by omega) _ _ _ _ _ _ _ _ _ _, set10_other B2 (by omega) _ _ _ _ _ _ _ _ _ _, set10_below bw e2 _ _ _ _ _ _ _ _ _ _, fun k hk hl => hx k hk (L_set hl (by omega)), fun _ => L_mono (listed_of_need hi (by kernel_rfl)),
        fun _ => ⟨b, fun k => (#[.int .i64 f, .int .i64 factor, .int .i64 a, .int .i64 (ageV since now), .int .i64 s, .int .i64 (sizeV size all), .int .i64 q, .int .i64 (ofV qos 1048576), .int .i64 p, .int .i64 (ofV part 1048576)] : Array Value).getD k undef, e1, e2, e3, set10 B3 _ _ _ _ _ _ _ _ _ _, fun _ => rfl⟩⟩
    | i + 34, h => exact absurd h (by simp)
  · intro listed ac w' hall hI
    obtain ⟨x, rfl, B1, B2, bw, hx, h33, hb⟩ := hI
    obtain ⟨b, y, e1, e2, e3, B3, e5⟩ := hb (hall 32 (by decide))
    have e6 := e5 (hall 33 (by decide))
    rw [e6] at B3
    unfold prMk
    simp only [e1]
    go_wp2_with fail
    go_meet
    exact ⟨b, rfl, B3, B2, bw⟩
end Go.Proofs.Ytjhabfhpjpkpbaa
