/-
  GangRows: no two cells of one row have a worker in common; each job has one cell, of an aligned block; what is idle in a row is what its cells leave: so the law returns true for every input.
-/
import Derived.Test.YtfobapnncjjeiaaGaLw
import Derived.Test.YtfobapnncjjeiaaOnC
import Derived.Test.YtfobapnncjjeiaaLaw
import Derived.Test.YtfobapnncjjeiaaRows
import Derived.Test.YtfobapnncjjeiaaArgs2
namespace Go.Proofs.Ytfobapnncjjeiaa.gangRows
open Go.ChangeShapes Go.WideShapes Go.ChangeAt Go.RowKit
set_option linter.unusedVariables false

theorem own : ownKnob Try.prog.godebug = none := by kernel_rfl

open Go Go.ChangeShapes Go.WideShapes Go.ChangeAt Go.RowKit Go.Lib Go.Deep
theorem cell_bounds {l : List Ce} (h : OkG 4 l) {c : Ce} (hc : c ∈ l) : 1 ≤ c.1 ∧ c.2.1 < rowsG l ∧ c.2.2.2 ≤ 4 ∧ c.2.2.1 + 2 ^ c.2.2.2 ≤ 16 ∧ c.2.2.1 % 2 ^ c.2.2.2 = 0 := by
  have k := h.ce c hc
  exact ⟨k.id1, rowsG_lt h.srt hc, k.ord, k.en, k.al⟩
theorem cells_apart {n : Nat} {l : List Ce} (h : OkG n l) {i k : Nat} (hi : i < l.length) (hk : k < i) : (l[k]'(by omega)).1 ≠ l[i].1 ∧ ((l[k]'(by omega)).2.1 = l[i].2.1 → ¬ meetC (l[k]'(by omega)).2.2.1 (l[k]'(by omega)).2.2.2 l[i].2.2.1 l[i].2.2.2) := by
  constructor
  · intro e
    have hn := h.ids
    have := (List.pairwise_iff_getElem.1 hn) k i (by simp; omega) (by simpa using hi) hk
    simp only [List.getElem_map] at this
    exact this e
  · intro hr hm
    have := (List.pairwise_iff_getElem.1 h.srt) k i (by omega) hi hk
    rcases this with h1 | ⟨_, h1⟩
    · have : (l[k]'(by omega)).2.1 < l[i].2.1 := h1
      omega
    · have h2 := hm.2
      unfold Ce.en Ce.st at h1
      omega
set_option maxRecDepth 100000 in
set_option maxHeartbeats 8000000 in
theorem walk (v : Value) (L : List AcI) (w : World) (hA : AcArg w v L) :
    Calls Try.prog 4 #[v] w fun e w' => e = .returned (.bool true) ∧ Below w.heap.size w w' := by
  have MX := Lib.hid (matrix_any v L w hA)
  have K : Hid (∀ w1, Calls Try.prog 10 #[] w1 fun e w' => e = .returned (.bool true) ∧ Below w1.heap.size w1 w') := known16_any
  go_enter Try.func4, Try.ntmps4
  go_wp2_with fail
  refine MX.out.mono ?_; rintro e w1 ⟨⟨m, a, l, rfl, hg1⟩, b1⟩
  obtain ⟨o1, ho1⟩ : ∃ own : Nat → Prop, own = fun k => w.heap.size ≤ k := ⟨_, rfl⟩
  rw [← ho1] at hg1
  have HOK := Lib.hid hg1.ok
  have hlen := hg1.ok.len
  have HG1 := Lib.hid hg1
  have HB1 := Lib.hid b1
  have CE := Lib.hid (cells_any m 4 a o1 l w1 hg1.gn)
  clear ho1 hg1 b1 MX hA
  go_wp2_with fail
  refine CE.out.mono ?_; rintro e w2 ⟨⟨va, rfl, ova⟩, b2⟩
  have HG2 := Lib.hid (HG1.out.kept b2)
  have HB2 := Lib.hid (below_next b2 HB1.out)
  have RA := Lib.hid (crow_of_own ova)
  obtain ⟨aa, ac, rfl⟩ := own_slice ova
  obtain ⟨LL, hLL⟩ : ∃ n, n = l.length := ⟨_, rfl⟩
  have HLL := Lib.hid hLL
  obtain ⟨R, hR⟩ : ∃ n, n = rowsG l := ⟨_, rfl⟩
  have hR16 : R ≤ 16 := by rw [hR]; exact rowsG_16 HOK.out
  obtain ⟨X, hX⟩ : ∃ x, x = w2 := ⟨_, rfl⟩
  subst hX
  have HACT : Hid (a < R ∨ a = 0) := by unfold Hid; rw [hR]; exact HG2.out.act
  have ROWS : Hid (∀ wq, Below X.heap.size X wq → Calls Try.prog 17 #[.pointer (some ⟨m, 0, none⟩)] wq fun e w' => e = .returned (.int .i64 (R : Nat)) ∧ Below wq.heap.size wq w') := fun wq hq => by rw [hR]; exact rows_any m 4 a o1 l wq (HG2.out.kept hq).gn
  have ACTV : Hid (∀ wq, Below X.heap.size X wq → Calls Try.prog 19 #[.pointer (some ⟨m, 0, none⟩)] wq fun e w' => e = .returned (.int .i64 (a : Nat)) ∧ Below wq.heap.size wq w') := fun wq hq => active_any m 4 a o1 l wq (HG2.out.kept hq).gn
  have IDLE : Hid (∀ r : Nat, r < 16 → ∀ wq, Below X.heap.size X wq → Calls Try.prog 20 #[.pointer (some ⟨m, 0, none⟩), .int .i64 (r : Nat)] wq fun e w' => e = .returned (.int .i64 (16 - ((usedG l r : Nat) : Int))) ∧ Below wq.heap.size wq w') := fun r hr wq hq => by
    have := idle_any m 4 a o1 l (r : Int) wq (HG2.out.kept hq).gn
    unfold idleG at this
    rw [if_neg (by omega), if_neg (by omega)] at this
    exact this
  have HRL : Hid (∀ c ∈ l, c.2.1 < R) := fun c hc => by rw [hR]; exact rowsG_lt HOK.out.srt hc
  have ha15 := HG2.out.a16
  rw [← hLL] at hlen ⊢
  clear ova b2 HG1 HB1 CE hLL hR HG2
  go_wp2_with fail
  go_loopw [5] (fun iv wr => ∃ i : Nat, i ≤ LL ∧ iv = .int .i64 i ∧ Hid (Below X.heap.size X wr)) (fun iv _ => LL - (RowKit.intOf iv).toNat)
  case atStart => exact ⟨0, Nat.zero_le _, rfl, Below.refl _ _⟩
  case round =>
    obtain ⟨i, hi, rfl, HBr⟩ := hrel
    by_cases hlt : i < LL
    · have d1 : decide ((i : Int) < (LL : Int)) = true := decide_eq_true (by omega)
      have d1' : decide (i < LL) = true := decide_eq_true hlt
      have hlx : i < l.length := by rw [← HLL.out]; exact hlt
      cases aa with
      | none => have := crow_none RA.out; rw [this] at hlx; simp at hlx
      | some A =>
      obtain ⟨b1, o1', rfl⟩ := crow_some RA.out (by omega)
      obtain ⟨c, hc⟩ : ∃ c, c = l[i] := ⟨_, rfl⟩
      have hmem : c ∈ l := by rw [hc]; exact List.getElem_mem hlx
      obtain ⟨p0, p1, p3, p2, pa⟩ := cell_bounds HOK.out hmem
      replace p1 : c.2.1 < R := HRL.out c hmem
      have HAP : Hid (∀ k, (hk : k < i) → (l[k]'(by omega)).1 ≠ c.1 ∧ ((l[k]'(by omega)).2.1 = c.2.1 → ¬ meetC (l[k]'(by omega)).2.2.1 (l[k]'(by omega)).2.2.2 c.2.2.1 c.2.2.2)) := fun k hk => by rw [hc]; exact cells_apart HOK.out hlx hk
      have HCA : Hid (∀ w', Below X.heap.size X w' → w'.cell? ⟨b1, o1' + i * 4, none⟩ = some (.int .u32 (c.1 : Int)) ∧ w'.cell? ⟨b1, o1' + i * 4 + 1, none⟩ = some (.int .i64 (c.2.1 : Int)) ∧ w'.cell? ⟨b1, o1' + i * 4 + 2, none⟩ = some (.int .i64 (c.2.2.1 : Int)) ∧ w'.cell? ⟨b1, o1' + i * 4 + 3, none⟩ = some (.int .i64 (c.2.2.2 : Int))) := fun w' hb => by rw [hc]; exact CRow.cells RA.out hlx hb
      clear hc hmem
      have hii : (i : Int) < (LL : Int) := by omega
      obtain ⟨c0, c1, c2, c3⟩ := HCA.out _ HBr.out
      obtain ⟨x0, x1, x2, x3⟩ := c
      dsimp only at c0 c1 c2 c3 p0 p1 p2 p3 pa HAP HCA
      obtain ⟨P, hP⟩ : ∃ P, P = 2 ^ x3 := ⟨_, rfl⟩
      have hPi : IntKind.i64.wrap ((2 : Int) ^ x3) = (P : Int) := by
        have : 2 ^ x3 ≤ 16 := by omega
        rw [two_i, ← hP, IntKind.wrap_i64]; omega
      rw [← hP] at p2 pa
      have hP1 : 1 ≤ P := by rw [hP]; exact Nat.two_pow_pos _
      have hP0 : ¬ P = 0 := by omega
      have hrem : (x2 : Int).tmod (P : Int) = 0 := by rw [Int.tmod_eq_emod_of_nonneg (by omega)]; omega
      clear hP
      have q0 : ((x0 : Int) == 0) = false := by simp; omega
      have q0' : (x0 == 0) = false := by simp; omega
      have q1 : min (x3 : Int) 20 = (x3 : Int) := by omega
      have q1' : min x3 20 = x3 := by omega
      have q2 : max (x3 : Int) 0 = (x3 : Int) := by omega
      have q3 : decide ((x1 : Int) < 0) = false := decide_eq_false (by omega)
      have q4 : decide ((x1 : Int) ≥ (R : Int)) = false := decide_eq_false (by omega)
      have q4' : decide ((R : Int) ≤ (x1 : Int)) = false := decide_eq_false (by omega)
      have q4'' : decide (R ≤ x1) = false := decide_eq_false (by omega)
      have q5 : decide ((x3 : Int) < 0) = false := decide_eq_false (by omega)
      have q6 : decide ((x3 : Int) > 4) = false := decide_eq_false (by omega)
      have q6' : decide (4 < (x3 : Int)) = false := decide_eq_false (by omega)
      have q6'' : decide (4 < x3) = false := decide_eq_false (by omega)
      have q7 : decide ((x2 : Int) < 0) = false := decide_eq_false (by omega)
      have q8 : decide (IntKind.i64.wrap ((x2 : Int) + (P : Int)) > 16) = false := decide_eq_false (by rw [IntKind.wrap_i64]; omega)
      have q8a : decide (16 < IntKind.i64.wrap ((x2 : Int) + (P : Int))) = false := decide_eq_false (by rw [IntKind.wrap_i64]; omega)
      have q8' : decide (16 < (x2 : Int) + (P : Int)) = false := decide_eq_false (by omega)
      have q8'' : decide (16 < x2 + P) = false := decide_eq_false (by omega)
      go_wp2_with fail
      clear hPi
      refine wp_region_held_drew (S := (fun w' => w'.cell? ⟨b1, o1' + i * 4, none⟩ = some (.int .u32 (x0 : Nat)) ∧ w'.cell? ⟨b1, o1' + i * 4 + 1, none⟩ = some (.int .i64 (x1 : Nat)) ∧ w'.cell? ⟨b1, o1' + i * 4 + 2, none⟩ = some (.int .i64 (x2 : Nat)) ∧ w'.cell? ⟨b1, o1' + i * 4 + 3, none⟩ = some (.int .i64 (x3 : Nat)) ∧ Below X.heap.size X w')) (by kernel_rfl) (by
        first
          | exact ⟨c0, c1, c2, c3, HBr.out.drew⟩
        ) (fun hHeld => ?_)
      refine wpAnyH_take (i := 0) (oi := { dst := some 33, op := Op.move (Operand.tmp 4), type := 35, pos := "law.go:119", after := #[], guard := none }) (v := ?_) rfl (by kernel_rfl) (by kernel_rfl) (by kernel_rfl) (fun _ _ _ h => h) (Or.inl ⟨by kernel_rfl, ?_⟩) (by assumption) ?_
      rotate_left
      · (intro w hSw; (try dsimp only at hSw); go_simp; try with_reducible rfl)
      try simp only [Act.put, List.setIfInBounds_toArray, List.set_cons_zero, List.set_cons_succ]
      refine wpAnyH_take (i := 1) (oi := { dst := some 34, op := Op.move (Operand.tmp 5), type := 3, pos := "law.go:119", after := #[], guard := none }) (v := ?_) rfl (by kernel_rfl) (by kernel_rfl) (by kernel_rfl) (fun _ _ _ h => h) (Or.inl ⟨by kernel_rfl, ?_⟩) (by assumption) ?_
      rotate_left
      · (intro w hSw; (try dsimp only at hSw); go_simp; try with_reducible rfl)
      try simp only [Act.put, List.setIfInBounds_toArray, List.set_cons_zero, List.set_cons_succ]
      refine wpAnyH_take (i := 2) (oi := { dst := some 35, op := Op.indexAddr 35 (Operand.tmp 33) (Operand.tmp 34), type := 0, pos := "law.go:119", after := #[{ on := 0, ground := Ground.data }, { on := 1, ground := Ground.data }], guard := none }) (v := ?_) rfl (by kernel_rfl) (by kernel_rfl) (by kernel_rfl) (fun _ _ _ h => h) (Or.inl ⟨by kernel_rfl, ?_⟩) (by assumption) ?_
      rotate_left
      · (intro w hSw; (try dsimp only at hSw); go_simp; try with_reducible rfl)
      try simp only [Act.put, List.setIfInBounds_toArray, List.set_cons_zero, List.set_cons_succ]
      refine wpAnyH_take (i := 3) (oi := { dst := some 36, op := Op.fieldAddr 48 (Operand.tmp 35) 0, type := 0, pos := "law.go:119", after := #[{ on := 2, ground := Ground.data }], guard := none }) (v := ?_) rfl (by kernel_rfl) (by kernel_rfl) (by kernel_rfl) (fun _ _ _ h => h) (Or.inl ⟨by kernel_rfl, ?_⟩) (by assumption) ?_
      rotate_left
      · (intro w hSw; (try dsimp only at hSw); go_simp; try with_reducible rfl)
      try simp only [Act.put, List.setIfInBounds_toArray, List.set_cons_zero, List.set_cons_succ]
      refine wpAnyH_take (i := 4) (oi := { dst := some 37, op := Op.load 32 (Operand.tmp 36), type := 32, pos := "law.go:119", after := #[{ on := 3, ground := Ground.data }], guard := none }) (v := ?_) rfl (by kernel_rfl) (by kernel_rfl) (by kernel_rfl) (fun _ _ _ h => h) (Or.inl ⟨by kernel_rfl, ?_⟩) (by assumption) ?_
      rotate_left
      · (intro w hSw; (try dsimp only at hSw); go_simp; try with_reducible rfl)
      try simp only [Act.put, List.setIfInBounds_toArray, List.set_cons_zero, List.set_cons_succ]
      refine wpAnyH_take (i := 5) (oi := { dst := some 38, op := Op.binOp BinOp.eql 32 (Operand.tmp 37) (Operand.const (Value.int IntKind.u32 0)) 32, type := 4, pos := "law.go:119", after := #[{ on := 4, ground := Ground.data }], guard := none }) (v := ?_) rfl (by kernel_rfl) (by kernel_rfl) (by kernel_rfl) (fun _ _ _ h => h) (Or.inl ⟨by kernel_rfl, ?_⟩) (by assumption) ?_
      rotate_left
      · (intro w hSw; (try dsimp only at hSw); go_simp; try with_reducible rfl)
      try simp only [Act.put, List.setIfInBounds_toArray, List.set_cons_zero, List.set_cons_succ]
      refine wpAnyH_take (i := 6) (oi := { dst := some 39, op := Op.move (Operand.tmp 38), type := 4, pos := "law.go:119", after := #[{ on := 5, ground := Ground.data }], guard := none }) (v := ?_) rfl (by kernel_rfl) (by kernel_rfl) (by kernel_rfl) (fun _ _ _ h => h) (Or.inl ⟨by kernel_rfl, ?_⟩) (by assumption) ?_
      rotate_left
      · (intro w hSw; (try dsimp only at hSw); go_simp; try with_reducible rfl)
      try simp only [Act.put, List.setIfInBounds_toArray, List.set_cons_zero, List.set_cons_succ]
      refine wpAnyH_take (i := 7) (oi := { dst := some 40, op := Op.move (Operand.tmp 4), type := 35, pos := "law.go:119", after := #[{ on := 6, ground := Ground.guard }], guard := some (6, false) }) (v := ?_) rfl (by kernel_rfl) (by kernel_rfl) (by kernel_rfl) (fun _ _ _ h => h) (Or.inl ⟨by kernel_rfl, ?_⟩) (by assumption) ?_
      rotate_left
      · (intro w hSw; (try dsimp only at hSw); go_simp; try with_reducible rfl)
      try simp only [Act.put, List.setIfInBounds_toArray, List.set_cons_zero, List.set_cons_succ]
      refine wpAnyH_take (i := 8) (oi := { dst := some 41, op := Op.move (Operand.tmp 5), type := 3, pos := "law.go:119", after := #[{ on := 6, ground := Ground.guard }], guard := some (6, false) }) (v := ?_) rfl (by kernel_rfl) (by kernel_rfl) (by kernel_rfl) (fun _ _ _ h => h) (Or.inl ⟨by kernel_rfl, ?_⟩) (by assumption) ?_
      rotate_left
      · (intro w hSw; (try dsimp only at hSw); go_simp; try with_reducible rfl)
      try simp only [Act.put, List.setIfInBounds_toArray, List.set_cons_zero, List.set_cons_succ]
      refine wpAnyH_take (i := 9) (oi := { dst := some 42, op := Op.indexAddr 35 (Operand.tmp 40) (Operand.tmp 41), type := 0, pos := "law.go:119", after := #[{ on := 7, ground := Ground.data }, { on := 8, ground := Ground.data }, { on := 6, ground := Ground.guard }], guard := some (6, false) }) (v := ?_) rfl (by kernel_rfl) (by kernel_rfl) (by kernel_rfl) (fun _ _ _ h => h) (Or.inl ⟨by kernel_rfl, ?_⟩) (by assumption) ?_
      rotate_left
      · (intro w hSw; (try dsimp only at hSw); go_simp; try with_reducible rfl)
      try simp only [Act.put, List.setIfInBounds_toArray, List.set_cons_zero, List.set_cons_succ]
      refine wpAnyH_take (i := 10) (oi := { dst := some 43, op := Op.fieldAddr 48 (Operand.tmp 42) 1, type := 0, pos := "law.go:119", after := #[{ on := 9, ground := Ground.data }, { on := 6, ground := Ground.guard }], guard := some (6, false) }) (v := ?_) rfl (by kernel_rfl) (by kernel_rfl) (by kernel_rfl) (fun _ _ _ h => h) (Or.inl ⟨by kernel_rfl, ?_⟩) (by assumption) ?_
      rotate_left
      · (intro w hSw; (try dsimp only at hSw); go_simp; try with_reducible rfl)
      try simp only [Act.put, List.setIfInBounds_toArray, List.set_cons_zero, List.set_cons_succ]
      refine wpAnyH_take (i := 11) (oi := { dst := some 44, op := Op.load 3 (Operand.tmp 43), type := 3, pos := "law.go:119", after := #[{ on := 10, ground := Ground.data }, { on := 6, ground := Ground.guard }], guard := some (6, false) }) (v := ?_) rfl (by kernel_rfl) (by kernel_rfl) (by kernel_rfl) (fun _ _ _ h => h) (Or.inl ⟨by kernel_rfl, ?_⟩) (by assumption) ?_
      rotate_left
      · (intro w hSw; (try dsimp only at hSw); go_simp; try with_reducible rfl)
      try simp only [Act.put, List.setIfInBounds_toArray, List.set_cons_zero, List.set_cons_succ]
      refine wpAnyH_take (i := 12) (oi := { dst := some 45, op := Op.binOp BinOp.lss 3 (Operand.tmp 44) (Operand.const (Value.int IntKind.i64 0)) 3, type := 4, pos := "law.go:119", after := #[{ on := 11, ground := Ground.data }, { on := 6, ground := Ground.guard }], guard := some (6, false) }) (v := ?_) rfl (by kernel_rfl) (by kernel_rfl) (by kernel_rfl) (fun _ _ _ h => h) (Or.inl ⟨by kernel_rfl, ?_⟩) (by assumption) ?_
      rotate_left
      · (intro w hSw; (try dsimp only at hSw); go_simp; try with_reducible rfl)
      try simp only [Act.put, List.setIfInBounds_toArray, List.set_cons_zero, List.set_cons_succ]
      refine wpAnyH_take (i := 13) (oi := { dst := some 46, op := Op.pick (Operand.tmp 39) (Operand.const (Value.bool true)) (Operand.tmp 45), type := 4, pos := "law.go:119", after := #[{ on := 6, ground := Ground.data }, { on := 12, ground := Ground.data }], guard := none }) (v := ?_) rfl (by kernel_rfl) (by kernel_rfl) (by kernel_rfl) (fun _ _ _ h => h) (Or.inl ⟨by kernel_rfl, ?_⟩) (by assumption) ?_
      rotate_left
      · (intro w hSw; (try dsimp only at hSw); go_simp; try with_reducible rfl)
      try simp only [Act.put, List.setIfInBounds_toArray, List.set_cons_zero, List.set_cons_succ]
      refine wpAnyH_take (i := 14) (oi := { dst := some 47, op := Op.move (Operand.tmp 46), type := 4, pos := "law.go:119", after := #[{ on := 13, ground := Ground.data }, { on := 6, ground := Ground.chain }], guard := none }) (v := ?_) rfl (by kernel_rfl) (by kernel_rfl) (by kernel_rfl) (fun _ _ _ h => h) (Or.inl ⟨by kernel_rfl, ?_⟩) (by assumption) ?_
      rotate_left
      · (intro w hSw; (try dsimp only at hSw); go_simp; try with_reducible rfl)
      try simp only [Act.put, List.setIfInBounds_toArray, List.set_cons_zero, List.set_cons_succ]
      refine wpAnyH_take (i := 15) (oi := { dst := some 48, op := Op.move (Operand.tmp 4), type := 35, pos := "law.go:119", after := #[{ on := 14, ground := Ground.guard }], guard := some (14, false) }) (v := ?_) rfl (by kernel_rfl) (by kernel_rfl) (by kernel_rfl) (fun _ _ _ h => h) (Or.inl ⟨by kernel_rfl, ?_⟩) (by assumption) ?_
      rotate_left
      · (intro w hSw; (try dsimp only at hSw); go_simp; try with_reducible rfl)
      try simp only [Act.put, List.setIfInBounds_toArray, List.set_cons_zero, List.set_cons_succ]
      refine wpAnyH_take (i := 16) (oi := { dst := some 49, op := Op.move (Operand.tmp 5), type := 3, pos := "law.go:119", after := #[{ on := 14, ground := Ground.guard }], guard := some (14, false) }) (v := ?_) rfl (by kernel_rfl) (by kernel_rfl) (by kernel_rfl) (fun _ _ _ h => h) (Or.inl ⟨by kernel_rfl, ?_⟩) (by assumption) ?_
      rotate_left
      · (intro w hSw; (try dsimp only at hSw); go_simp; try with_reducible rfl)
      try simp only [Act.put, List.setIfInBounds_toArray, List.set_cons_zero, List.set_cons_succ]
      refine wpAnyH_take (i := 17) (oi := { dst := some 50, op := Op.indexAddr 35 (Operand.tmp 48) (Operand.tmp 49), type := 0, pos := "law.go:119", after := #[{ on := 15, ground := Ground.data }, { on := 16, ground := Ground.data }, { on := 14, ground := Ground.guard }], guard := some (14, false) }) (v := ?_) rfl (by kernel_rfl) (by kernel_rfl) (by kernel_rfl) (fun _ _ _ h => h) (Or.inl ⟨by kernel_rfl, ?_⟩) (by assumption) ?_
      rotate_left
      · (intro w hSw; (try dsimp only at hSw); go_simp; try with_reducible rfl)
      try simp only [Act.put, List.setIfInBounds_toArray, List.set_cons_zero, List.set_cons_succ]
      refine wpAnyH_take (i := 18) (oi := { dst := some 51, op := Op.fieldAddr 48 (Operand.tmp 50) 1, type := 0, pos := "law.go:119", after := #[{ on := 17, ground := Ground.data }, { on := 14, ground := Ground.guard }], guard := some (14, false) }) (v := ?_) rfl (by kernel_rfl) (by kernel_rfl) (by kernel_rfl) (fun _ _ _ h => h) (Or.inl ⟨by kernel_rfl, ?_⟩) (by assumption) ?_
      rotate_left
      · (intro w hSw; (try dsimp only at hSw); go_simp; try with_reducible rfl)
      try simp only [Act.put, List.setIfInBounds_toArray, List.set_cons_zero, List.set_cons_succ]
      refine wpAnyH_take (i := 19) (oi := { dst := some 52, op := Op.load 3 (Operand.tmp 51), type := 3, pos := "law.go:119", after := #[{ on := 18, ground := Ground.data }, { on := 14, ground := Ground.guard }], guard := some (14, false) }) (v := ?_) rfl (by kernel_rfl) (by kernel_rfl) (by kernel_rfl) (fun _ _ _ h => h) (Or.inl ⟨by kernel_rfl, ?_⟩) (by assumption) ?_
      rotate_left
      · (intro w hSw; (try dsimp only at hSw); go_simp; try with_reducible rfl)
      try simp only [Act.put, List.setIfInBounds_toArray, List.set_cons_zero, List.set_cons_succ]
      refine wpAnyH_take (i := 20) (oi := { dst := some 53, op := Op.move (Operand.tmp 3), type := 24, pos := "law.go:119", after := #[{ on := 14, ground := Ground.guard }], guard := some (14, false) }) (v := ?_) rfl (by kernel_rfl) (by kernel_rfl) (by kernel_rfl) (fun _ _ _ h => h) (Or.inl ⟨by kernel_rfl, ?_⟩) (by assumption) ?_
      rotate_left
      · (intro w hSw; (try dsimp only at hSw); go_simp; try with_reducible rfl)
      try simp only [Act.put, List.setIfInBounds_toArray, List.set_cons_zero, List.set_cons_succ]
      refine wpAnyH_ready (rs := [21]) (by kernel_rfl) (by simp) ?_
      refine AllReadyH.cons (o := { dst := some 54, op := Op.call { callee := Callee.value (Operand.func 17), args := #[Operand.tmp 53], argTypes := #[24] }, type := 3, pos := "law.go:119", after := #[{ on := 20, ground := Ground.data }, { on := 14, ground := Ground.chain }, { on := 14, ground := Ground.guard }], guard := some (14, false) }) rfl (fun K hK => ?_) AllReadyH.nil
      go_simp; (with_reducible refine (ROWS.out _ (‹_ ∧ _ ∧ _ ∧ _ ∧ Below X.heap.size X _›).2.2.2.2).mono ?_); rintro e wm ⟨rfl, bm⟩; try go_wp2_with fail
      refine hK.out _ _ ?_ (fun hHeld => ?_)
      · first
          | (rcases ‹_ ∧ _ ∧ _ ∧ _ ∧ Below X.heap.size X _› with ⟨g0, g1, g2, g3, g4⟩; exact ⟨cell_next (by assumption) g0, cell_next (by assumption) g1, cell_next (by assumption) g2, cell_next (by assumption) g3, below_next (by assumption) g4⟩)
      clear hK K
      try simp only [Act.put, List.setIfInBounds_toArray, List.set_cons_zero, List.set_cons_succ]
      refine wpAnyH_take (i := 22) (oi := { dst := some 55, op := Op.binOp BinOp.geq 3 (Operand.tmp 52) (Operand.tmp 54) 3, type := 4, pos := "law.go:119", after := #[{ on := 19, ground := Ground.data }, { on := 21, ground := Ground.data }, { on := 14, ground := Ground.guard }], guard := some (14, false) }) (v := ?_) rfl (by kernel_rfl) (by kernel_rfl) (by kernel_rfl) (fun _ _ _ h => h) (Or.inl ⟨by kernel_rfl, ?_⟩) (by assumption) ?_
      rotate_left
      · (intro w hSw; (try dsimp only at hSw); go_simp; try with_reducible rfl)
      try simp only [Act.put, List.setIfInBounds_toArray, List.set_cons_zero, List.set_cons_succ]
      refine wpAnyH_take (i := 23) (oi := { dst := some 56, op := Op.pick (Operand.tmp 47) (Operand.const (Value.bool true)) (Operand.tmp 55), type := 4, pos := "law.go:119", after := #[{ on := 14, ground := Ground.data }, { on := 22, ground := Ground.data }], guard := none }) (v := ?_) rfl (by kernel_rfl) (by kernel_rfl) (by kernel_rfl) (fun _ _ _ h => h) (Or.inl ⟨by kernel_rfl, ?_⟩) (by assumption) ?_
      rotate_left
      · (intro w hSw; (try dsimp only at hSw); go_simp; try with_reducible rfl)
      try simp only [Act.put, List.setIfInBounds_toArray, List.set_cons_zero, List.set_cons_succ]
      refine wpAnyH_take (i := 24) (oi := { dst := some 57, op := Op.move (Operand.tmp 56), type := 4, pos := "law.go:119", after := #[{ on := 23, ground := Ground.data }, { on := 21, ground := Ground.chain }], guard := none }) (v := ?_) rfl (by kernel_rfl) (by kernel_rfl) (by kernel_rfl) (fun _ _ _ h => h) (Or.inl ⟨by kernel_rfl, ?_⟩) (by assumption) ?_
      rotate_left
      · (intro w hSw; (try dsimp only at hSw); go_simp; try with_reducible rfl)
      try simp only [Act.put, List.setIfInBounds_toArray, List.set_cons_zero, List.set_cons_succ]
      refine wpAnyH_take (i := 25) (oi := { dst := some 58, op := Op.move (Operand.tmp 4), type := 35, pos := "law.go:119", after := #[{ on := 24, ground := Ground.guard }], guard := some (24, false) }) (v := ?_) rfl (by kernel_rfl) (by kernel_rfl) (by kernel_rfl) (fun _ _ _ h => h) (Or.inl ⟨by kernel_rfl, ?_⟩) (by assumption) ?_
      rotate_left
      · (intro w hSw; (try dsimp only at hSw); go_simp; try with_reducible rfl)
      try simp only [Act.put, List.setIfInBounds_toArray, List.set_cons_zero, List.set_cons_succ]
      refine wpAnyH_take (i := 26) (oi := { dst := some 59, op := Op.move (Operand.tmp 5), type := 3, pos := "law.go:119", after := #[{ on := 24, ground := Ground.guard }], guard := some (24, false) }) (v := ?_) rfl (by kernel_rfl) (by kernel_rfl) (by kernel_rfl) (fun _ _ _ h => h) (Or.inl ⟨by kernel_rfl, ?_⟩) (by assumption) ?_
      rotate_left
      · (intro w hSw; (try dsimp only at hSw); go_simp; try with_reducible rfl)
      try simp only [Act.put, List.setIfInBounds_toArray, List.set_cons_zero, List.set_cons_succ]
      refine wpAnyH_take (i := 27) (oi := { dst := some 60, op := Op.indexAddr 35 (Operand.tmp 58) (Operand.tmp 59), type := 0, pos := "law.go:119", after := #[{ on := 25, ground := Ground.data }, { on := 26, ground := Ground.data }, { on := 24, ground := Ground.guard }], guard := some (24, false) }) (v := ?_) rfl (by kernel_rfl) (by kernel_rfl) (by kernel_rfl) (fun _ _ _ h => h) (Or.inl ⟨by kernel_rfl, ?_⟩) (by assumption) ?_
      rotate_left
      · (intro w hSw; (try dsimp only at hSw); go_simp; try with_reducible rfl)
      try simp only [Act.put, List.setIfInBounds_toArray, List.set_cons_zero, List.set_cons_succ]
      refine wpAnyH_take (i := 28) (oi := { dst := some 61, op := Op.fieldAddr 48 (Operand.tmp 60) 2, type := 0, pos := "law.go:119", after := #[{ on := 27, ground := Ground.data }, { on := 24, ground := Ground.guard }], guard := some (24, false) }) (v := ?_) rfl (by kernel_rfl) (by kernel_rfl) (by kernel_rfl) (fun _ _ _ h => h) (Or.inl ⟨by kernel_rfl, ?_⟩) (by assumption) ?_
      rotate_left
      · (intro w hSw; (try dsimp only at hSw); go_simp; try with_reducible rfl)
      try simp only [Act.put, List.setIfInBounds_toArray, List.set_cons_zero, List.set_cons_succ]
      refine wpAnyH_take (i := 29) (oi := { dst := some 62, op := Op.fieldAddr 46 (Operand.tmp 61) 1, type := 0, pos := "law.go:119", after := #[{ on := 28, ground := Ground.data }, { on := 24, ground := Ground.guard }], guard := some (24, false) }) (v := ?_) rfl (by kernel_rfl) (by kernel_rfl) (by kernel_rfl) (fun _ _ _ h => h) (Or.inl ⟨by kernel_rfl, ?_⟩) (by assumption) ?_
      rotate_left
      · (intro w hSw; (try dsimp only at hSw); go_simp; try with_reducible rfl)
      try simp only [Act.put, List.setIfInBounds_toArray, List.set_cons_zero, List.set_cons_succ]
      refine wpAnyH_take (i := 30) (oi := { dst := some 63, op := Op.load 3 (Operand.tmp 62), type := 3, pos := "law.go:119", after := #[{ on := 29, ground := Ground.data }, { on := 24, ground := Ground.guard }], guard := some (24, false) }) (v := ?_) rfl (by kernel_rfl) (by kernel_rfl) (by kernel_rfl) (fun _ _ _ h => h) (Or.inl ⟨by kernel_rfl, ?_⟩) (by assumption) ?_
      rotate_left
      · (intro w hSw; (try dsimp only at hSw); go_simp; try with_reducible rfl)
      try simp only [Act.put, List.setIfInBounds_toArray, List.set_cons_zero, List.set_cons_succ]
      refine wpAnyH_take (i := 31) (oi := { dst := some 64, op := Op.binOp BinOp.lss 3 (Operand.tmp 63) (Operand.const (Value.int IntKind.i64 0)) 3, type := 4, pos := "law.go:119", after := #[{ on := 30, ground := Ground.data }, { on := 24, ground := Ground.guard }], guard := some (24, false) }) (v := ?_) rfl (by kernel_rfl) (by kernel_rfl) (by kernel_rfl) (fun _ _ _ h => h) (Or.inl ⟨by kernel_rfl, ?_⟩) (by assumption) ?_
      rotate_left
      · (intro w hSw; (try dsimp only at hSw); go_simp; try with_reducible rfl)
      try simp only [Act.put, List.setIfInBounds_toArray, List.set_cons_zero, List.set_cons_succ]
      refine wpAnyH_take (i := 32) (oi := { dst := some 65, op := Op.pick (Operand.tmp 57) (Operand.const (Value.bool true)) (Operand.tmp 64), type := 4, pos := "law.go:119", after := #[{ on := 24, ground := Ground.data }, { on := 31, ground := Ground.data }], guard := none }) (v := ?_) rfl (by kernel_rfl) (by kernel_rfl) (by kernel_rfl) (fun _ _ _ h => h) (Or.inl ⟨by kernel_rfl, ?_⟩) (by assumption) ?_
      rotate_left
      · (intro w hSw; (try dsimp only at hSw); go_simp; try with_reducible rfl)
      try simp only [Act.put, List.setIfInBounds_toArray, List.set_cons_zero, List.set_cons_succ]
      refine wpAnyH_take (i := 33) (oi := { dst := some 66, op := Op.move (Operand.tmp 65), type := 4, pos := "law.go:119", after := #[{ on := 32, ground := Ground.data }, { on := 24, ground := Ground.chain }], guard := none }) (v := ?_) rfl (by kernel_rfl) (by kernel_rfl) (by kernel_rfl) (fun _ _ _ h => h) (Or.inl ⟨by kernel_rfl, ?_⟩) (by assumption) ?_
      rotate_left
      · (intro w hSw; (try dsimp only at hSw); go_simp; try with_reducible rfl)
      try simp only [Act.put, List.setIfInBounds_toArray, List.set_cons_zero, List.set_cons_succ]
      refine wpAnyH_take (i := 34) (oi := { dst := some 67, op := Op.move (Operand.tmp 4), type := 35, pos := "law.go:119", after := #[{ on := 33, ground := Ground.guard }], guard := some (33, false) }) (v := ?_) rfl (by kernel_rfl) (by kernel_rfl) (by kernel_rfl) (fun _ _ _ h => h) (Or.inl ⟨by kernel_rfl, ?_⟩) (by assumption) ?_
      rotate_left
      · (intro w hSw; (try dsimp only at hSw); go_simp; try with_reducible rfl)
      try simp only [Act.put, List.setIfInBounds_toArray, List.set_cons_zero, List.set_cons_succ]
      refine wpAnyH_take (i := 35) (oi := { dst := some 68, op := Op.move (Operand.tmp 5), type := 3, pos := "law.go:119", after := #[{ on := 33, ground := Ground.guard }], guard := some (33, false) }) (v := ?_) rfl (by kernel_rfl) (by kernel_rfl) (by kernel_rfl) (fun _ _ _ h => h) (Or.inl ⟨by kernel_rfl, ?_⟩) (by assumption) ?_
      rotate_left
      · (intro w hSw; (try dsimp only at hSw); go_simp; try with_reducible rfl)
      try simp only [Act.put, List.setIfInBounds_toArray, List.set_cons_zero, List.set_cons_succ]
      refine wpAnyH_take (i := 36) (oi := { dst := some 69, op := Op.indexAddr 35 (Operand.tmp 67) (Operand.tmp 68), type := 0, pos := "law.go:119", after := #[{ on := 34, ground := Ground.data }, { on := 35, ground := Ground.data }, { on := 33, ground := Ground.guard }], guard := some (33, false) }) (v := ?_) rfl (by kernel_rfl) (by kernel_rfl) (by kernel_rfl) (fun _ _ _ h => h) (Or.inl ⟨by kernel_rfl, ?_⟩) (by assumption) ?_
      rotate_left
      · (intro w hSw; (try dsimp only at hSw); go_simp; try with_reducible rfl)
      try simp only [Act.put, List.setIfInBounds_toArray, List.set_cons_zero, List.set_cons_succ]
      refine wpAnyH_take (i := 37) (oi := { dst := some 70, op := Op.fieldAddr 48 (Operand.tmp 69) 2, type := 0, pos := "law.go:119", after := #[{ on := 36, ground := Ground.data }, { on := 33, ground := Ground.guard }], guard := some (33, false) }) (v := ?_) rfl (by kernel_rfl) (by kernel_rfl) (by kernel_rfl) (fun _ _ _ h => h) (Or.inl ⟨by kernel_rfl, ?_⟩) (by assumption) ?_
      rotate_left
      · (intro w hSw; (try dsimp only at hSw); go_simp; try with_reducible rfl)
      try simp only [Act.put, List.setIfInBounds_toArray, List.set_cons_zero, List.set_cons_succ]
      refine wpAnyH_take (i := 38) (oi := { dst := some 71, op := Op.fieldAddr 46 (Operand.tmp 70) 1, type := 0, pos := "law.go:119", after := #[{ on := 37, ground := Ground.data }, { on := 33, ground := Ground.guard }], guard := some (33, false) }) (v := ?_) rfl (by kernel_rfl) (by kernel_rfl) (by kernel_rfl) (fun _ _ _ h => h) (Or.inl ⟨by kernel_rfl, ?_⟩) (by assumption) ?_
      rotate_left
      · (intro w hSw; (try dsimp only at hSw); go_simp; try with_reducible rfl)
      try simp only [Act.put, List.setIfInBounds_toArray, List.set_cons_zero, List.set_cons_succ]
      refine wpAnyH_take (i := 39) (oi := { dst := some 72, op := Op.load 3 (Operand.tmp 71), type := 3, pos := "law.go:119", after := #[{ on := 38, ground := Ground.data }, { on := 33, ground := Ground.guard }], guard := some (33, false) }) (v := ?_) rfl (by kernel_rfl) (by kernel_rfl) (by kernel_rfl) (fun _ _ _ h => h) (Or.inl ⟨by kernel_rfl, ?_⟩) (by assumption) ?_
      rotate_left
      · (intro w hSw; (try dsimp only at hSw); go_simp; try with_reducible rfl)
      try simp only [Act.put, List.setIfInBounds_toArray, List.set_cons_zero, List.set_cons_succ]
      refine wpAnyH_take (i := 40) (oi := { dst := some 73, op := Op.binOp BinOp.gtr 3 (Operand.tmp 72) (Operand.const (Value.int IntKind.i64 4)) 3, type := 4, pos := "law.go:119", after := #[{ on := 39, ground := Ground.data }, { on := 33, ground := Ground.guard }], guard := some (33, false) }) (v := ?_) rfl (by kernel_rfl) (by kernel_rfl) (by kernel_rfl) (fun _ _ _ h => h) (Or.inl ⟨by kernel_rfl, ?_⟩) (by assumption) ?_
      rotate_left
      · (intro w hSw; (try dsimp only at hSw); go_simp; try with_reducible rfl)
      try simp only [Act.put, List.setIfInBounds_toArray, List.set_cons_zero, List.set_cons_succ]
      refine wpAnyH_take (i := 41) (oi := { dst := some 74, op := Op.pick (Operand.tmp 66) (Operand.const (Value.bool true)) (Operand.tmp 73), type := 4, pos := "law.go:119", after := #[{ on := 33, ground := Ground.data }, { on := 40, ground := Ground.data }], guard := none }) (v := ?_) rfl (by kernel_rfl) (by kernel_rfl) (by kernel_rfl) (fun _ _ _ h => h) (Or.inl ⟨by kernel_rfl, ?_⟩) (by assumption) ?_
      rotate_left
      · (intro w hSw; (try dsimp only at hSw); go_simp; try with_reducible rfl)
      try simp only [Act.put, List.setIfInBounds_toArray, List.set_cons_zero, List.set_cons_succ]
      refine wpAnyH_take (i := 42) (oi := { dst := some 75, op := Op.move (Operand.tmp 74), type := 4, pos := "law.go:119", after := #[{ on := 41, ground := Ground.data }, { on := 33, ground := Ground.chain }], guard := none }) (v := ?_) rfl (by kernel_rfl) (by kernel_rfl) (by kernel_rfl) (fun _ _ _ h => h) (Or.inl ⟨by kernel_rfl, ?_⟩) (by assumption) ?_
      rotate_left
      · (intro w hSw; (try dsimp only at hSw); go_simp; try with_reducible rfl)
      try simp only [Act.put, List.setIfInBounds_toArray, List.set_cons_zero, List.set_cons_succ]
      refine wpAnyH_take (i := 43) (oi := { dst := some 76, op := Op.move (Operand.tmp 4), type := 35, pos := "law.go:119", after := #[{ on := 42, ground := Ground.guard }], guard := some (42, false) }) (v := ?_) rfl (by kernel_rfl) (by kernel_rfl) (by kernel_rfl) (fun _ _ _ h => h) (Or.inl ⟨by kernel_rfl, ?_⟩) (by assumption) ?_
      rotate_left
      · (intro w hSw; (try dsimp only at hSw); go_simp; try with_reducible rfl)
      try simp only [Act.put, List.setIfInBounds_toArray, List.set_cons_zero, List.set_cons_succ]
      refine wpAnyH_take (i := 44) (oi := { dst := some 77, op := Op.move (Operand.tmp 5), type := 3, pos := "law.go:119", after := #[{ on := 42, ground := Ground.guard }], guard := some (42, false) }) (v := ?_) rfl (by kernel_rfl) (by kernel_rfl) (by kernel_rfl) (fun _ _ _ h => h) (Or.inl ⟨by kernel_rfl, ?_⟩) (by assumption) ?_
      rotate_left
      · (intro w hSw; (try dsimp only at hSw); go_simp; try with_reducible rfl)
      try simp only [Act.put, List.setIfInBounds_toArray, List.set_cons_zero, List.set_cons_succ]
      refine wpAnyH_take (i := 45) (oi := { dst := some 78, op := Op.indexAddr 35 (Operand.tmp 76) (Operand.tmp 77), type := 0, pos := "law.go:119", after := #[{ on := 43, ground := Ground.data }, { on := 44, ground := Ground.data }, { on := 42, ground := Ground.guard }], guard := some (42, false) }) (v := ?_) rfl (by kernel_rfl) (by kernel_rfl) (by kernel_rfl) (fun _ _ _ h => h) (Or.inl ⟨by kernel_rfl, ?_⟩) (by assumption) ?_
      rotate_left
      · (intro w hSw; (try dsimp only at hSw); go_simp; try with_reducible rfl)
      try simp only [Act.put, List.setIfInBounds_toArray, List.set_cons_zero, List.set_cons_succ]
      refine wpAnyH_take (i := 46) (oi := { dst := some 79, op := Op.fieldAddr 48 (Operand.tmp 78) 2, type := 0, pos := "law.go:119", after := #[{ on := 45, ground := Ground.data }, { on := 42, ground := Ground.guard }], guard := some (42, false) }) (v := ?_) rfl (by kernel_rfl) (by kernel_rfl) (by kernel_rfl) (fun _ _ _ h => h) (Or.inl ⟨by kernel_rfl, ?_⟩) (by assumption) ?_
      rotate_left
      · (intro w hSw; (try dsimp only at hSw); go_simp; try with_reducible rfl)
      try simp only [Act.put, List.setIfInBounds_toArray, List.set_cons_zero, List.set_cons_succ]
      refine wpAnyH_take (i := 47) (oi := { dst := some 80, op := Op.fieldAddr 46 (Operand.tmp 79) 0, type := 0, pos := "law.go:119", after := #[{ on := 46, ground := Ground.data }, { on := 42, ground := Ground.guard }], guard := some (42, false) }) (v := ?_) rfl (by kernel_rfl) (by kernel_rfl) (by kernel_rfl) (fun _ _ _ h => h) (Or.inl ⟨by kernel_rfl, ?_⟩) (by assumption) ?_
      rotate_left
      · (intro w hSw; (try dsimp only at hSw); go_simp; try with_reducible rfl)
      try simp only [Act.put, List.setIfInBounds_toArray, List.set_cons_zero, List.set_cons_succ]
      refine wpAnyH_take (i := 48) (oi := { dst := some 81, op := Op.load 3 (Operand.tmp 80), type := 3, pos := "law.go:119", after := #[{ on := 47, ground := Ground.data }, { on := 42, ground := Ground.guard }], guard := some (42, false) }) (v := ?_) rfl (by kernel_rfl) (by kernel_rfl) (by kernel_rfl) (fun _ _ _ h => h) (Or.inl ⟨by kernel_rfl, ?_⟩) (by assumption) ?_
      rotate_left
      · (intro w hSw; (try dsimp only at hSw); go_simp; try with_reducible rfl)
      try simp only [Act.put, List.setIfInBounds_toArray, List.set_cons_zero, List.set_cons_succ]
      refine wpAnyH_take (i := 49) (oi := { dst := some 82, op := Op.binOp BinOp.lss 3 (Operand.tmp 81) (Operand.const (Value.int IntKind.i64 0)) 3, type := 4, pos := "law.go:119", after := #[{ on := 48, ground := Ground.data }, { on := 42, ground := Ground.guard }], guard := some (42, false) }) (v := ?_) rfl (by kernel_rfl) (by kernel_rfl) (by kernel_rfl) (fun _ _ _ h => h) (Or.inl ⟨by kernel_rfl, ?_⟩) (by assumption) ?_
      rotate_left
      · (intro w hSw; (try dsimp only at hSw); go_simp; try with_reducible rfl)
      try simp only [Act.put, List.setIfInBounds_toArray, List.set_cons_zero, List.set_cons_succ]
      refine wpAnyH_take (i := 50) (oi := { dst := some 83, op := Op.pick (Operand.tmp 75) (Operand.const (Value.bool true)) (Operand.tmp 82), type := 4, pos := "law.go:119", after := #[{ on := 42, ground := Ground.data }, { on := 49, ground := Ground.data }], guard := none }) (v := ?_) rfl (by kernel_rfl) (by kernel_rfl) (by kernel_rfl) (fun _ _ _ h => h) (Or.inl ⟨by kernel_rfl, ?_⟩) (by assumption) ?_
      rotate_left
      · (intro w hSw; (try dsimp only at hSw); go_simp; try with_reducible rfl)
      try simp only [Act.put, List.setIfInBounds_toArray, List.set_cons_zero, List.set_cons_succ]
      refine wpAnyH_take (i := 51) (oi := { dst := some 84, op := Op.move (Operand.tmp 83), type := 4, pos := "law.go:119", after := #[{ on := 50, ground := Ground.data }, { on := 42, ground := Ground.chain }], guard := none }) (v := ?_) rfl (by kernel_rfl) (by kernel_rfl) (by kernel_rfl) (fun _ _ _ h => h) (Or.inl ⟨by kernel_rfl, ?_⟩) (by assumption) ?_
      rotate_left
      · (intro w hSw; (try dsimp only at hSw); go_simp; try with_reducible rfl)
      try simp only [Act.put, List.setIfInBounds_toArray, List.set_cons_zero, List.set_cons_succ]
      refine wpAnyH_take (i := 52) (oi := { dst := some 85, op := Op.move (Operand.tmp 4), type := 35, pos := "law.go:119", after := #[{ on := 51, ground := Ground.guard }], guard := some (51, false) }) (v := ?_) rfl (by kernel_rfl) (by kernel_rfl) (by kernel_rfl) (fun _ _ _ h => h) (Or.inl ⟨by kernel_rfl, ?_⟩) (by assumption) ?_
      rotate_left
      · (intro w hSw; (try dsimp only at hSw); go_simp; try with_reducible rfl)
      try simp only [Act.put, List.setIfInBounds_toArray, List.set_cons_zero, List.set_cons_succ]
      refine wpAnyH_take (i := 53) (oi := { dst := some 86, op := Op.move (Operand.tmp 5), type := 3, pos := "law.go:119", after := #[{ on := 51, ground := Ground.guard }], guard := some (51, false) }) (v := ?_) rfl (by kernel_rfl) (by kernel_rfl) (by kernel_rfl) (fun _ _ _ h => h) (Or.inl ⟨by kernel_rfl, ?_⟩) (by assumption) ?_
      rotate_left
      · (intro w hSw; (try dsimp only at hSw); go_simp; try with_reducible rfl)
      try simp only [Act.put, List.setIfInBounds_toArray, List.set_cons_zero, List.set_cons_succ]
      refine wpAnyH_take (i := 54) (oi := { dst := some 87, op := Op.indexAddr 35 (Operand.tmp 85) (Operand.tmp 86), type := 0, pos := "law.go:119", after := #[{ on := 52, ground := Ground.data }, { on := 53, ground := Ground.data }, { on := 51, ground := Ground.guard }], guard := some (51, false) }) (v := ?_) rfl (by kernel_rfl) (by kernel_rfl) (by kernel_rfl) (fun _ _ _ h => h) (Or.inl ⟨by kernel_rfl, ?_⟩) (by assumption) ?_
      rotate_left
      · (intro w hSw; (try dsimp only at hSw); go_simp; try with_reducible rfl)
      try simp only [Act.put, List.setIfInBounds_toArray, List.set_cons_zero, List.set_cons_succ]
      refine wpAnyH_take (i := 55) (oi := { dst := some 88, op := Op.fieldAddr 48 (Operand.tmp 87) 2, type := 0, pos := "law.go:119", after := #[{ on := 54, ground := Ground.data }, { on := 51, ground := Ground.guard }], guard := some (51, false) }) (v := ?_) rfl (by kernel_rfl) (by kernel_rfl) (by kernel_rfl) (fun _ _ _ h => h) (Or.inl ⟨by kernel_rfl, ?_⟩) (by assumption) ?_
      rotate_left
      · (intro w hSw; (try dsimp only at hSw); go_simp; try with_reducible rfl)
      try simp only [Act.put, List.setIfInBounds_toArray, List.set_cons_zero, List.set_cons_succ]
      refine wpAnyH_take (i := 56) (oi := { dst := some 89, op := Op.fieldAddr 46 (Operand.tmp 88) 0, type := 0, pos := "law.go:119", after := #[{ on := 55, ground := Ground.data }, { on := 51, ground := Ground.guard }], guard := some (51, false) }) (v := ?_) rfl (by kernel_rfl) (by kernel_rfl) (by kernel_rfl) (fun _ _ _ h => h) (Or.inl ⟨by kernel_rfl, ?_⟩) (by assumption) ?_
      rotate_left
      · (intro w hSw; (try dsimp only at hSw); go_simp; try with_reducible rfl)
      try simp only [Act.put, List.setIfInBounds_toArray, List.set_cons_zero, List.set_cons_succ]
      refine wpAnyH_take (i := 57) (oi := { dst := some 90, op := Op.load 3 (Operand.tmp 89), type := 3, pos := "law.go:119", after := #[{ on := 56, ground := Ground.data }, { on := 51, ground := Ground.guard }], guard := some (51, false) }) (v := ?_) rfl (by kernel_rfl) (by kernel_rfl) (by kernel_rfl) (fun _ _ _ h => h) (Or.inl ⟨by kernel_rfl, ?_⟩) (by assumption) ?_
      rotate_left
      · (intro w hSw; (try dsimp only at hSw); go_simp; try with_reducible rfl)
      try simp only [Act.put, List.setIfInBounds_toArray, List.set_cons_zero, List.set_cons_succ]
      refine wpAnyH_take (i := 58) (oi := { dst := some 91, op := Op.move (Operand.tmp 6), type := 3, pos := "law.go:119", after := #[{ on := 51, ground := Ground.guard }], guard := some (51, false) }) (v := ?_) rfl (by kernel_rfl) (by kernel_rfl) (by kernel_rfl) (fun _ _ _ h => h) (Or.inl ⟨by kernel_rfl, ?_⟩) (by assumption) ?_
      rotate_left
      · (intro w hSw; (try dsimp only at hSw); go_simp; try with_reducible rfl)
      try simp only [Act.put, List.setIfInBounds_toArray, List.set_cons_zero, List.set_cons_succ]
      refine wpAnyH_take (i := 59) (oi := { dst := some 92, op := Op.binOp BinOp.add 3 (Operand.tmp 90) (Operand.tmp 91) 3, type := 3, pos := "law.go:119", after := #[{ on := 57, ground := Ground.data }, { on := 58, ground := Ground.data }, { on := 51, ground := Ground.guard }], guard := some (51, false) }) (v := ?_) rfl (by kernel_rfl) (by kernel_rfl) (by kernel_rfl) (fun _ _ _ h => h) (Or.inl ⟨by kernel_rfl, ?_⟩) (by assumption) ?_
      rotate_left
      · (intro w hSw; (try dsimp only at hSw); go_simp; try with_reducible rfl)
      try simp only [Act.put, List.setIfInBounds_toArray, List.set_cons_zero, List.set_cons_succ]
      refine wpAnyH_take (i := 60) (oi := { dst := some 93, op := Op.binOp BinOp.gtr 3 (Operand.tmp 92) (Operand.const (Value.int IntKind.i64 16)) 3, type := 4, pos := "law.go:119", after := #[{ on := 59, ground := Ground.data }, { on := 51, ground := Ground.guard }], guard := some (51, false) }) (v := ?_) rfl (by kernel_rfl) (by kernel_rfl) (by kernel_rfl) (fun _ _ _ h => h) (Or.inl ⟨by kernel_rfl, ?_⟩) (by assumption) ?_
      rotate_left
      · (intro w hSw; (try dsimp only at hSw); go_simp; try with_reducible rfl)
      try simp only [Act.put, List.setIfInBounds_toArray, List.set_cons_zero, List.set_cons_succ]
      refine wpAnyH_take (i := 61) (oi := { dst := some 94, op := Op.pick (Operand.tmp 84) (Operand.const (Value.bool true)) (Operand.tmp 93), type := 4, pos := "law.go:119", after := #[{ on := 51, ground := Ground.data }, { on := 60, ground := Ground.data }], guard := none }) (v := ?_) rfl (by kernel_rfl) (by kernel_rfl) (by kernel_rfl) (fun _ _ _ h => h) (Or.inl ⟨by kernel_rfl, ?_⟩) (by assumption) ?_
      rotate_left
      · (intro w hSw; (try dsimp only at hSw); go_simp; try with_reducible rfl)
      try simp only [Act.put, List.setIfInBounds_toArray, List.set_cons_zero, List.set_cons_succ]
      refine wpAnyH_take (i := 62) (oi := { dst := some 95, op := Op.move (Operand.tmp 94), type := 4, pos := "law.go:119", after := #[{ on := 61, ground := Ground.data }, { on := 51, ground := Ground.chain }], guard := none }) (v := ?_) rfl (by kernel_rfl) (by kernel_rfl) (by kernel_rfl) (fun _ _ _ h => h) (Or.inl ⟨by kernel_rfl, ?_⟩) (by assumption) ?_
      rotate_left
      · (intro w hSw; (try dsimp only at hSw); go_simp; try with_reducible rfl)
      try simp only [Act.put, List.setIfInBounds_toArray, List.set_cons_zero, List.set_cons_succ]
      refine wpAnyH_take (i := 63) (oi := { dst := some 96, op := Op.move (Operand.tmp 4), type := 35, pos := "law.go:119", after := #[{ on := 62, ground := Ground.guard }], guard := some (62, false) }) (v := ?_) rfl (by kernel_rfl) (by kernel_rfl) (by kernel_rfl) (fun _ _ _ h => h) (Or.inl ⟨by kernel_rfl, ?_⟩) (by assumption) ?_
      rotate_left
      · (intro w hSw; (try dsimp only at hSw); go_simp; try with_reducible rfl)
      try simp only [Act.put, List.setIfInBounds_toArray, List.set_cons_zero, List.set_cons_succ]
      refine wpAnyH_take (i := 64) (oi := { dst := some 97, op := Op.move (Operand.tmp 5), type := 3, pos := "law.go:119", after := #[{ on := 62, ground := Ground.guard }], guard := some (62, false) }) (v := ?_) rfl (by kernel_rfl) (by kernel_rfl) (by kernel_rfl) (fun _ _ _ h => h) (Or.inl ⟨by kernel_rfl, ?_⟩) (by assumption) ?_
      rotate_left
      · (intro w hSw; (try dsimp only at hSw); go_simp; try with_reducible rfl)
      try simp only [Act.put, List.setIfInBounds_toArray, List.set_cons_zero, List.set_cons_succ]
      refine wpAnyH_take (i := 65) (oi := { dst := some 98, op := Op.indexAddr 35 (Operand.tmp 96) (Operand.tmp 97), type := 0, pos := "law.go:119", after := #[{ on := 63, ground := Ground.data }, { on := 64, ground := Ground.data }, { on := 62, ground := Ground.guard }], guard := some (62, false) }) (v := ?_) rfl (by kernel_rfl) (by kernel_rfl) (by kernel_rfl) (fun _ _ _ h => h) (Or.inl ⟨by kernel_rfl, ?_⟩) (by assumption) ?_
      rotate_left
      · (intro w hSw; (try dsimp only at hSw); go_simp; try with_reducible rfl)
      try simp only [Act.put, List.setIfInBounds_toArray, List.set_cons_zero, List.set_cons_succ]
      refine wpAnyH_take (i := 66) (oi := { dst := some 99, op := Op.fieldAddr 48 (Operand.tmp 98) 2, type := 0, pos := "law.go:119", after := #[{ on := 65, ground := Ground.data }, { on := 62, ground := Ground.guard }], guard := some (62, false) }) (v := ?_) rfl (by kernel_rfl) (by kernel_rfl) (by kernel_rfl) (fun _ _ _ h => h) (Or.inl ⟨by kernel_rfl, ?_⟩) (by assumption) ?_
      rotate_left
      · (intro w hSw; (try dsimp only at hSw); go_simp; try with_reducible rfl)
      try simp only [Act.put, List.setIfInBounds_toArray, List.set_cons_zero, List.set_cons_succ]
      refine wpAnyH_take (i := 67) (oi := { dst := some 100, op := Op.fieldAddr 46 (Operand.tmp 99) 0, type := 0, pos := "law.go:119", after := #[{ on := 66, ground := Ground.data }, { on := 62, ground := Ground.guard }], guard := some (62, false) }) (v := ?_) rfl (by kernel_rfl) (by kernel_rfl) (by kernel_rfl) (fun _ _ _ h => h) (Or.inl ⟨by kernel_rfl, ?_⟩) (by assumption) ?_
      rotate_left
      · (intro w hSw; (try dsimp only at hSw); go_simp; try with_reducible rfl)
      try simp only [Act.put, List.setIfInBounds_toArray, List.set_cons_zero, List.set_cons_succ]
      refine wpAnyH_take (i := 68) (oi := { dst := some 101, op := Op.load 3 (Operand.tmp 100), type := 3, pos := "law.go:119", after := #[{ on := 67, ground := Ground.data }, { on := 62, ground := Ground.guard }], guard := some (62, false) }) (v := ?_) rfl (by kernel_rfl) (by kernel_rfl) (by kernel_rfl) (fun _ _ _ h => h) (Or.inl ⟨by kernel_rfl, ?_⟩) (by assumption) ?_
      rotate_left
      · (intro w hSw; (try dsimp only at hSw); go_simp; try with_reducible rfl)
      try simp only [Act.put, List.setIfInBounds_toArray, List.set_cons_zero, List.set_cons_succ]
      refine wpAnyH_take (i := 69) (oi := { dst := some 102, op := Op.move (Operand.tmp 6), type := 3, pos := "law.go:119", after := #[{ on := 62, ground := Ground.guard }], guard := some (62, false) }) (v := ?_) rfl (by kernel_rfl) (by kernel_rfl) (by kernel_rfl) (fun _ _ _ h => h) (Or.inl ⟨by kernel_rfl, ?_⟩) (by assumption) ?_
      rotate_left
      · (intro w hSw; (try dsimp only at hSw); go_simp; try with_reducible rfl)
      try simp only [Act.put, List.setIfInBounds_toArray, List.set_cons_zero, List.set_cons_succ]
      refine wpAnyH_take (i := 70) (oi := { dst := some 103, op := Op.binOp BinOp.rem 3 (Operand.tmp 101) (Operand.tmp 102) 3, type := 3, pos := "law.go:119", after := #[{ on := 68, ground := Ground.data }, { on := 69, ground := Ground.data }, { on := 62, ground := Ground.guard }], guard := some (62, false) }) (v := ?_) rfl (by kernel_rfl) (by kernel_rfl) (by kernel_rfl) (fun _ _ _ h => h) (Or.inl ⟨by kernel_rfl, ?_⟩) (by assumption) ?_
      rotate_left
      · (intro w hSw; (try dsimp only at hSw); go_simp; try with_reducible rfl)
      try simp only [Act.put, List.setIfInBounds_toArray, List.set_cons_zero, List.set_cons_succ]
      refine wpAnyH_take (i := 71) (oi := { dst := some 104, op := Op.binOp BinOp.neq 3 (Operand.tmp 103) (Operand.const (Value.int IntKind.i64 0)) 3, type := 4, pos := "law.go:119", after := #[{ on := 70, ground := Ground.data }, { on := 62, ground := Ground.guard }], guard := some (62, false) }) (v := ?_) rfl (by kernel_rfl) (by kernel_rfl) (by kernel_rfl) (fun _ _ _ h => h) (Or.inl ⟨by kernel_rfl, ?_⟩) (by assumption) ?_
      rotate_left
      · (intro w hSw; (try dsimp only at hSw); go_simp; try with_reducible rfl)
      try simp only [Act.put, List.setIfInBounds_toArray, List.set_cons_zero, List.set_cons_succ]
      refine wpAnyH_take (i := 72) (oi := { dst := some 105, op := Op.pick (Operand.tmp 95) (Operand.const (Value.bool true)) (Operand.tmp 104), type := 4, pos := "law.go:119", after := #[{ on := 62, ground := Ground.data }, { on := 71, ground := Ground.data }], guard := none }) (v := ?_) rfl (by kernel_rfl) (by kernel_rfl) (by kernel_rfl) (fun _ _ _ h => h) (Or.inl ⟨by kernel_rfl, ?_⟩) (by assumption) ?_
      rotate_left
      · (intro w hSw; (try dsimp only at hSw); go_simp; try with_reducible rfl)
      try simp only [Act.put, List.setIfInBounds_toArray, List.set_cons_zero, List.set_cons_succ]
      refine wpAnyH_done (by kernel_rfl) ?_ _
      have HB3 := Lib.hid (‹_ ∧ _ ∧ _ ∧ _ ∧ Below X.heap.size X _›).2.2.2.2
      have hx2 : x2 ≤ 16 := by omega
      clear q0 q0' q1 q1' q2 q3 q4 q4' q4'' q5 q6 q6' q6'' q7 q8 q8a q8' q8'' hrem p0 p1 p2 pa hP1 hP0 c0 c1 c2 c3 bm hHeld HBr
      go_wp2_with fail
      go_loopw [7] (fun kv wr2 => ∃ k : Nat, k ≤ i ∧ kv = .int .i64 k ∧ Hid (Below X.heap.size X wr2)) (fun kv _ => i - (RowKit.intOf kv).toNat)
      case atStart => exact ⟨0, Nat.zero_le _, rfl, HB3.out⟩
      case round =>
        obtain ⟨k, hk, rfl, HB2r⟩ := hrel
        by_cases hlk : k < i
        · have d2 : decide ((k : Int) < (i : Int)) = true := decide_eq_true (by omega)
          have d2' : decide (k < i) = true := decide_eq_true hlk
          have hki : (k : Int) < (LL : Int) := by omega
          have hkx : k < l.length := by omega
          obtain ⟨c0, c1, c2, c3⟩ := HCA.out _ HB2r.out
          obtain ⟨e0, e1, e2, e3⟩ := CRow.cells RA.out hkx HB2r.out
          have HAK := Lib.hid (HAP.out k hlk)
          have hmk : l[k] ∈ l := List.getElem_mem hkx
          obtain ⟨y, hy⟩ : ∃ y, y = l[k] := ⟨_, rfl⟩
          rw [← hy] at e0 e1 e2 e3 HAK hmk
          obtain ⟨r0, r1, r3, r2, _⟩ := cell_bounds HOK.out hmk
          clear hy hkx hmk r0 r1
          obtain ⟨y0, y1, y2, y3⟩ := y
          dsimp only at e0 e1 e2 e3 HAK r2 r3
          have hy2 : y2 ≤ 16 := by have := Nat.two_pow_pos y3; omega
          have n0 : ((y0 : Int) == (x0 : Int)) = false := by have := HAK.out.1; simp; omega
          have n0' : (y0 == x0) = false := by have := HAK.out.1; simp; omega
          by_cases h1 : y1 = x1
          · subst h1
            have n1 : ((y1 : Int) == (y1 : Int)) = true := by simp
            have HM := HAK.out.2 rfl
            have MT : Hid (∀ wq, Calls Try.prog 25 #[.agg #[.int .i64 (y2 : Nat), .int .i64 (y3 : Nat)], .agg #[.int .i64 (x2 : Nat), .int .i64 (x3 : Nat)]] wq fun e w' => e = .returned (.bool false) ∧ Below wq.heap.size wq w') := fun wq => by
              have := meet_any y2 y3 x2 x3 (by omega) (by omega) (by omega) (by omega) wq
              rwa [decide_eq_false HM] at this
            clear HM HAK r2 r3
            go_wp2_with fail
            go_region_held3 (fun w' => w'.cell? ⟨b1, o1' + k * 4, none⟩ = some (.int .u32 (y0 : Nat)) ∧ w'.cell? ⟨b1, o1' + k * 4 + 1, none⟩ = some (.int .i64 (y1 : Nat)) ∧ w'.cell? ⟨b1, o1' + k * 4 + 2, none⟩ = some (.int .i64 (y2 : Nat)) ∧ w'.cell? ⟨b1, o1' + k * 4 + 3, none⟩ = some (.int .i64 (y3 : Nat)) ∧ w'.cell? ⟨b1, o1' + i * 4, none⟩ = some (.int .u32 (x0 : Nat)) ∧ w'.cell? ⟨b1, o1' + i * 4 + 1, none⟩ = some (.int .i64 (y1 : Nat)) ∧ w'.cell? ⟨b1, o1' + i * 4 + 2, none⟩ = some (.int .i64 (x2 : Nat)) ∧ w'.cell? ⟨b1, o1' + i * 4 + 3, none⟩ = some (.int .i64 (x3 : Nat)) ∧ Below wr.heap.size wr w')
              (first
                | exact ⟨e0, e1, e2, e3, c0, c1, c2, c3, (Below.refl _ _).drew⟩
                | exact ⟨e0, e1, e2, e3, c0, c1, c2, c3, Below.refl _ _⟩
                | (rcases ‹_ ∧ _ ∧ _ ∧ _ ∧ _ ∧ _ ∧ _ ∧ _ ∧ Below wr.heap.size _ _› with ⟨g0, g1, g2, g3, g4, g5, g6, g7, g8⟩; exact ⟨cell_next (by assumption) g0, cell_next (by assumption) g1, cell_next (by assumption) g2, cell_next (by assumption) g3, cell_next (by assumption) g4, cell_next (by assumption) g5, cell_next (by assumption) g6, cell_next (by assumption) g7, below_next (by assumption) g8⟩))
              (first
                | (go_at_call 25; ((with_reducible refine (MT.out _).mono ?_); rintro e wm2 ⟨rfl, bm2⟩)))
            all_goals (have HB5 := below_next (‹_ ∧ _ ∧ _ ∧ _ ∧ _ ∧ _ ∧ _ ∧ _ ∧ Below wr.heap.size wr _›).2.2.2.2.2.2.2.2 HB2r.out)
            all_goals (go_wp2_with fail)
            all_goals go_roundw
            case rel => exact ⟨k + 1, hlk, by go_num, HB5⟩
            case measure => simp [RowKit.intOf]; omega
          · have n1 : ((y1 : Int) == (x1 : Int)) = false := by simp; omega
            have n1' : (y1 == x1) = false := by simp; omega
            clear HAK r2 r3
            go_wp2_with fail
            go_quiet (fail)
            go_wp2_with fail
            go_roundw
            case rel => exact ⟨k + 1, hlk, by go_num, below_drewN HB2r.out _⟩
            case measure => simp [RowKit.intOf]; omega
        · have d2 : decide ((k : Int) < (i : Int)) = false := decide_eq_false (by omega)
          have d2' : decide (k < i) = false := decide_eq_false hlk
          go_wp2_with fail
          go_roundw
          case rel => exact ⟨i + 1, hlt, by go_num, HB2r.out⟩
          case measure => simp [RowKit.intOf]; omega
    · have d1 : decide ((i : Int) < (LL : Int)) = false := decide_eq_false (by omega)
      have d1' : decide (i < LL) = false := decide_eq_false hlt
      go_wp2_with fail
      go_loopw [8] (fun iv wr2 => ∃ r : Nat, r ≤ R ∧ iv = .int .i64 r ∧ Hid (Below X.heap.size X wr2)) (fun iv _ => R - (RowKit.intOf iv).toNat)
      case atStart => exact ⟨0, Nat.zero_le _, rfl, HBr.out⟩
      case round =>
        clear hi hlt d1 d1' HBr
        obtain ⟨r, hr, rfl, HBr⟩ := hrel
        have RW := Lib.hid (ROWS.out wr HBr.out)
        by_cases hlr : r < R
        · have d3 : decide ((r : Int) < (R : Int)) = true := decide_eq_true (by omega)
          have d3' : decide (r < R) = true := decide_eq_true hlr
          go_wp2_with fail
          refine RW.out.mono ?_; rintro e w3 ⟨rfl, b3⟩
          have HB3 := Lib.hid (below_next b3 HBr.out)
          clear b3 RW HBr
          go_wp2_with fail
          have hUB : usedG l r ≤ 16 := used_bound HOK.out
          go_loopw [10, 9] (fun kv nv wr2 => ∃ (k n : Nat), k ≤ LL ∧ n ≤ 16 ∧ kv = .int .i64 k ∧ nv = .int .i64 ((16 : Int) - (n : Int)) ∧ Hid (n = usedG (l.take k) r) ∧ Hid (Below X.heap.size X wr2)) (fun kv _ _ => LL - (RowKit.intOf kv).toNat)
          case atStart => exact ⟨0, 0, Nat.zero_le _, Nat.zero_le _, rfl, by simp, by simp [Hid, usedG], HB3.out⟩
          case round =>
            obtain ⟨k, n, hk, hn16, rfl, rfl, HN, HBr⟩ := hrel
            by_cases hlk : k < LL
            · have d2 : decide ((k : Int) < (LL : Int)) = true := decide_eq_true (by omega)
              have d2' : decide (k < LL) = true := decide_eq_true hlk
              have hki : (k : Int) < (LL : Int) := by omega
              have hkx : k < l.length := by rw [← HLL.out]; exact hlk
              cases aa with
              | none => have := crow_none RA.out; rw [this] at hkx; simp at hkx
              | some A =>
              obtain ⟨b1, o1', rfl⟩ := crow_some RA.out (by omega)
              obtain ⟨e0, e1, e2, e3⟩ := CRow.cells RA.out hkx HBr.out
              have HUT := Lib.hid (used_take (r := r) hkx)
              have hUL := used_le l r (k + 1)
              have hmk : l[k] ∈ l := List.getElem_mem hkx
              obtain ⟨y, hy⟩ : ∃ y, y = l[k] := ⟨_, rfl⟩
              rw [← hy] at e0 e1 e2 e3 HUT hmk
              obtain ⟨r0, r1, r3, r2, _⟩ := cell_bounds HOK.out hmk
              clear hy hkx hmk r0 r1 r2 e0 e2
              obtain ⟨y0, y1, y2, y3⟩ := y
              dsimp only [Ce.row, Ce.ord] at e1 e3 r3 HUT
              by_cases h1 : y1 = r
              · subst h1
                have n1 : ((y1 : Int) == (y1 : Int)) = true := by simp
                obtain ⟨P, hP⟩ : ∃ P, P = 2 ^ y3 := ⟨_, rfl⟩
                have HN2 : Hid (n + P = usedG (l.take (k + 1)) y1) := by unfold Hid; rw [HUT.out, if_pos rfl, HN.out, hP]
                have hnP : n + P ≤ 16 := by rw [HN2.out]; omega
                have hPi : IntKind.i64.wrap ((2 : Int) ^ y3) = (P : Int) := by
                  rw [two_i, ← hP, IntKind.wrap_i64]; omega
                have hsb : (16 : Int) - (n : Int) - (P : Int) = 16 - ((n + P : Nat) : Int) := by omega
                clear hP HUT hUL HN
                go_wp2_with fail
                go_roundw
                case rel => exact ⟨k + 1, n + P, hlk, hnP, by go_num, (by rw [← hsb]; go_num), HN2, HBr⟩
                case measure => simp [RowKit.intOf]; omega
              · have n1 : ((y1 : Int) == (r : Int)) = false := by simp; omega
                have n1' : (y1 == r) = false := by simp; omega
                have HN2 : Hid (n = usedG (l.take (k + 1)) r) := by unfold Hid; rw [HUT.out, if_neg h1, HN.out]; rfl
                clear HUT hUL HN
                go_wp2_with fail
                go_roundw
                case rel => exact ⟨k + 1, n, hlk, hn16, by go_num, rfl, HN2, HBr⟩
                case measure => simp [RowKit.intOf]; omega
            · have d2 : decide ((k : Int) < (LL : Int)) = false := decide_eq_false (by omega)
              have d2' : decide (k < LL) = false := decide_eq_false hlk
              have HNU : Hid (usedG l r = n) := by
                unfold Hid; rw [HN.out, List.take_of_length_le (by rw [← HLL.out]; omega)]
              have ID := Lib.hid (IDLE.out r (by omega) wr HBr.out)
              rw [HNU.out] at ID
              have n2 : decide ((16 : Int) - (n : Int) < 0) = false := decide_eq_false (by omega)
              have n3 : ((16 : Int) - (n : Int) != (16 : Int) - (n : Int)) = false := by simp
              clear HNU HN hUB
              go_wp2_with fail
              refine ID.out.mono ?_; rintro e w4 ⟨rfl, b4⟩
              have HB4 := below_next b4 HBr.out
              clear b4 ID
              go_wp2_with fail
              go_roundw
              case rel => exact ⟨r + 1, hlr, by go_num, HB4⟩
              case measure => simp [RowKit.intOf]; omega
        · have d3 : decide ((r : Int) < (R : Int)) = false := decide_eq_false (by omega)
          have d3' : decide (r < R) = false := decide_eq_false hlr
          go_wp2_with fail
          refine RW.out.mono ?_; rintro e w3 ⟨rfl, b3⟩
          have HB3 := Lib.hid (below_next b3 HBr.out)
          have t1 : decide ((R : Int) ≤ 16) = true := decide_eq_true (by omega)
          have t1' : decide (R ≤ 16) = true := decide_eq_true (by omega)
          have t2 : decide ((a : Int) ≥ 0) = true := decide_eq_true (by omega)
          clear b3 RW HBr
          go_wp2_with fail
          refine (ROWS.out w3 HB3.out).mono ?_; rintro e w4 ⟨rfl, b4⟩
          have HB4 := Lib.hid (below_next b4 HB3.out)
          clear b4 HB3
          go_wp2_with fail
          refine (ACTV.out w4 HB4.out).mono ?_; rintro e w5 ⟨rfl, b5⟩
          have HB5 := Lib.hid (below_next b5 HB4.out)
          clear b5 HB4
          go_wp2_with fail
          refine (ACTV.out w5 HB5.out).mono ?_; rintro e w6 ⟨rfl, b6⟩
          have HB6 := Lib.hid (below_next b6 HB5.out)
          clear b6 HB5
          go_wp2_with fail
          refine (ROWS.out w6 HB6.out).mono ?_; rintro e w7 ⟨rfl, b7⟩
          have HB7 := Lib.hid (below_next b7 HB6.out)
          clear b7 HB6
          by_cases haR : a < R
          · have t3 : decide ((a : Int) < (R : Int)) = true := decide_eq_true (by omega)
            have t3' : decide (a < R) = true := decide_eq_true haR
            go_wp2_with fail
            refine (K.out _).mono ?_; rintro e w9 ⟨rfl, b9⟩
            have HB9 := below_next b9 (HB2.out.trans (HB7.out.mono HB2.out.size))
            clear b9
            go_wp2_with fail
            go_ret
            exact ⟨rfl, HB9⟩
          · have t3 : decide ((a : Int) < (R : Int)) = false := decide_eq_false (by omega)
            have t3' : decide (a < R) = false := decide_eq_false haR
            have ha0 : a = 0 := by rcases HACT.out with h | h; exact absurd h haR; exact h
            have t4 : ((a : Int) == 0) = true := by simp; exact ha0
            have t4' : (a == 0) = true := by simp; exact ha0
            have HA0 := Lib.hid ha0
            clear ha0
            go_wp2_with fail
            refine (ACTV.out w7 HB7.out).mono ?_; rintro e w8 ⟨rfl, b8⟩
            have HB8 := Lib.hid (below_next b8 HB7.out)
            clear b8 HB7
            go_wp2_with fail
            refine (K.out _).mono ?_; rintro e w9 ⟨rfl, b9⟩
            have HB9 := below_next b9 (HB2.out.trans (HB8.out.mono HB2.out.size))
            clear b9
            go_wp2_with fail
            go_ret
            exact ⟨rfl, HB9⟩


set_option maxRecDepth 100000 in
theorem lifted (os : Os) (started : os.Started) (H : Type) (enc : TypeId × Value → H) :
    ReturnsInHanded {} Try.checked os 4 .any (Rows.gangRowsSpec.pre6 enc Try.prog Try.f4 Rows.gangRowsRow.domain false) (Rows.gangRowsSpec.post enc Try.prog Try.f4 false true false false) := by
  refine returnsInHanded_of_change (C := Try.checked) own started (by kernel_rfl) Try.func4
    (ChangeSpec.witness6 (enc := enc) (C := Try.checked) false ⟨#[], #[.slice none 0 0], []⟩ 8 (by kernel_rfl) (by kernel_rfl) (by kernel_rfl) (by kernel_rfl)) ?_
  intro W base args ds gs before hval0 hW _ _
  have hval : ∀ (j : Nat) t v, Try.f4.params[j]? = some t → args[j]? = some v → Value.okWide Try.prog W .any base t v := hval0
  have hW' := hW
  obtain ⟨p, q, hA0, hV, rfl, hfz, hnd⟩ := hW
  have hA : DataW.TrodAll enc Try.prog W 0 (fun _ => true) true Try.f4.params.toList args.toList ds p := hA0
  rw [Try.params4] at hA hval
  obtain ⟨v0, vs0, d0, ds0, p0, q0, hargs, rfl, rfl, h0, r0⟩ := trodAll_cons hA
  obtain ⟨rfl, rfl, rfl⟩ := trodAll_nil r0
  obtain rfl : args = #[v0] := by cases args; simp_all
  obtain ⟨L, w0⟩ := open_acts h0 (okWide_slice Try.underlying22 (hval 0 22 v0 rfl rfl))
  clear hA0 hval0
  refine (walk v0 L W w0).mono fun e W' ⟨he, hb⟩ => ?_
  subst he
  exact ⟨_, rfl, law_post (by kernel_rfl) (by kernel_rfl) rfl Try.underlying4 rfl hW' rfl hb⟩

theorem over : Rows.gangRowsRow.holds Try.pinned (OpenSpec.ofChange Rows.gangRowsSpec) :=
  OpenClaim.holds_of_wide 4 Try.f4 rfl rfl rfl rfl rfl rfl rfl ⟨rfl, rfl, rfl, rfl, rfl⟩ rfl rfl rfl rfl rfl (by kernel_rfl) Try.func4 (by kernel_rfl)
    (of_decide_eq_true (by kernel_rfl)) (by unfold Func.isWrapper; first | (rw [if_pos (by decide +kernel)]; kernel_rfl) | (rw [if_neg (by decide +kernel)]; exact ⟨rfl, rfl⟩))
    (fun os started H enc _ => lifted os started H enc)

theorem proved : Rows.GangRowsSaid :=
  over
#print axioms proved
end Go.Proofs.Ytfobapnncjjeiaa.gangRows
