
/-
  Contracts of package gangerref01's functions, further.
-/
import Derived.Test.YtbnlmeegepgioaaDoorNumRef
import Derived.Test.YtbnlmeegepgioaaDoorMem
namespace Go.Proofs.YtbnlmeegepgioaaDoor
open Go.ChangeShapes Go.WideShapes Go.ChangeAt Go.RowKit
set_option linter.unusedVariables false
theorem refsize_any (n : Int) (w : World) (h : I64 n) : Calls Tryd.prog 53 #[.int .i64 n] w fun e w' => e = .returned (.int .u64 (n.natAbs : Nat)) ∧ w' = w := by
  obtain ⟨h1, h2⟩ := h
  by_cases hn : n < 0
  · have H : Hid (-(n + 1) + 1 = (n.natAbs : Nat)) := by
      show _ = _
      omega
    go_enter Tryd.func53, Tryd.ntmps53
    go_wp2
    go_ret
    exact ⟨ret_int H.out, rfl⟩
  · have H : Hid (n = (n.natAbs : Nat)) := by
      show _ = _
      omega
    go_enter Tryd.func53, Tryd.ntmps53
    go_wp2
    go_ret
    exact ⟨ret_int H.out, rfl⟩

theorem of_any (n : Int) (w : World) (h : I64 n) : Calls Tryd.prog 40 #[.int .i64 n] w
    fun e w' => e = .returned (.agg #[.bool (negB n), .int .u64 (hiW n.natAbs), .int .u64 (loW n.natAbs)]) ∧ Below w.heap.size w w' := by
  have H1 : Hid (decide (n < 0) = negB n) := by show _ = _; rfl
  have H2 := Lib.hid (hiW_abs h)
  have H3 := Lib.hid (loW_abs h)
  go_enter Tryd.func40, Tryd.ntmps40
  go_wp2_with (go_at_call 53; refine (refsize_any _ _ h).mono ?_; rintro e w' ⟨rfl, rfl⟩)
  go_returns
  exact ⟨ret_wide H1.out H2.out.symm H3.out.symm, by go_grown⟩

theorem Plus_same (a : Bool) (A B : Nat) (w : World) (h : Fits (A + B)) :
    Calls Tryd.prog 39 #[.agg #[.bool a, .int .u64 (hiW A), .int .u64 (loW A)], .agg #[.bool a, .int .u64 (hiW B), .int .u64 (loW B)]] w
      fun e w' => e = .returned (.agg #[.bool a, .int .u64 (hiW (A + B)), .int .u64 (loW (A + B))]) ∧ Below w.heap.size w w' := by
  go_enter Tryd.func39, Tryd.ntmps39
  go_wp2_with (go_at_call 44; refine (plus_any _ _ _ _ _ h).mono ?_; rintro e w1 ⟨rfl, hb⟩; obtain ⟨hc, hf⟩ := bcell hb; have hB : Below w.heap.size w w1 := Below.trans (by go_grown) (hb.mono (by simp <;> omega)))
  refine bodyPost_ret (v := .agg #[.bool a, .int .u64 (hiW (A + B)), .int .u64 (loW (A + B))]) (by simp [results, Tryd.results39, go_sem, hc]) rfl ⟨rfl, ?_⟩
  go_grown

theorem Plus_diff (a b : Bool) (A B : Nat) (w : World) (hab : (a == b) = false) (h : Fits A) (h' : Fits B) :
    Calls Tryd.prog 39 #[.agg #[.bool a, .int .u64 (hiW A), .int .u64 (loW A)], .agg #[.bool b, .int .u64 (hiW B), .int .u64 (loW B)]] w
      fun e w' => e = .returned (.agg #[.bool (plusM a b A B), .int .u64 (hiW (plusN a b A B)), .int .u64 (loW (plusN a b A B))]) ∧ Below w.heap.size w w' := by
  have hne : a ≠ b := by simpa using hab
  by_cases hl : A < B
  · have H : Hid (ltB A B = true) := by show _ = _; simp [ltB, hl]
    have E1 : Hid (b = plusM a b A B) := by show _ = _; simp [plusM, hne, hl]
    have E2 : Hid (B - A = plusN a b A B) := by show _ = _; simp [plusN, hne, hl]
    clear hne
    go_enter Tryd.func39, Tryd.ntmps39
    go_wp2_with (first
      | (go_at_call 51; refine (less_any _ _ _ _ _ h h').mono ?_; rintro e w1 ⟨rfl, hb⟩; rw [H.out]; obtain ⟨hc, hf⟩ := bcell hb; have hz := hb.size; simp only [World.size_alloc] at hz; have hB : Below w.heap.size w w1 := Below.trans (by go_grown) (hb.mono (by simp <;> omega)))
      | (go_at_call 52; refine (minus_any _ _ _ _ _ h' (by omega)).mono ?_; rintro e w2 ⟨rfl, hb2⟩; obtain ⟨hc2, hf2⟩ := bcell hb2; have hz2 : w.heap.size + 1 + 1 < w1.heap.size := (by omega); have hB2 : Below w.heap.size w w2 := hB.trans (hb2.mono (by omega))))
    refine bodyPost_ret (v := .agg #[.bool b, .int .u64 (hiW (B - A)), .int .u64 (loW (B - A))]) (by simp [results, Tryd.results39, go_sem, hc, hc2, hz2]) rfl ?_
    refine ⟨?_, ?_⟩
    · exact ret_wide E1.out (congrArg hiW E2.out) (congrArg loW E2.out)
    · go_grown
  · have H : Hid (ltB A B = false) := by show _ = _; simp [ltB, hl]
    have E1 : Hid (a = plusM a b A B) := by show _ = _; simp [plusM, hne, hl]
    have E2 : Hid (A - B = plusN a b A B) := by show _ = _; simp [plusN, hne, hl]
    clear hne
    go_enter Tryd.func39, Tryd.ntmps39
    go_wp2_with (first
      | (go_at_call 51; refine (less_any _ _ _ _ _ h h').mono ?_; rintro e w1 ⟨rfl, hb⟩; rw [H.out]; obtain ⟨hc, hf⟩ := bcell hb; have hz := hb.size; simp only [World.size_alloc] at hz; have hB : Below w.heap.size w w1 := Below.trans (by go_grown) (hb.mono (by simp <;> omega)))
      | (go_at_call 52; refine (minus_any _ _ _ _ _ h (by omega)).mono ?_; rintro e w2 ⟨rfl, hb2⟩; obtain ⟨hc2, hf2⟩ := bcell hb2; have hz2 : w.heap.size + 1 + 1 < w1.heap.size := (by omega); have hB2 : Below w.heap.size w w2 := hB.trans (hb2.mono (by omega))))
    refine bodyPost_ret (v := .agg #[.bool a, .int .u64 (hiW (A - B)), .int .u64 (loW (A - B))]) (by simp [results, Tryd.results39, go_sem, hc, hc2, hz2]) rfl ?_
    refine ⟨?_, ?_⟩
    · exact ret_wide E1.out (congrArg hiW E2.out) (congrArg loW E2.out)
    · go_grown

theorem Plus_any (a b : Bool) (A B : Nat) (w : World) (h : Fits (A + B)) :
    Calls Tryd.prog 39 #[.agg #[.bool a, .int .u64 (hiW A), .int .u64 (loW A)], .agg #[.bool b, .int .u64 (hiW B), .int .u64 (loW B)]] w
      fun e w' => e = .returned (.agg #[.bool (plusM a b A B), .int .u64 (hiW (plusN a b A B)), .int .u64 (loW (plusN a b A B))]) ∧ Below w.heap.size w w' := by
  by_cases hab : a = b
  · subst hab
    refine (Plus_same a A B w h).mono ?_
    rintro e w' ⟨rfl, hb⟩
    exact ⟨ret_wide (by simp [plusM]) (by simp [plusN]) (by simp [plusN]), hb⟩
  · exact Plus_diff a b A B w (by simpa using hab) (by unfold Fits at *; omega) (by unfold Fits at *; omega)

theorem ret_ib {k : IntKind} {a a' : Int} {b b' : Bool} (h : a = a') (h' : b = b') : Ending.returned (.tuple #[.int k a, .bool b]) = .returned (.tuple #[.int k a', .bool b']) := by rw [h, h']
theorem Narrow_any (m : Bool) (N : Nat) (w : World) (h : Fits N) :
    Calls Tryd.prog 50 #[.agg #[.bool m, .int .u64 (hiW N), .int .u64 (loW N)]] w
      fun e w' => e = .returned (.tuple #[.int .i64 (fitV (sg m N)), .bool (fitB (sg m N))]) ∧ Below w.heap.size w w' := by
  have b1 := hiW_bd h
  have b2 := loW_bd N
  have hl := hilo N
  by_cases c1 : 0 < hiW N
  · have E1 : Hid (0 = fitV (sg m N)) := by show _ = _; unfold fitV sg I64; cases m <;> simp <;> omega
    have E2 : Hid (false = fitB (sg m N)) := by show _ = _; unfold fitB sg I64; cases m <;> simp <;> omega
    clear b1 b2 hl h
    generalize hiW N = x at *
    generalize loW N = y at *
    go_enter Tryd.func50, Tryd.ntmps50
    go_wp2
    go_ret2
    exact ⟨ret_ib E1.out E2.out, by go_grown⟩
  · have c0 : hiW N = 0 := by omega
    by_cases c2 : 9223372036854775808 < loW N
    · have E1 : Hid (0 = fitV (sg m N)) := by show _ = _; unfold fitV sg I64; cases m <;> simp <;> omega
      have E2 : Hid (false = fitB (sg m N)) := by show _ = _; unfold fitB sg I64; cases m <;> simp <;> omega
      rw [c0]
      clear b1 b2 hl h c0 c1
      generalize loW N = y at *
      go_enter Tryd.func50, Tryd.ntmps50
      go_wp2
      go_ret2
      exact ⟨ret_ib E1.out E2.out, by go_grown⟩
    · have hy : (N : Int) = loW N := by omega
      by_cases c3 : loW N = 9223372036854775808
      · have c3' : (loW N == 9223372036854775808) = true := by simpa using c3
        have c4 : 9223372036854775807 < loW N := by omega
        cases m
        · have E1 : Hid (0 = fitV (sg false N)) := by show _ = _; unfold fitV sg I64; simp; omega
          have E2 : Hid (false = fitB (sg false N)) := by show _ = _; unfold fitB sg I64; simp; omega
          clear c3 hy
          rw [c0]
          clear b1 b2 hl h c0 c1
          generalize loW N = y at *
          go_enter Tryd.func50, Tryd.ntmps50
          go_wp2
          go_ret2
          exact ⟨ret_ib E1.out E2.out, by go_grown⟩
        · have E1 : Hid (-9223372036854775808 = fitV (sg true N)) := by show _ = _; unfold fitV sg I64; simp; omega
          have E2 : Hid (true = fitB (sg true N)) := by show _ = _; unfold fitB sg I64; simp; omega
          clear c3 hy
          rw [c0]
          clear b1 b2 hl h c0 c1
          generalize loW N = y at *
          go_enter Tryd.func50, Tryd.ntmps50
          go_wp2
          go_ret2
          exact ⟨ret_ib E1.out E2.out, by go_grown⟩
      · have c3' : (loW N == 9223372036854775808) = false := by simpa using c3
        have c4 : loW N ≤ 9223372036854775807 := by omega
        have c5 : 0 ≤ loW N := b2.1
        cases m
        · have E1 : Hid (loW N = fitV (sg false N)) := by show _ = _; unfold fitV sg I64; simp; omega
          have E2 : Hid (true = fitB (sg false N)) := by show _ = _; unfold fitB sg I64; simp; omega
          clear c3 hy
          rw [c0]
          clear b1 b2 hl h c0 c1
          generalize loW N = y at *
          go_enter Tryd.func50, Tryd.ntmps50
          go_wp2
          go_ret2
          exact ⟨ret_ib E1.out E2.out, by go_grown⟩
        · have E1 : Hid (-loW N = fitV (sg true N)) := by show _ = _; unfold fitV sg I64; simp; omega
          have E2 : Hid (true = fitB (sg true N)) := by show _ = _; unfold fitB sg I64; simp; omega
          clear c3 hy
          rw [c0]
          clear b1 b2 hl h c0 c1
          generalize loW N = y at *
          go_enter Tryd.func50, Tryd.ntmps50
          go_wp2
          go_ret2
          exact ⟨ret_ib E1.out E2.out, by go_grown⟩

end Go.Proofs.YtbnlmeegepgioaaDoor
