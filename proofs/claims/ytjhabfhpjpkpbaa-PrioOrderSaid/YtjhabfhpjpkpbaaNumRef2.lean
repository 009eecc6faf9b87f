
/-
  Contracts of package gangerref01's functions, further.
-/
import Derived.Test.YtjhabfhpjpkpbaaNumRef
import Derived.Test.YtjhabfhpjpkpbaaMem
namespace Go.Proofs.Ytjhabfhpjpkpbaa
open Go.ChangeShapes Go.WideShapes Go.ChangeAt Go.RowKit
set_option linter.unusedVariables false
theorem refsize_any (n : Int) (w : World) (h : I64 n) : Calls Try.prog 44 #[.int .i64 n] w fun e w' => e = .returned (.int .u64 (n.natAbs : Nat)) ∧ w' = w := by
  obtain ⟨h1, h2⟩ := h
  by_cases hn : n < 0
  · have H : Hid (-(n + 1) + 1 = (n.natAbs : Nat)) := by
      show _ = _
      omega
    go_enter Try.func44, Try.ntmps44
    go_wp2
    go_ret
    exact ⟨ret_int H.out, rfl⟩
  · have H : Hid (n = (n.natAbs : Nat)) := by
      show _ = _
      omega
    go_enter Try.func44, Try.ntmps44
    go_wp2
    go_ret
    exact ⟨ret_int H.out, rfl⟩

theorem of_any (n : Int) (w : World) (h : I64 n) : Calls Try.prog 33 #[.int .i64 n] w
    fun e w' => e = .returned (.agg #[.bool (negB n), .int .u64 (hiW n.natAbs), .int .u64 (loW n.natAbs)]) ∧ Below w.heap.size w w' := by
  have H1 : Hid (decide (n < 0) = negB n) := by show _ = _; rfl
  have H2 := Lib.hid (hiW_abs h)
  have H3 := Lib.hid (loW_abs h)
  go_enter Try.func33, Try.ntmps33
  go_wp2_with (go_at_call 44; refine (refsize_any _ _ h).mono ?_; rintro e w' ⟨rfl, rfl⟩)
  go_returns
  exact ⟨ret_wide H1.out H2.out.symm H3.out.symm, by go_grown⟩




theorem ret_ib {k : IntKind} {a a' : Int} {b b' : Bool} (h : a = a') (h' : b = b') : Ending.returned (.tuple #[.int k a, .bool b]) = .returned (.tuple #[.int k a', .bool b']) := by rw [h, h']
theorem Narrow_any (m : Bool) (N : Nat) (w : World) (h : Fits N) :
    Calls Try.prog 45 #[.agg #[.bool m, .int .u64 (hiW N), .int .u64 (loW N)]] w
      fun e w' => e = .returned (.tuple #[.int .i64 (fitV (sg m N)), .bool (fitB (sg m N))]) ∧ Below w.heap.size w w' := by
  have b1 := hiW_bd h
  have b2 := loW_bd N
  have hl := hilo N
  by_cases c1 : 0 < hiW N
  · have E1 : Hid (0 = fitV (sg m N)) := by show _ = _; unfold fitV sg I64; cases m <;> simp <;> omega
    have E2 : Hid (false = fitB (sg m N)) := by show _ = _; unfold fitB sg I64; cases m <;> simp <;> omega
    clear b1 b2 hl h
    generalize hiW N = x at *
    generalize loW N = y at *
    go_enter Try.func45, Try.ntmps45
    go_wp2
    go_ret2
    exact ⟨ret_ib E1.out E2.out, by go_grown⟩
  · have c0 : hiW N = 0 := by omega
    by_cases c2 : 9223372036854775808 < loW N
    · have E1 : Hid (0 = fitV (sg m N)) := by show _ = _; unfold fitV sg I64; cases m <;> simp <;> omega
      have E2 : Hid (false = fitB (sg m N)) := by show _ = _; unfold fitB sg I64; cases m <;> simp <;> omega
      rw [c0]
      clear b1 b2 hl h c0 c1
      generalize loW N = y at *
      go_enter Try.func45, Try.ntmps45
      go_wp2
      go_ret2
      exact ⟨ret_ib E1.out E2.out, by go_grown⟩
    · have hy : (N : Int) = loW N := by omega
      by_cases c3 : loW N = 9223372036854775808
      · have c3' : (loW N == 9223372036854775808) = true := by simpa using c3
        have c4 : 9223372036854775807 < loW N := by omega
        cases m
        · have E1 : Hid (0 = fitV (sg false N)) := by show _ = _; unfold fitV sg I64; simp; omega
          have E2 : Hid (false = fitB (sg false N)) := by show _ = _; unfold fitB sg I64; simp; omega
          clear c3 hy
          rw [c0]
          clear b1 b2 hl h c0 c1
          generalize loW N = y at *
          go_enter Try.func45, Try.ntmps45
          go_wp2
          go_ret2
          exact ⟨ret_ib E1.out E2.out, by go_grown⟩
        · have E1 : Hid (-9223372036854775808 = fitV (sg true N)) := by show _ = _; unfold fitV sg I64; simp; omega
          have E2 : Hid (true = fitB (sg true N)) := by show _ = _; unfold fitB sg I64; simp; omega
          clear c3 hy
          rw [c0]
          clear b1 b2 hl h c0 c1
          generalize loW N = y at *
          go_enter Try.func45, Try.ntmps45
          go_wp2
          go_ret2
          exact ⟨ret_ib E1.out E2.out, by go_grown⟩
      · have c3' : (loW N == 9223372036854775808) = false := by simpa using c3
        have c4 : loW N ≤ 9223372036854775807 := by omega
        have c5 : 0 ≤ loW N := b2.1
        cases m
        · have E1 : Hid (loW N = fitV (sg false N)) := by show _ = _; unfold fitV sg I64; simp; omega
          have E2 : Hid (true = fitB (sg false N)) := by show _ = _; unfold fitB sg I64; simp; omega
          clear c3 hy
          rw [c0]
          clear b1 b2 hl h c0 c1
          generalize loW N = y at *
          go_enter Try.func45, Try.ntmps45
          go_wp2
          go_ret2
          exact ⟨ret_ib E1.out E2.out, by go_grown⟩
        · have E1 : Hid (-loW N = fitV (sg true N)) := by show _ = _; unfold fitV sg I64; simp; omega
          have E2 : Hid (true = fitB (sg true N)) := by show _ = _; unfold fitB sg I64; simp; omega
          clear c3 hy
          rw [c0]
          clear b1 b2 hl h c0 c1
          generalize loW N = y at *
          go_enter Try.func45, Try.ntmps45
          go_wp2
          go_ret2
          exact ⟨ret_ib E1.out E2.out, by go_grown⟩

end Go.Proofs.Ytjhabfhpjpkpbaa
