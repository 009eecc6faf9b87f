/-
  Layer 17: gangerref17.Get at any bytes.
-/
import Derived.Test.YtgohnidndjbjiaaCrateN
import Derived.Test.YtgohnidndjbjiaaCrateT
namespace Go.Proofs.Ytgohnidndjbjiaa
open Go Go.RowKit Go.Lib
set_option linter.unusedVariables false

theorem le4_numB (s : List UInt8) (h : s.length = 4) : le4 (numB s) = s := by
  refine numB_inj _ _ (by rw [le4_len, h]) ?_
  exact numB_le4 _ (by have := numB_lt s; rw [h] at this; exact this)
theorem put_form (a b : UInt8) (y s rest : List UInt8) (hN : a.toNat * 256 + b.toNat = y.length) (hsl : s.length = 4) (hsum : sumB (a :: b :: y) = numB s) : putB y = 197 :: a :: b :: (y ++ s) := by
  have hh : hdr y.length = [a, b] := by
    have ha := a.toNat_lt
    have hb := b.toNat_lt
    unfold hdr
    rw [← hN, show (a.toNat * 256 + b.toNat) / 256 = a.toNat by omega, show (a.toNat * 256 + b.toNat) % 256 = b.toNat by omega]
    simp
  have h2 : putB y = 197 :: ([a, b] ++ y) ++ le4 (sumB ([a, b] ++ y)) := by unfold putB; rw [hh]
  have h3 : sumB ([a, b] ++ y) = numB s := hsum
  rw [h2, h3, le4_numB s hsl]
  simp
theorem takes_form (a b : UInt8) (t : List UInt8) (h : isB (197 :: a :: b :: t) = true) (h8 : a.toNat * 256 + b.toNat ≤ 8000) (h7 : a.toNat * 256 + b.toNat + 4 ≤ t.length) : putB (t.take (a.toNat * 256 + b.toNat)) = 197 :: a :: b :: t.take (a.toNat * 256 + b.toNat + 4) := by
  obtain ⟨N, hNe⟩ : ∃ N, N = a.toNat * 256 + b.toNat := ⟨_, rfl⟩
  rw [← hNe] at h8 h7 ⊢
  obtain ⟨y, hy⟩ : ∃ y, y = t.take N := ⟨_, rfl⟩
  obtain ⟨s, hs⟩ : ∃ s, s = (t.drop N).take 4 := ⟨_, rfl⟩
  have hyl : y.length = N := by rw [hy, List.length_take]; omega
  have hsl : s.length = 4 := by rw [hs, List.length_take, List.length_drop]; omega
  have ht : t = y ++ (s ++ (t.drop N).drop 4) := by rw [hy, hs, List.take_append_drop, List.take_append_drop]
  rw [ht, isB_form a b y s _ (by rw [hyl]; exact hNe.symm) hsl (by rw [hyl]; exact h8)] at h
  have hsum : sumB (a :: b :: y) = numB s := by simpa using h
  have h4 : t.take (N + 4) = y ++ s := by
    conv => lhs; rw [ht]
    rw [← List.append_assoc, List.take_left' (by rw [List.length_append, hyl, hsl])]
  rw [h4, ← hy]
  exact put_form a b y s [] (by rw [hyl]; exact hNe.symm) hsl hsum
theorem isB_head {r : List UInt8} (h : isB r = true) : r.getD 0 0 = 197 := by
  unfold isB at h
  simp only [Bool.and_eq_true] at h
  exact beq_iff_eq.1 h.1.1.1.2
theorem three_of : ∀ (r : List UInt8), 3 ≤ r.length → ∃ r0 a b t, r = r0 :: a :: b :: t
  | r0 :: a :: b :: t, _ => ⟨r0, a, b, t, rfl⟩
  | [], h => by simp at h
  | [_], h => by simp at h
  | [_, _], h => by simp at h
theorem isB_takes (r : List UInt8) (h : isB r = true) : putB (bodyB r) = r.take (lenB r + 7) := by
  have h7 := isB_len h
  have h8 := isB_short h
  have h0 := isB_head h
  obtain ⟨r0, a, b, t, rfl⟩ := three_of r (by omega)
  obtain rfl : r0 = 197 := h0
  have := takes_form a b t h h8 (by have : lenB (197 :: a :: b :: t) = a.toNat * 256 + b.toNat := rfl; rw [this] at h7; simp at h7; omega)
  exact this
theorem isB_put_iff (r : List UInt8) (hn : lenB r + 7 ≤ r.length) : isB r = (decide (lenB r ≤ 8000) && (putB (bodyB r) == r.take (lenB r + 7))) := by
  cases h : isB r with
  | true => rw [decide_eq_true (isB_short h), isB_takes r h]; simp
  | false =>
    cases h2 : (decide (lenB r ≤ 8000) && (putB (bodyB r) == r.take (lenB r + 7))) with
    | false => rfl
    | true =>
      exfalso
      simp only [Bool.and_eq_true, decide_eq_true_eq, beq_iff_eq] at h2
      have hbl : (bodyB r).length = lenB r := by unfold bodyB; rw [List.length_take, List.length_drop]; omega
      have h3 := isB_put (bodyB r) (r.drop (lenB r + 7)) (by rw [hbl]; exact h2.1)
      rw [h2.2, List.take_append_drop] at h3
      rw [h3] at h; cases h
theorem refGet_out {A : Option Addr} {n c : Nat} (w : World) (k : Int) (h : k < 0 ∨ (n : Int) < k) :
    Calls Try.prog 61 #[.slice A n c, .int .i64 k] w fun e w' => e = .returned (.tuple #[.slice none 0 0, .int .i64 0, .int .i64 2]) ∧ w' = w := by
  by_cases h0 : k < 0
  · clear h
    go_enter Try.func61, Try.ntmps61
    go_wp2_with fail
    go_returns
    exact ⟨rfl, rfl⟩
  · have h1 : (n : Int) < k := by omega
    clear h
    go_enter Try.func61, Try.ntmps61
    go_wp2_with fail
    go_returns
    exact ⟨rfl, rfl⟩
theorem refGet_end {A : Option Addr} {n c : Nat} (w : World) :
    Calls Try.prog 61 #[.slice A n c, .int .i64 n] w fun e w' => e = .returned (.tuple #[.slice none 0 0, .int .i64 0, .int .i64 170]) ∧ w' = w := by
  have t1 : ¬ (n : Int) < 0 := by omega
  go_enter Try.func61, Try.ntmps61
  go_wp2_with fail
  go_returns
  exact ⟨rfl, rfl⟩
end Go.Proofs.Ytgohnidndjbjiaa
