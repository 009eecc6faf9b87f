/-
  Layer 17: a crate with a bit turned in its body or in its sum is bad: plainly.
-/
import Derived.Test.YtgohnidndjbjiaaCrateP
namespace Go.Proofs.Ytgohnidndjbjiaa
open Go Go.RowKit Go.Lib
set_option linter.unusedVariables false

theorem numB_app (xs ys : List UInt8) : numB (xs ++ ys) = numB xs + 2 ^ (8 * xs.length) * numB ys := by
  induction xs with
  | nil => simp [numB]
  | cons c xs ih =>
    show c.toNat + 256 * numB (xs ++ ys) = c.toNat + 256 * numB xs + _
    rw [ih, show 8 * (c :: xs).length = 8 + 8 * xs.length by simp; omega, Nat.pow_add]
    have : (2 : Nat) ^ 8 = 256 := rfl
    rw [this, Nat.mul_add, Nat.mul_assoc, Nat.add_assoc]
theorem xor_ne (a b : Nat) (h : 0 < b) : a ^^^ b ≠ a := by
  intro e
  have : a ^^^ (a ^^^ b) = a ^^^ a := by rw [e]
  rw [← Nat.xor_assoc, Nat.xor_self, Nat.zero_xor] at this
  omega
/-- One bit of a text turned: another sum. -/
theorem sumB_turned (xs : List UInt8) (q : Nat) (hq : q < xs.length) (c : UInt8) (j : Nat) (hj : j < 8) (hc : c.toNat = 2 ^ j) : sumB (xs.set q (xs[q] ^^^ c)) ≠ sumB xs := by
  intro e
  have h1 := numB_set xs q hq c
  have h2 : numB (xs.set q (xs[q] ^^^ c)) ^^^ numB xs = 1 * 2 ^ (8 * q + j) := by
    rw [h1, Nat.xor_comm (numB xs), Nat.xor_assoc, Nat.xor_self, Nat.xor_zero, hc, ← Nat.pow_add, Nat.one_mul, Nat.add_comm]
  have h3 := (sumB_burst (xs.set q (xs[q] ^^^ c)) xs (by simp) 1 (8 * q + j) (by decide) (by rw [List.length_set]; omega) h2).1 e
  cases h3
/-- The crate that stands at the begin, its body and its sum being known. -/
theorem isB_form (a b : UInt8) (y s rest : List UInt8) (hN : a.toNat * 256 + b.toNat = y.length) (hs : s.length = 4) (h8 : y.length ≤ 8000) :
    isB (197 :: a :: b :: (y ++ (s ++ rest))) = (sumB (a :: b :: y) == numB s) := by
  have hl : lenB (197 :: a :: b :: (y ++ (s ++ rest))) = y.length := by unfold lenB; simpa using hN
  unfold isB
  rw [hl]
  have e1 : ((197 :: a :: b :: (y ++ (s ++ rest))).drop 1).take (y.length + 2) = a :: b :: y := by simp
  have e2 : ((197 :: a :: b :: (y ++ (s ++ rest))).drop (y.length + 3)).take 4 = s := by
    rw [show y.length + 3 = (197 :: a :: b :: y).length by simp]
    rw [show 197 :: a :: b :: (y ++ (s ++ rest)) = (197 :: a :: b :: y) ++ (s ++ rest) by simp, List.drop_left' rfl, List.take_left' hs]
  rw [e1, e2]
  simp [hs, h8]
  try (intro h)
  try omega
theorem len_two (n : Nat) (h : n ≤ 8000) : (UInt8.ofNat (n / 256)).toNat * 256 + (UInt8.ofNat (n % 256)).toNat = n := by
  rw [UInt8.toNat_ofNat', UInt8.toNat_ofNat']; omega
theorem bad_form (a b : UInt8) (x t rest : List UInt8) (hN : a.toNat * 256 + b.toNat = x.length) (hx : x.length ≤ 8000) (hle : t.length = 4) (hnum : numB t = sumB (a :: b :: x)) (q : Nat) (hq : q < x.length + 4) (c : UInt8) (j : Nat) (hj : j < 8) (hc : c.toNat = 2 ^ j)
    (hl : 3 + q < (197 :: a :: b :: (x ++ (t ++ rest))).length) :
    isB ((197 :: a :: b :: (x ++ (t ++ rest))).set (3 + q) ((197 :: a :: b :: (x ++ (t ++ rest)))[3 + q]'hl ^^^ c)) = false ∧ noB ((197 :: a :: b :: (x ++ (t ++ rest))).set (3 + q) ((197 :: a :: b :: (x ++ (t ++ rest)))[3 + q]'hl ^^^ c)) = 171 := by
  obtain ⟨Q, hQ⟩ : ∃ Q, Q = 3 + q := ⟨_, rfl⟩
  have hQ2 : Q = q + 1 + 1 + 1 := by omega
  subst hQ2
  simp only [← hQ] at hl ⊢
  simp only [List.set_cons_succ, List.getElem_cons_succ]
  constructor
  · rcases Nat.lt_or_ge q x.length with h | h
    · rw [List.getElem_append_left h, List.set_append_left _ _ h, isB_form a b _ t rest (by rw [List.length_set]; exact hN) hle (by rw [List.length_set]; exact hx), hnum]
      refine beq_eq_false_iff_ne.2 ?_
      have := sumB_turned (a :: b :: x) (q + 1 + 1) (by simp; omega) c j hj hc
      simpa using this
    · have h4 : q - x.length < t.length := by omega
      rw [List.getElem_append_right h, List.getElem_append_left h4, List.set_append_right _ _ h, List.set_append_left _ _ h4, isB_form a b x _ rest hN (by rw [List.length_set]; exact hle) hx, numB_set t _ h4 c, hnum]
      refine beq_eq_false_iff_ne.2 fun e => xor_ne (sumB (a :: b :: x)) _ ?_ e.symm
      rw [hc]; exact Nat.mul_pos (Nat.two_pow_pos _) (Nat.two_pow_pos _)
  · unfold noB
    rw [if_neg]
    rintro (h | h)
    · simp at h
    · simp at h
theorem set_eq_of (R R' : List UInt8) (i : Nat) (c : UInt8) (e : R = R') (h1 : i < R.length) (h2 : i < R'.length) : R.set i (R[i] ^^^ c) = R'.set i (R'[i] ^^^ c) := by subst e; rfl
theorem turned_bad (x rest : List UInt8) (hx : x.length ≤ 8000) (q : Nat) (hq : q < x.length + 4) (c : UInt8) (j : Nat) (hj : j < 8) (hc : c.toNat = 2 ^ j) (hl : 3 + q < (putB x ++ rest).length) :
    isB ((putB x ++ rest).set (3 + q) ((putB x ++ rest)[3 + q]'hl ^^^ c)) = false ∧ noB ((putB x ++ rest).set (3 + q) ((putB x ++ rest)[3 + q]'hl ^^^ c)) = 171 := by
  have hf := putB_form x rest
  have hl' := hl
  rw [hf] at hl'
  rw [set_eq_of _ _ _ c hf hl hl']
  exact bad_form _ _ x _ rest (len_two _ hx) hx (le4_len _) (numB_le4 _ (sumB_lt _)) q hq c j hj hc hl'
theorem rows_turned (good : List (List UInt8)) (k : Nat) (hk : k < good.length) (h : ∀ x ∈ good, x.length ≤ 8000) (q : Nat) (hq : q < good[k].length + 4) (c : UInt8) (j : Nat) (hj : j < 8) (hc : c.toNat = 2 ^ j) (Q : Nat) (hQ : Q = endL (good.take k) + (3 + q)) (hl : Q < (flatB good).length) :
    rowsB ((flatB good).set Q ((flatB good)[Q] ^^^ c)) = good.take k ∧ errB ((flatB good).set Q ((flatB good)[Q] ^^^ c)) = 171 := by
  have hd : flatB good = flatB (good.take k) ++ (putB good[k] ++ flatB (good.drop (k + 1))) := by
    rw [← flatB_cons, ← List.drop_eq_getElem_cons hk, ← flatB_app, List.take_append_drop]
  generalize flatB good = F at *
  subst hd
  have hx := h _ (List.getElem_mem hk)
  have hlen : (flatB (good.take k)).length = endL (good.take k) := flatB_len _
  subst hQ
  have hl2 : 3 + q < (putB good[k] ++ flatB (good.drop (k + 1))).length := by rw [List.length_append] at hl; omega
  obtain ⟨e1, e2⟩ := turned_bad good[k] (flatB (good.drop (k + 1))) hx q hq c j hj hc hl2
  have eS : ∀ v, (flatB (good.take k) ++ (putB good[k] ++ flatB (good.drop (k + 1)))).set (endL (good.take k) + (3 + q)) v = flatB (good.take k) ++ (putB good[k] ++ flatB (good.drop (k + 1))).set (3 + q) v := fun v => by
    rw [List.set_append_right _ _ (by rw [hlen]; omega), hlen, Nat.add_sub_cancel_left]
  have eG : (flatB (good.take k) ++ (putB good[k] ++ flatB (good.drop (k + 1))))[endL (good.take k) + (3 + q)]'hl = (putB good[k] ++ flatB (good.drop (k + 1)))[3 + q]'hl2 := by
    rw [List.getElem_append_right (by rw [hlen]; omega)]
    congr 1
    rw [hlen, Nat.add_sub_cancel_left]
  rw [eG, eS]
  obtain ⟨r1, r2⟩ := err_flat (good.take k) _ (fun x hx => h x (List.mem_of_mem_take hx)) e1
  exact ⟨r1, by rw [r2, e2]; rfl⟩
/-- Where the bit lies. -/
structure TurnAt (T0 X r T1 D1 F X4 M8 P q0 : Nat) : Prop where
  t1 : T1 = T0 + (X + 7)
  pe : P = 8 * F + r
  a1 : IntKind.i64.wrap ((T1 : Int) - (X : Int)) = (D1 : Int)
  a1' : (T1 : Int) - (X : Int) = (D1 : Int)
  a2 : IntKind.i64.wrap ((D1 : Int) - 4) = (F : Int)
  a2' : (D1 : Int) - 4 = (F : Int)
  a3 : (X : Int) + 4 = (X4 : Int)
  a4 : 8 * (X4 : Int) = (M8 : Int)
  a6 : 8 * (F : Int) + (r : Int) = (P : Int)
  a7 : wrap64 (P : Int) = (P : Int)
  d1 : wrap64 (D1 : Int) = (D1 : Int)
  f1 : wrap64 (F : Int) = (F : Int)
  hF : F ≤ 17013
  hM : M8 ≤ 64032
  hP : P ≤ 200136
theorem turn_at (T0 X E r : Nat) (h : T0 + (X + 7) ≤ E) (hE : E ≤ 17010) (hX : X ≤ 8000) (hr : r < 8 * (X + 4)) :
    TurnAt T0 X r (T0 + (X + 7)) (T0 + 7) (T0 + 3) (X + 4) (8 * (X + 4)) (8 * (T0 + 3) + r) (r / 8) ∧ 8 * (T0 + 3) + r < 8 * E ∧ ∀ q j, 8 * (T0 + 3) + r = 8 * q + j → j < 8 → q = T0 + (3 + r / 8) ∧ r / 8 < X + 4 :=
  ⟨⟨rfl, rfl, by rw [IntKind.wrap_i64]; omega, by omega, by rw [IntKind.wrap_i64]; omega, by omega, by omega, by omega, by omega, w64_nat _ (by omega), w64_nat _ (by omega), w64_nat _ (by omega), by omega, by omega, by omega⟩, by omega, fun q j h1 h2 => by omega⟩
end Go.Proofs.Ytgohnidndjbjiaa
