/-
  Numbers in texts, without noughts ahead, plainly. No program is imported.
-/
import Derived.Test.YtfabjlhepadkpaaClkL
namespace Go.Proofs.Ytfabjlhepadkpaa
open Go Go.Lib
set_option linter.unusedVariables false

/-! Numbers without noughts ahead. -/
def leadB (s : Bs) : Bool := match s with | 48 :: _ :: _ => true | _ => false
def plainG (most : Nat) (s : Bs) : Option Nat := if leadB s = true then none else if s ≠ [] ∧ s.length ≤ most ∧ s.all isDig = true then some (valD s) else none
theorem D_isDig (n : Nat) : (Lib.decDigits n).all isDig = true := (dec_digs n n (by have := Nat.lt_two_pow_self (n := n + 1); have h2 := Nat.pow_le_pow_left (show 2 ≤ 10 by omega) (n + 1); omega)).2.2.1
theorem D_val (n : Nat) : valD (Lib.decDigits n) = n := (dec_digs n n (by have := Nat.lt_two_pow_self (n := n + 1); have h2 := Nat.pow_le_pow_left (show 2 ≤ 10 by omega) (n + 1); omega)).2.2.2
theorem D_ne (n : Nat) : Lib.decDigits n ≠ [] := (dec_digs n n (by have := Nat.lt_two_pow_self (n := n + 1); have h2 := Nat.pow_le_pow_left (show 2 ≤ 10 by omega) (n + 1); omega)).1
theorem dig_toNat {c : UInt8} (h : isDig c = true) : 48 ≤ c.toNat ∧ c.toNat ≤ 57 := by
  unfold isDig at h; simpa using h
theorem dig_back {c : UInt8} (h : isDig c = true) : dig (c.toNat - 48) = c := by
  have := dig_toNat h
  unfold dig
  rw [show 48 + (c.toNat - 48) = c.toNat by omega]
  simp
theorem D_app {l : Bs} {c : UInt8} (hp : 0 < valD l) (hc : isDig c = true) (h : Lib.decDigits (valD l) = l) : Lib.decDigits (valD (l ++ [c])) = l ++ [c] := by
  have hb := dig_toNat hc
  have e : valD (l ++ [c]) = valD l * 10 + (c.toNat - 48) := by unfold valD; rw [List.foldl_append]; rfl
  rw [e, Lib.decDigits, dif_neg (by omega), show (valD l * 10 + (c.toNat - 48)) / 10 = valD l by omega, show (valD l * 10 + (c.toNat - 48)) % 10 = c.toNat - 48 by omega, h]
  congr 1
  have := dig_back hc
  unfold dig at this
  rw [this]
theorem val_pos : ∀ (l : Bs) (c : UInt8) (n : Nat), isDig c = true → c ≠ 48 → l.all isDig = true → 0 < (c :: l).foldl (fun n c => n * 10 + (c.toNat - 48)) n := by
  intro l
  induction l with
  | nil =>
    intro c n hc h0 _
    have := dig_toNat hc
    have h48 : c.toNat ≠ 48 := fun e => h0 (by apply UInt8.toNat_inj.1; rw [e]; rfl)
    show 0 < n * 10 + (c.toNat - 48)
    omega
  | cons d l ih =>
    intro c n hc h0 ha
    simp only [List.all_cons, Bool.and_eq_true] at ha
    rw [List.foldl_cons]
    have hp : 0 < n * 10 + (c.toNat - 48) := by
      have := dig_toNat hc
      have h48 : c.toNat ≠ 48 := fun e => h0 (by apply UInt8.toNat_inj.1; rw [e]; rfl)
      omega
    have : ∀ (l : Bs) (m : Nat), 0 < m → 0 < l.foldl (fun n c => n * 10 + (c.toNat - 48)) m := by
      intro l
      induction l with
      | nil => intro m h; exact h
      | cons x r ih => intro m h; rw [List.foldl_cons]; exact ih _ (by omega)
    exact this _ _ hp
theorem D_back : ∀ (k : Nat) (l : Bs), l.length = k → l ≠ [] → leadB l = false → l.all isDig = true → Lib.decDigits (valD l) = l := by
  intro k
  induction k with
  | zero => intro l h hn; exact absurd (List.eq_nil_of_length_eq_zero h) hn
  | succ k ih =>
    intro l hl hn hz ha
    obtain ⟨r, c, rfl⟩ : ∃ r c, l = r ++ [c] := ⟨l.dropLast, l.getLast hn, (List.dropLast_concat_getLast hn).symm⟩
    rw [List.all_append, Bool.and_eq_true] at ha
    have hc : isDig c = true := by simpa using ha.2
    match r, hl, hz, ha with
    | [], _, _, _ =>
      have hb := dig_toNat hc
      have e : valD ([] ++ [c]) = c.toNat - 48 := by show 0 * 10 + (c.toNat - 48) = _; omega
      rw [e, Lib.decDigits, dif_pos (by omega)]
      have := dig_back hc
      unfold dig at this
      rw [this]; rfl
    | x :: r, hl, hz, ha =>
      have hx : x ≠ 48 := by
        rintro rfl
        cases r <;> simp [leadB] at hz
      have ha1 := ha.1
      have hxd : isDig x = true ∧ r.all isDig = true := by simpa using ha1
      refine D_app (val_pos r x 0 hxd.1 hx hxd.2) hc (ih (x :: r) (by simpa using hl) (by simp) ?_ ha1)
      unfold leadB
      split
      · rename_i h; simp only [List.cons.injEq] at h; exact absurd h.1 hx
      · rfl
theorem plainG_some {most : Nat} {s : Bs} {n : Nat} (h : plainG most s = some n) : Lib.decDigits n = s ∧ s.length ≤ most ∧ s.all isDig = true := by
  unfold plainG at h
  split at h
  · cases h
  · rename_i hz
    split at h
    · rename_i hc
      cases h
      exact ⟨D_back _ s rfl hc.1 (by simpa using hz) hc.2.2, hc.2.1, hc.2.2⟩
    · cases h
theorem valD_most : ∀ (k : Nat) (l : Bs), l.length ≤ k → l.all isDig = true → valD l < 10 ^ k := by
  intro k
  induction k with
  | zero =>
    intro l h _
    have : l = [] := List.eq_nil_of_length_eq_zero (by omega)
    subst this; show 0 < 1; omega
  | succ k ih =>
    intro l hl ha
    by_cases hn : l = []
    · subst hn; exact Nat.pow_pos (by omega)
    · obtain ⟨r, c, rfl⟩ : ∃ r c, l = r ++ [c] := ⟨l.dropLast, l.getLast hn, (List.dropLast_concat_getLast hn).symm⟩
      rw [List.all_append, Bool.and_eq_true] at ha
      have hc := dig_toNat (c := c) (by simpa using ha.2)
      have := ih r (by simpa using hl) ha.1
      have e : valD (r ++ [c]) = valD r * 10 + (c.toNat - 48) := by unfold valD; rw [List.foldl_append]; rfl
      rw [e, Nat.pow_succ]; omega
theorem plainG_lt {most : Nat} {s : Bs} {n : Nat} (h : plainG most s = some n) : n < 10 ^ most := by
  unfold plainG at h
  split at h
  · cases h
  · split at h
    · rename_i hc; cases h; exact valD_most most s hc.2.1 hc.2.2
    · cases h
theorem lead_D (n : Nat) : leadB (Lib.decDigits n) = false := by
  have key : ∀ n, (n < 10 ∨ ∃ x r, Lib.decDigits n = x :: r ∧ x ≠ 48) := by
    intro n
    induction n using Nat.strongRecOn with
    | ind n ih =>
      by_cases h : n < 10
      · exact .inl h
      · refine .inr ?_
        rw [Lib.decDigits, dif_neg h]
        rcases ih (n / 10) (by omega) with h1 | ⟨x, r, h1, h2⟩
        · rw [Lib.decDigits, dif_pos h1]
          refine ⟨_, _, rfl, fun e => ?_⟩
          have := congrArg UInt8.toNat e
          rw [UInt8.toNat_ofNat'] at this
          have e48 : (48 : UInt8).toNat = 48 := rfl
          rw [e48] at this
          omega
        · rw [h1]; exact ⟨x, _, rfl, h2⟩
  rcases key n with h | ⟨x, r, h, hx⟩
  · rw [Lib.decDigits, dif_pos h]; unfold leadB; split
    · rename_i h; simp at h
    · rfl
  · rw [h]; unfold leadB; split
    · rename_i h; simp only [List.cons.injEq] at h; exact absurd h.1 hx
    · rfl
theorem D_short (k : Nat) : ∀ u : Nat, u < 10 ^ (k + 1) → (Lib.decDigits u).length ≤ k + 1 := fun u h => (dec_digs k u h).2.1
theorem plainG_D {k most n : Nat} (h : n < 10 ^ (k + 1)) (hm : k + 1 ≤ most) : plainG most (Lib.decDigits n) = some n := by
  unfold plainG
  rw [lead_D, if_neg (by decide), if_pos ⟨D_ne n, Nat.le_trans (D_short k n h) hm, D_isDig n⟩, D_val]
theorem dig_ne {c x : UInt8} (h : isDig c = true) (hx : isDig x = false) : c ≠ x := fun e => by rw [e, hx] at h; cases h
theorem D_no (n : Nat) {x : UInt8} (hx : isDig x = false) : ∀ c ∈ Lib.decDigits n, c ≠ x := fun c hc => dig_ne (List.all_eq_true.1 (D_isDig n) c hc) hx
end Go.Proofs.Ytfabjlhepadkpaa
