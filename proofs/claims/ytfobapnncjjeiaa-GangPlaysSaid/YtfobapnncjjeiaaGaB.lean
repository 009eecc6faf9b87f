/-
  Columns as bits of words: a block's mask, what it means that a word and a mask have a bit in common; one more block, one fewer. No program is imported.
-/
import Derived.Test.YtfobapnncjjeiaaGaP
import Derived.Laws.Entries
import Derived.Laws.Bits64
namespace Go.Proofs.Ytfobapnncjjeiaa
open Go
set_option linter.unusedVariables false

theorem ofInt_u64 (a : Nat) (ha : a < 2 ^ 64) : (BitVec.ofInt 64 (a : Int)).toNat = a := by
  rw [BitVec.ofInt_natCast, BitVec.toNat_ofNat]; exact Nat.mod_eq_of_lt ha
theorem wrap_u64 (a : Nat) (ha : a < 2 ^ 64) : IntKind.u64.wrap (a : Int) = (a : Int) := by
  rw [IntKind.wrap_u64]; have : (2 : Nat) ^ 64 = 18446744073709551616 := rfl; omega
theorem u64_and (a b : Nat) (ha : a < 2 ^ 64) (hb : b < 2 ^ 64) : bits .and .u64 (a : Int) (b : Int) = ((a &&& b : Nat) : Int) := by
  show IntKind.u64.wrap ((BitVec.ofInt 64 (a : Int) &&& BitVec.ofInt 64 (b : Int)).toNat : Int) = _
  rw [BitVec.toNat_and, ofInt_u64 a ha, ofInt_u64 b hb]
  exact wrap_u64 _ (Nat.and_lt_two_pow _ hb)
theorem u64_or (a b : Nat) (ha : a < 2 ^ 64) (hb : b < 2 ^ 64) : bits .or .u64 (a : Int) (b : Int) = ((a ||| b : Nat) : Int) := by
  show IntKind.u64.wrap ((BitVec.ofInt 64 (a : Int) ||| BitVec.ofInt 64 (b : Int)).toNat : Int) = _
  rw [BitVec.toNat_or, ofInt_u64 a ha, ofInt_u64 b hb]
  exact wrap_u64 _ (Nat.or_lt_two_pow ha hb)
def andN (a b : Nat) : Nat := a &&& (2 ^ 64 - 1 - b)
theorem u64_andNot (a b : Nat) (ha : a < 2 ^ 64) (hb : b < 2 ^ 64) : bits .andNot .u64 (a : Int) (b : Int) = ((andN a b : Nat) : Int) := by
  show IntKind.u64.wrap ((BitVec.ofInt 64 (a : Int) &&& ~~~BitVec.ofInt 64 (b : Int)).toNat : Int) = _
  rw [BitVec.toNat_and, BitVec.toNat_not, ofInt_u64 a ha, ofInt_u64 b hb]
  unfold andN
  exact wrap_u64 _ (Nat.lt_of_le_of_lt Nat.and_le_left ha)
theorem andN_bit (a b i : Nat) (hb : b < 2 ^ 64) (hi : i < 64) : (andN a b).testBit i = (a.testBit i && !b.testBit i) := by
  unfold andN
  rw [Nat.testBit_and, show 2 ^ 64 - 1 - b = 2 ^ 64 - (b + 1) by omega, Nat.testBit_two_pow_sub_succ hb]
  simp [hi]
theorem andN_lt (a b : Nat) (ha : a < 2 ^ 64) : andN a b < 2 ^ 64 := Nat.lt_of_le_of_lt Nat.and_le_left ha
def spanF (s : Nat) : Nat := s / 64
def spanE (s o : Nat) : Nat := if 6 ≤ o then s / 64 + 2 ^ (o - 6) else s / 64 + 1
def spanM (s o : Nat) : Nat := if 6 ≤ o then 2 ^ 64 - 1 else (2 ^ 2 ^ o - 1) * 2 ^ (s % 64)
theorem pow_dvd_64 {o : Nat} (h : o ≤ 6) : ∃ k, 64 = 2 ^ o * k ∧ 0 < k := by
  refine ⟨2 ^ (6 - o), ?_, Nat.two_pow_pos _⟩
  rw [← Nat.pow_add, show o + (6 - o) = 6 by omega]
theorem small_room {s o : Nat} (ho : o < 6) (hs : s % 2 ^ o = 0) : s % 64 + 2 ^ o ≤ 64 := by
  obtain ⟨k, hk, hk0⟩ := pow_dvd_64 (show o ≤ 6 by omega)
  obtain ⟨m, rfl⟩ : ∃ m, s = 2 ^ o * m := ⟨s / 2 ^ o, by have := Nat.mod_add_div s (2 ^ o); omega⟩
  have h1 : 2 ^ o * m % 64 = 2 ^ o * (m % k) := by rw [hk, Nat.mul_mod_mul_left]
  rw [h1]
  have h2 : m % k + 1 ≤ k := Nat.mod_lt _ hk0
  have h3 := Nat.mul_le_mul_left (2 ^ o) h2
  rw [Nat.mul_add, Nat.mul_one, ← hk] at h3
  exact h3
theorem pow2_small {o : Nat} (ho : o < 6) : 2 ^ o ≤ 32 := by
  have := Nat.pow_le_pow_right (n := 2) (by omega) (show o ≤ 5 by omega); simpa using this
theorem spanM_lt {s o : Nat} (hs : s % 2 ^ o = 0) : spanM s o < 2 ^ 64 := by
  unfold spanM
  split
  · omega
  · have h1 := small_room (by omega) hs
    have h2 : 2 ^ 2 ^ o * 2 ^ (s % 64) ≤ 2 ^ 64 := by
      rw [← Nat.pow_add]; exact Nat.pow_le_pow_right (by omega) (by omega)
    have h3 := Nat.two_pow_pos (s % 64)
    have h4 := Nat.two_pow_pos (2 ^ o)
    have h5 : (2 ^ 2 ^ o - 1) * 2 ^ (s % 64) < 2 ^ 2 ^ o * 2 ^ (s % 64) := Nat.mul_lt_mul_of_pos_right (by omega) h3
    omega
theorem spanM_bit {s o j i : Nat} (hs : s % 2 ^ o = 0) (hi : i < 64) : (spanF s ≤ j ∧ j < spanE s o ∧ (spanM s o).testBit i = true) ↔ inC s o (64 * j + i) := by
  unfold spanF spanE spanM inC
  split
  · rename_i ho
    have e : 2 ^ o = 64 * 2 ^ (o - 6) := by
      have : 2 ^ o = 2 ^ (6 + (o - 6)) := by rw [show 6 + (o - 6) = o by omega]
      rw [this, Nat.pow_add]
    have hs' : s % 64 = 0 := by
      rw [e] at hs
      have := Nat.mod_mul_right_mod s 64 (2 ^ (o - 6))
      rw [hs] at this; omega
    rw [Nat.testBit_two_pow_sub_one, e]
    obtain ⟨P, hP⟩ : ∃ P, P = 2 ^ (o - 6) := ⟨_, rfl⟩
    rw [← hP]
    constructor
    · rintro ⟨a, b, _⟩
      omega
    · rintro ⟨a, b⟩
      exact ⟨by omega, by omega, by simp [hi]⟩
  · rename_i ho
    have h1 := small_room (by omega) hs
    rw [Nat.mul_comm, Nat.testBit_two_pow_mul, Nat.testBit_two_pow_sub_one]
    obtain ⟨P, hP⟩ : ∃ P, P = 2 ^ o := ⟨_, rfl⟩
    rw [← hP] at h1 ⊢
    simp only [Bool.and_eq_true, decide_eq_true_eq]
    omega
/-- The words of a row: each below 2^64, their bits as said. -/
structure Words (W : Nat → Nat) (C : Nat → Prop) : Prop where
  lt : ∀ j, j < 16 → W j < 2 ^ 64
  bit : ∀ j i, j < 16 → i < 64 → ((W j).testBit i = true ↔ C (64 * j + i))
theorem spanE_le {s o n : Nat} (hn : n ≤ 10) (ho : o ≤ n) (h : s + 2 ^ o ≤ 2 ^ n) : spanF s < spanE s o ∧ spanE s o ≤ 16 := by
  have h1 : 2 ^ n ≤ 1024 := by have := Nat.pow_le_pow_right (n := 2) (by omega) hn; simpa using this
  have h2 := Nat.two_pow_pos o
  unfold spanF spanE
  split
  · rename_i h6
    have e : 2 ^ o = 64 * 2 ^ (o - 6) := by
      have : 2 ^ o = 2 ^ (6 + (o - 6)) := by rw [show 6 + (o - 6) = o by omega]
      rw [this, Nat.pow_add]
    have h3 := Nat.two_pow_pos (o - 6)
    omega
  · omega
theorem and_zero_iff {a b : Nat} (hb : b < 2 ^ 64) : a &&& b = 0 ↔ ∀ i, i < 64 → ¬ (a.testBit i = true ∧ b.testBit i = true) := by
  constructor
  · intro h i _ ⟨h1, h2⟩
    have := Nat.testBit_and a b i
    rw [h, h1, h2] at this; simp at this
  · intro h
    apply Nat.eq_of_testBit_eq
    intro i
    rw [Nat.testBit_and, Nat.zero_testBit]
    by_cases hi : i < 64
    · have := h i hi
      cases h1 : a.testBit i <;> cases h2 : b.testBit i <;> simp_all
    · have : b.testBit i = false := Nat.testBit_lt_two_pow (Nat.lt_of_lt_of_le hb (Nat.pow_le_pow_right (by omega) (by omega)))
      rw [this]; simp
/-- No column of the block is there if no word and the mask have a bit in common. -/
theorem Words.free {W : Nat → Nat} {C : Nat → Prop} (h : Words W C) {s o : Nat} (hs : s % 2 ^ o = 0) (hE : spanE s o ≤ 16) : (∀ j, spanF s ≤ j → j < spanE s o → W j &&& spanM s o = 0) ↔ ∀ x, inC s o x → ¬ C x := by
  constructor
  · intro h1 x hx hc
    have hi : x % 64 < 64 := Nat.mod_lt _ (by omega)
    have ex : 64 * (x / 64) + x % 64 = x := Nat.div_add_mod x 64
    rw [← ex] at hx
    obtain ⟨a, b, c⟩ := (spanM_bit hs hi).2 hx
    have := (and_zero_iff (spanM_lt hs)).1 (h1 (x / 64) a b) (x % 64) hi
    exact this ⟨(h.bit (x / 64) (x % 64) (by omega) hi).2 (by rw [ex]; exact hc), c⟩
  · intro h1 j h2 h3
    rw [and_zero_iff (spanM_lt hs)]
    intro i hi ⟨h4, h5⟩
    exact h1 _ ((spanM_bit hs hi).1 ⟨h2, h3, h5⟩) ((h.bit j i (by omega) hi).1 h4)
/-- So far the words from the first one on have the block, too. -/
def orW (W : Nat → Nat) (s o k : Nat) : Nat → Nat := fun j => if spanF s ≤ j ∧ j < k then W j ||| spanM s o else W j
def anW (W : Nat → Nat) (s o k : Nat) : Nat → Nat := fun j => if spanF s ≤ j ∧ j < k then andN (W j) (spanM s o) else W j
theorem Words.or {W : Nat → Nat} {C : Nat → Prop} (h : Words W C) {s o : Nat} (hs : s % 2 ^ o = 0) : Words (orW W s o (spanE s o)) (fun x => C x ∨ inC s o x) := by
  refine ⟨fun j hj => ?_, fun j i hj hi => ?_⟩
  · unfold orW; split
    · exact Nat.or_lt_two_pow (h.lt j hj) (spanM_lt hs)
    · exact h.lt j hj
  · have hb := h.bit j i hj hi
    have hm := spanM_bit (j := j) hs hi
    unfold orW
    split
    · rename_i hk
      rw [Nat.testBit_or, Bool.or_eq_true, hb, ← hm]
      constructor
      · rintro (a | a)
        · exact .inl a
        · exact .inr ⟨hk.1, hk.2, a⟩
      · rintro (a | ⟨_, _, a⟩)
        · exact .inl a
        · exact .inr a
    · rename_i hk
      rw [hb]
      constructor
      · exact .inl
      · rintro (a | a)
        · exact a
        · obtain ⟨b, c, _⟩ := hm.2 a
          exact absurd ⟨b, c⟩ hk
theorem Words.andNot {W : Nat → Nat} {C : Nat → Prop} (h : Words W C) {s o : Nat} (hs : s % 2 ^ o = 0) : Words (anW W s o (spanE s o)) (fun x => C x ∧ ¬ inC s o x) := by
  refine ⟨fun j hj => ?_, fun j i hj hi => ?_⟩
  · unfold anW; split
    · exact andN_lt _ _ (h.lt j hj)
    · exact h.lt j hj
  · have hb := h.bit j i hj hi
    have hm := spanM_bit (j := j) hs hi
    unfold anW
    split
    · rename_i hk
      rw [andN_bit _ _ _ (spanM_lt hs) hi, Bool.and_eq_true, hb, ← hm]
      cases hq : (spanM s o).testBit i
      · simp
      · simp [hk.1, hk.2]
    · rename_i hk
      rw [hb]
      constructor
      · intro a
        refine ⟨a, fun b => ?_⟩
        obtain ⟨c, d, _⟩ := hm.2 b
        exact hk ⟨c, d⟩
      · exact fun a => a.1
theorem Words.congr {W : Nat → Nat} {C D : Nat → Prop} (h : Words W C) (e : ∀ x, C x ↔ D x) : Words W D := ⟨h.lt, fun j i hj hi => (h.bit j i hj hi).trans (e _)⟩
theorem Words.none : Words (fun _ => 0) (fun _ => False) := ⟨fun _ _ => by omega, fun _ _ _ _ => by simp⟩
theorem Words.zero {W : Nat → Nat} {C : Nat → Prop} (h : Words W C) : (∀ j, j < 16 → W j = 0) ↔ ∀ x, x < 1024 → ¬ C x := by
  constructor
  · intro h1 x hx hc
    have ex : 64 * (x / 64) + x % 64 = x := Nat.div_add_mod x 64
    have := (h.bit (x / 64) (x % 64) (by omega) (Nat.mod_lt _ (by omega))).2 (by rw [ex]; exact hc)
    rw [h1 _ (by omega), Nat.zero_testBit] at this
    cases this
  · intro h1 j hj
    apply Nat.eq_of_testBit_eq
    intro i
    rw [Nat.zero_testBit]
    by_cases hi : i < 64
    · cases hq : (W j).testBit i
      · rfl
      · exact absurd ((h.bit j i hj hi).1 hq) (h1 _ (by omega))
    · exact Nat.testBit_lt_two_pow (Nat.lt_of_lt_of_le (h.lt j hj) (Nat.pow_le_pow_right (by omega) (by omega)))
end Go.Proofs.Ytfobapnncjjeiaa
