/-
  CRC-32C, plain: the register's step, and that n steps over a text are n steps of the register with the text's number laid over it. No program is imported.
-/
import Derived.Test.YtgohnidndjbjiaaBts
namespace Go.Proofs.Ytgohnidndjbjiaa
open Go Go.RowKit
set_option linter.unusedVariables false

theorem xor_eq0 {a b : Nat} (h : a ^^^ b = 0) : a = b := by
  apply Nat.eq_of_testBit_eq
  intro i
  have : (a ^^^ b).testBit i = (0 : Nat).testBit i := by rw [h]
  rw [Nat.testBit_xor, Nat.zero_testBit] at this
  revert this
  cases a.testBit i <;> cases b.testBit i <;> decide
def poly : Nat := 2197175160
/-- One step of the register. -/
def fS (r : Nat) : Nat := if r % 2 = 1 then (r / 2) ^^^ poly else r / 2
def fI : Nat → Nat → Nat
  | 0, r => r
  | n + 1, r => fI n (fS r)
theorem fI_succ (n r : Nat) : fI (n + 1) r = fS (fI n r) := by
  induction n generalizing r with
  | zero => rfl
  | succ n ih => show fI (n + 1) (fS r) = fS (fI n (fS r)); exact ih (fS r)
theorem fI_add (m n r : Nat) : fI (m + n) r = fI n (fI m r) := by
  induction m generalizing r with
  | zero => rw [Nat.zero_add]; rfl
  | succ m ih => rw [show m + 1 + n = (m + n) + 1 by omega]; exact ih (fS r)
theorem xor_half (a b : Nat) : (a ^^^ b) / 2 = (a / 2) ^^^ (b / 2) := by
  apply Nat.eq_of_testBit_eq
  intro i
  rw [Nat.testBit_xor, ← Nat.testBit_succ, ← Nat.testBit_succ, ← Nat.testBit_succ, Nat.testBit_xor]
theorem xor_mod (a b : Nat) : (a ^^^ b) % 2 = (a % 2 + b % 2) % 2 := by
  have h := Nat.testBit_xor (x := a) (y := b) (i := 0)
  simp only [Nat.testBit_zero] at h
  rcases Nat.mod_two_eq_zero_or_one a with ha | ha <;> rcases Nat.mod_two_eq_zero_or_one b with hb | hb <;> rcases Nat.mod_two_eq_zero_or_one (a ^^^ b) with hc | hc <;> simp [ha, hb, hc] at h ⊢
theorem fS_xor (a b : Nat) : fS (a ^^^ b) = fS a ^^^ fS b := by
  unfold fS
  rw [xor_half, xor_mod]
  rcases Nat.mod_two_eq_zero_or_one a with ha | ha <;> rcases Nat.mod_two_eq_zero_or_one b with hb | hb <;> rw [ha, hb]
  · rfl
  · simp [Nat.xor_assoc]
  · show (a / 2 ^^^ b / 2) ^^^ poly = (a / 2 ^^^ poly) ^^^ b / 2
    rw [Nat.xor_assoc, Nat.xor_assoc, Nat.xor_comm poly]
  · simp
    rw [Nat.xor_assoc, ← Nat.xor_assoc poly, Nat.xor_comm poly, Nat.xor_assoc, Nat.xor_self, Nat.xor_zero]
theorem fI_xor (n a b : Nat) : fI n (a ^^^ b) = fI n a ^^^ fI n b := by
  induction n generalizing a b with
  | zero => rfl
  | succ n ih => show fI n (fS (a ^^^ b)) = _; rw [fS_xor, ih]; rfl
theorem fS_lt (r : Nat) (h : r < 2 ^ 32) : fS r < 2 ^ 32 := by
  unfold fS
  split
  · exact Nat.xor_lt_two_pow (by omega) (by decide)
  · omega
theorem fI_lt (n r : Nat) (h : r < 2 ^ 32) : fI n r < 2 ^ 32 := by
  induction n generalizing r with
  | zero => exact h
  | succ n ih => exact ih _ (fS_lt r h)
theorem fS_zero (r : Nat) (h : r < 2 ^ 32) (h0 : fS r = 0) : r = 0 := by
  unfold fS at h0
  split at h0
  · have := xor_eq0 h0
    unfold poly at this; omega
  · omega
theorem fI_zero (n r : Nat) (h : r < 2 ^ 32) (h0 : fI n r = 0) : r = 0 := by
  induction n generalizing r with
  | zero => exact h0
  | succ n ih => exact fS_zero r h (ih _ (fS_lt r h) h0)
theorem fI_nil (n : Nat) : fI n 0 = 0 := by
  induction n with
  | zero => rfl
  | succ n ih => exact ih
/-- Noughts below go first. -/
theorem fI_shift (n p : Nat) : fI n (p * 2 ^ n) = p := by
  induction n with
  | zero => simp [fI]
  | succ n ih =>
    show fI n (fS (p * 2 ^ (n + 1))) = p
    have : fS (p * 2 ^ (n + 1)) = p * 2 ^ n := by
      unfold fS
      have e : p * 2 ^ (n + 1) = 2 * (p * 2 ^ n) := by rw [Nat.pow_succ]; ac_rfl
      rw [e, if_neg (by omega)]; omega
    rw [this]; exact ih

/-- The number of a text, the first byte lowest. -/
def numB : List UInt8 → Nat
  | [] => 0
  | c :: xs => c.toNat + 256 * numB xs
theorem numB_lt (xs : List UInt8) : numB xs < 2 ^ (8 * xs.length) := by
  induction xs with
  | nil => decide
  | cons c xs ih =>
    have := c.toNat_lt
    have e : 2 ^ (8 * (c :: xs).length) = 256 * 2 ^ (8 * xs.length) := by rw [List.length_cons, show 8 * (xs.length + 1) = 8 + 8 * xs.length by omega, Nat.pow_add]
    rw [e]
    show c.toNat + 256 * numB xs < _
    omega
theorem cons_xor (c n : Nat) (h : c < 256) : c + 256 * n = c ^^^ (256 * n) := by
  have := Nat.two_pow_add_eq_or_of_lt (i := 8) (b := c) h n
  rw [show (256 : Nat) = 2 ^ 8 by rfl, Nat.add_comm, this]
  apply Nat.eq_of_testBit_eq
  intro i
  rw [Nat.testBit_or, Nat.testBit_xor, Nat.testBit_two_pow_mul]
  by_cases hi : 8 ≤ i
  · have : c.testBit i = false := Nat.testBit_lt_two_pow (Nat.lt_of_lt_of_le h (Nat.pow_le_pow_right (by decide : 0 < 2) hi))
    rw [this]; simp
  · simp [hi]
/-- The register behind a text. -/
def crcB : Nat → List UInt8 → Nat
  | r, [] => r
  | r, c :: xs => crcB (fI 8 (r ^^^ c.toNat)) xs
theorem crcB_eq (xs : List UInt8) : ∀ r, crcB r xs = fI (8 * xs.length) (r ^^^ numB xs) := by
  induction xs with
  | nil => intro r; show r = fI 0 (r ^^^ 0); rw [Nat.xor_zero]; rfl
  | cons c xs ih =>
    intro r
    show crcB (fI 8 (r ^^^ c.toNat)) xs = _
    rw [ih, List.length_cons, show 8 * (xs.length + 1) = 8 + 8 * xs.length by omega, fI_add]
    congr 1
    show _ = fI 8 (r ^^^ (c.toNat + 256 * numB xs))
    rw [cons_xor _ _ c.toNat_lt, ← Nat.xor_assoc, fI_xor 8 (r ^^^ c.toNat), Nat.mul_comm 256]
    congr 1
    exact (fI_shift 8 (numB xs)).symm
theorem crcB_lt (xs : List UInt8) : ∀ r, r < 2 ^ 32 → crcB r xs < 2 ^ 32 := by
  induction xs with
  | nil => exact fun r h => h
  | cons c xs ih => exact fun r h => ih _ (fI_lt 8 _ (Nat.xor_lt_two_pow h (Nat.lt_of_lt_of_le c.toNat_lt (by decide : 256 ≤ 2 ^ 32))))
theorem crcB_app (xs ys : List UInt8) : ∀ r, crcB r (xs ++ ys) = crcB (crcB r xs) ys := by
  induction xs with
  | nil => intro r; rfl
  | cons c xs ih => intro r; exact ih _
def ones : Nat := 4294967295
/-- CRC-32C of a text. -/
def sumB (xs : List UInt8) : Nat := crcB ones xs ^^^ ones
theorem sumB_lt (xs : List UInt8) : sumB xs < 4294967296 := Nat.xor_lt_two_pow (n := 32) (crcB_lt xs ones (by decide)) (by decide)
/-- Two sums differ as the texts do. -/
theorem sumB_xor (xs ys : List UInt8) (h : xs.length = ys.length) : sumB xs ^^^ sumB ys = fI (8 * xs.length) (numB xs ^^^ numB ys) := by
  unfold sumB
  rw [crcB_eq, crcB_eq, ← h, fI_xor, fI_xor, fI_xor]
  generalize fI (8 * xs.length) ones = a
  generalize fI (8 * xs.length) (numB xs) = b
  generalize fI (8 * xs.length) (numB ys) = c
  apply Nat.eq_of_testBit_eq
  intro i
  simp only [Nat.testBit_xor]
  cases a.testBit i <;> cases b.testBit i <;> cases c.testBit i <;> cases ones.testBit i <;> rfl
/-- A burst of 32 bits is told. -/
theorem sumB_burst (xs ys : List UInt8) (h : xs.length = ys.length) (p k : Nat) (hp : p < 2 ^ 32) (hk : k ≤ 8 * xs.length) (hx : numB xs ^^^ numB ys = p * 2 ^ k) : (sumB xs = sumB ys) ↔ p = 0 := by
  have e := sumB_xor xs ys h
  rw [hx, show 8 * xs.length = k + (8 * xs.length - k) by omega, fI_add, fI_shift] at e
  constructor
  · intro hs
    rw [hs, Nat.xor_self] at e
    exact fI_zero _ p hp e.symm
  · intro hp0
    rw [hp0, fI_nil] at e
    exact xor_eq0 e
theorem numB_inj : ∀ (xs ys : List UInt8), xs.length = ys.length → numB xs = numB ys → xs = ys
  | [], [], _, _ => rfl
  | c :: xs, d :: ys, hl, h => by
    have hc := c.toNat_lt
    have hd := d.toNat_lt
    have h' : c.toNat + 256 * numB xs = d.toNat + 256 * numB ys := h
    have e1 : c.toNat = d.toNat := by omega
    have e2 : numB xs = numB ys := by omega
    rw [UInt8.toNat_inj.1 e1, numB_inj xs ys (by simpa using hl) e2]
end Go.Proofs.Ytgohnidndjbjiaa
