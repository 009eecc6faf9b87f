/-
  Names, plainly: what the program's two ways (count, validity, each rune) and the reference's one way come to. No program is imported.
-/
import Derived.Lib.RuneCount
import Derived.Lib.ValidLaws
import Derived.Lib.TrimU
namespace Go.Proofs.YtbnlmeegepgioaaDoor
open Go Go.Lib
set_option linter.unusedVariables false

def okR (r : Nat) : Bool := decide ((97 ≤ r ∧ r ≤ 122) ∨ (65 ≤ r ∧ r ≤ 90) ∨ (48 ≤ r ∧ r ≤ 57) ∨ r = 45 ∨ r = 95 ∨ r = 46 ∨ 160 < r)
/-- From place pos on each rune may stand in a name. -/
def okF (s : ByteArray) : Nat → Nat → Bool
  | 0, _ => true
  | f + 1, pos => if pos < s.size then okR (Utf8.decode s pos).1 && okF s f (pos + (Utf8.decode s pos).2) else true
def validF (s : ByteArray) : Nat → Nat → Bool
  | 0, _ => true
  | f + 1, pos => if pos < s.size then !decide ((Utf8.decode s pos).1 = 65533 ∧ (Utf8.decode s pos).2 = 1) && validF s f (pos + (Utf8.decode s pos).2) else true
/-- A name. -/
def nameB (s : ByteArray) : Bool := decide (1 ≤ runeCount s) && decide (runeCount s ≤ 32) && validD s.data.toList && okF s s.size 0
theorem get_drop (s : ByteArray) (p k : Nat) : (⟨(s.data.toList.drop p).toArray⟩ : ByteArray).get! k = s.get! (p + k) := by
  show (s.data.toList.drop p).toArray[k]! = s.data[p + k]!
  rw [getElem!_def, getElem!_def]
  simp [List.getElem?_drop]
theorem decodeL_at (s : ByteArray) (pos : Nat) : decodeL (s.data.toList.drop pos) = Utf8.decode s pos := by
  unfold decodeL
  rw [decode_at, decode_at]
  have e : (⟨(s.data.toList.drop pos).toArray⟩ : ByteArray).size - 0 = s.size - pos := by
    show (s.data.toList.drop pos).toArray.size - 0 = s.data.size - pos
    simp
  rw [e, get_drop, get_drop, get_drop, get_drop]
  simp
theorem valid_at (s : ByteArray) : ∀ (f pos : Nat), s.size ≤ pos + f → validD (s.data.toList.drop pos) = validF s f pos
  | 0, pos, h => by
    rw [List.drop_of_length_le (by simp; exact h)]; rfl
  | f + 1, pos, h => by
    unfold validF
    by_cases hp : pos < s.size
    · rw [if_pos hp, validD_step _ (by intro e; have := congrArg List.length e; simp at this; omega), decodeL_at, List.drop_drop]
      have hw := width_pos s pos
      rw [valid_at s f (pos + (Utf8.decode s pos).2) (by omega)]
      split
      · rename_i h1; rw [decide_eq_true h1]; rfl
      · rename_i h1; rw [decide_eq_false h1]; rfl
    · rw [if_neg hp, List.drop_of_length_le (by simp; omega)]; rfl
/-- The reference's way: how many runes from place pos on; none: one of them is wrong. -/
def refF (s : ByteArray) : Nat → Nat → Nat → Option Nat
  | 0, _, n => some n
  | f + 1, pos, n => if pos < s.size then (if ((Utf8.decode s pos).1 = 65533 ∧ (Utf8.decode s pos).2 = 1) ∨ okR (Utf8.decode s pos).1 = false then none else refF s f (pos + (Utf8.decode s pos).2) (n + 1)) else some n
def refN (o : Option Nat) : Bool := match o with | none => false | some n => decide (1 ≤ n) && decide (n ≤ 32)
theorem refF_eq (s : ByteArray) : ∀ (f pos n : Nat), refF s f pos n = if validF s f pos = true ∧ okF s f pos = true then some (n + runeCountFrom s f pos) else none
  | 0, pos, n => by unfold refF validF okF runeCountFrom; rw [if_pos ⟨rfl, rfl⟩]; rfl
  | f + 1, pos, n => by
    unfold refF validF okF runeCountFrom
    by_cases hp : pos < s.size
    · rw [if_pos hp, if_pos hp, if_pos hp, if_pos hp, refF_eq s f]
      by_cases h1 : (Utf8.decode s pos).1 = 65533 ∧ (Utf8.decode s pos).2 = 1
      · rw [if_pos (.inl h1), decide_eq_true h1, if_neg (by simp)]
      · rw [decide_eq_false h1]
        by_cases h2 : okR (Utf8.decode s pos).1 = false
        · rw [if_pos (.inr h2), h2, if_neg (by simp)]
        · rw [if_neg (by rintro (h | h); exact h1 h; exact h2 h)]
          have h2 : okR (Utf8.decode s pos).1 = true := by simpa using h2
          rw [h2]
          simp only [Bool.not_false, Bool.true_and]
          split
          · congr 1; omega
          · rfl
    · rw [if_neg hp, if_neg hp, if_neg hp, if_neg hp, if_pos ⟨rfl, rfl⟩]; rfl
theorem refN_eq (s : ByteArray) : refN (refF s s.size 0 0) = nameB s := by
  have hv := valid_at s s.size 0 (by omega)
  rw [List.drop_zero] at hv
  rw [refF_eq]
  unfold nameB
  rw [hv]
  by_cases h : validF s s.size 0 = true ∧ okF s s.size 0 = true
  · rw [if_pos h, h.1, h.2]
    show (decide (1 ≤ 0 + runeCount s) && decide (0 + runeCount s ≤ 32)) = _
    rw [Nat.zero_add]; simp
  · rw [if_neg h]
    show false = _
    cases h1 : validF s s.size 0
    · simp
    · cases h2 : okF s s.size 0
      · simp
      · exact absurd ⟨h1, h2⟩ h
/-! What the reference reckons. -/
/-- The reference's rune at a place: the rune and its width; (0, 0): there is none. -/
def runeV (s : ByteArray) (pos : Nat) : Nat × Nat := if (Utf8.decode s pos).1 = 65533 ∧ (Utf8.decode s pos).2 = 1 then (0, 0) else Utf8.decode s pos
def byN (s : ByteArray) (i : Nat) : Nat := (s.get! i).toNat
def contV (s : ByteArray) (pos j : Nat) : Prop := pos + j < s.size ∧ 128 ≤ byN s (pos + j) ∧ byN s (pos + j) ≤ 191
def accV (s : ByteArray) (pos c0 : Nat) : Nat → Nat
  | 0 => c0
  | j + 1 => accV s pos c0 j * 64 + (byN s (pos + (j + 1)) - 128)
/-- The class of a first byte: how many follow, what the first one gives, the least rune. -/
def ClsV (b k c0 least : Nat) : Prop := (192 ≤ b ∧ b < 224 ∧ k = 1 ∧ c0 = b - 192 ∧ least = 128) ∨ (224 ≤ b ∧ b < 240 ∧ k = 2 ∧ c0 = b - 224 ∧ least = 2048) ∨ (240 ≤ b ∧ b < 248 ∧ k = 3 ∧ c0 = b - 240 ∧ least = 65536)
theorem rune_at (s : ByteArray) (pos : Nat) : Utf8.decode s pos = decodeN (s.size - pos) (byN s pos) (byN s (pos + 1)) (byN s (pos + 2)) (byN s (pos + 3)) := decode_at s pos
theorem dn_none {n b0 b1 b2 b3 : Nat} (h0 : 128 ≤ b0) (h : b0 < 192 ∨ 248 ≤ b0) (hb : b0 < 256) : decodeN n b0 b1 b2 b3 = (65533, 1) := by
  unfold decodeN
  repeat' split
  all_goals first | rfl | (exfalso; omega)
theorem dn_fail1 {n b0 b1 b2 b3 : Nat} (h : 192 ≤ b0) (hc : ¬ (1 < n ∧ b1 / 64 = 2)) : decodeN n b0 b1 b2 b3 = (65533, 1) := by
  unfold decodeN
  repeat' split
  all_goals first | rfl | (exfalso; omega)
theorem dn_fail2 {n b0 b1 b2 b3 : Nat} (h : 224 ≤ b0) (hc : ¬ (2 < n ∧ b2 / 64 = 2)) : decodeN n b0 b1 b2 b3 = (65533, 1) := by
  unfold decodeN
  repeat' split
  all_goals first | rfl | (exfalso; omega)
theorem dn_fail3 {n b0 b1 b2 b3 : Nat} (h : 240 ≤ b0) (hc : ¬ (3 < n ∧ b3 / 64 = 2)) : decodeN n b0 b1 b2 b3 = (65533, 1) := by
  unfold decodeN
  repeat' split
  all_goals first | rfl | (exfalso; omega)
/-- May a rune be, at least so great? -/
def badR (c least : Nat) : Prop := c < least ∨ 1114111 < c ∨ (55296 ≤ c ∧ c ≤ 57343)
theorem dn_ok1 {n b0 b1 b2 b3 c : Nat} (h : 192 ≤ b0 ∧ b0 < 224) (c1 : 1 < n ∧ 128 ≤ b1 ∧ b1 ≤ 191) (hc : c = (b0 - 192) * 64 + (b1 - 128)) : (badR c 128 → decodeN n b0 b1 b2 b3 = (65533, 1)) ∧ (¬ badR c 128 → decodeN n b0 b1 b2 b3 = (c, 2)) := by
  unfold badR
  have e : b0 % 32 * 64 + b1 % 64 = c := by omega
  constructor
  · intro hb
    unfold decodeN
    repeat' split
    all_goals first | rfl | (exfalso; omega)
  · intro hb
    unfold decodeN
    repeat' split
    all_goals first | (rw [e]; done) | (exfalso; omega)
theorem dn_ok2 {n b0 b1 b2 b3 c : Nat} (h : 224 ≤ b0 ∧ b0 < 240) (c1 : 1 < n ∧ 128 ≤ b1 ∧ b1 ≤ 191) (c2 : 2 < n ∧ 128 ≤ b2 ∧ b2 ≤ 191) (hc : c = ((b0 - 224) * 64 + (b1 - 128)) * 64 + (b2 - 128)) : (badR c 2048 → decodeN n b0 b1 b2 b3 = (65533, 1)) ∧ (¬ badR c 2048 → decodeN n b0 b1 b2 b3 = (c, 3)) := by
  unfold badR
  have e : b0 % 16 * 4096 + b1 % 64 * 64 + b2 % 64 = c := by omega
  constructor
  · intro hb
    unfold decodeN
    repeat' split
    all_goals first | rfl | (exfalso; omega)
  · intro hb
    unfold decodeN
    repeat' split
    all_goals first | (rw [e]; done) | (exfalso; omega)
theorem dn_ok3 {n b0 b1 b2 b3 c : Nat} (h : 240 ≤ b0 ∧ b0 < 248) (c1 : 1 < n ∧ 128 ≤ b1 ∧ b1 ≤ 191) (c2 : 2 < n ∧ 128 ≤ b2 ∧ b2 ≤ 191) (c3 : 3 < n ∧ 128 ≤ b3 ∧ b3 ≤ 191) (hc : c = (((b0 - 240) * 64 + (b1 - 128)) * 64 + (b2 - 128)) * 64 + (b3 - 128)) : (badR c 65536 → decodeN n b0 b1 b2 b3 = (65533, 1)) ∧ (¬ badR c 65536 → decodeN n b0 b1 b2 b3 = (c, 4)) := by
  unfold badR
  have e : b0 % 8 * 262144 + b1 % 64 * 4096 + b2 % 64 * 64 + b3 % 64 = c := by omega
  constructor
  · intro hb
    unfold decodeN
    repeat' split
    all_goals first | rfl | (exfalso; omega)
  · intro hb
    unfold decodeN
    repeat' split
    all_goals first | (rw [e]; done) | (exfalso; omega)
theorem byN_lt (s : ByteArray) (i : Nat) : byN s i < 256 := (s.get! i).toNat_lt
theorem rune_of {s : ByteArray} {pos : Nat} (h : Utf8.decode s pos = (65533, 1)) : runeV s pos = (0, 0) := by unfold runeV; rw [h, if_pos ⟨rfl, rfl⟩]
theorem rune_is {s : ByteArray} {pos c k : Nat} (h : Utf8.decode s pos = (c, k)) (hk : 2 ≤ k) : runeV s pos = (c, k) := by unfold runeV; rw [h, if_neg (by dsimp only; omega)]
theorem rune_low {s : ByteArray} {pos : Nat} (h : byN s pos < 128) : runeV s pos = (byN s pos, 1) := by
  have e : Utf8.decode s pos = (byN s pos, 1) := by rw [rune_at]; unfold decodeN; rw [if_pos h]
  unfold runeV
  rw [e, if_neg (by dsimp only; omega)]
set_option maxRecDepth 100000 in
theorem rune_none {s : ByteArray} {pos : Nat} (h0 : 128 ≤ byN s pos) (h : byN s pos < 192 ∨ 248 ≤ byN s pos) : runeV s pos = (0, 0) :=
  rune_of (by rw [rune_at]; exact dn_none h0 h (byN_lt _ _))
theorem rune_fail {s : ByteArray} {pos k c0 least j : Nat} (hk : ClsV (byN s pos) k c0 least) (h1 : 1 ≤ j) (h2 : j ≤ k) (hc : ¬ contV s pos j) : runeV s pos = (0, 0) := by
  refine rune_of ?_
  rw [rune_at]
  unfold contV at hc
  unfold ClsV at hk
  have hj : j = 1 ∨ j = 2 ∨ j = 3 := by omega
  rcases hj with rfl | rfl | rfl
  · exact dn_fail1 (by omega) (by omega)
  · exact dn_fail2 (by omega) (by omega)
  · exact dn_fail3 (by omega) (by omega)
theorem acc1 (s : ByteArray) (pos c0 : Nat) : accV s pos c0 1 = c0 * 64 + (byN s (pos + 1) - 128) := rfl
theorem acc2 (s : ByteArray) (pos c0 : Nat) : accV s pos c0 2 = (c0 * 64 + (byN s (pos + 1) - 128)) * 64 + (byN s (pos + 2) - 128) := rfl
theorem acc3 (s : ByteArray) (pos c0 : Nat) : accV s pos c0 3 = ((c0 * 64 + (byN s (pos + 1) - 128)) * 64 + (byN s (pos + 2) - 128)) * 64 + (byN s (pos + 3) - 128) := rfl
theorem rune_all {s : ByteArray} {pos k c0 least : Nat} (hk : ClsV (byN s pos) k c0 least) (hc : ∀ j, 1 ≤ j → j ≤ k → contV s pos j) :
    (badR (accV s pos c0 k) least → runeV s pos = (0, 0)) ∧ (¬ badR (accV s pos c0 k) least → runeV s pos = (accV s pos c0 k, k + 1)) := by
  have hs : ∀ j, contV s pos j → j < s.size - pos ∧ 128 ≤ byN s (pos + j) ∧ byN s (pos + j) ≤ 191 := fun j h => ⟨by have := h.1; omega, h.2⟩
  rcases hk with ⟨h1, h2, ek, ec, el⟩ | ⟨h1, h2, ek, ec, el⟩ | ⟨h1, h2, ek, ec, el⟩ <;> rw [ek, ec, el] <;> rw [ek] at hc
  · have := dn_ok1 (c := accV s pos (byN s pos - 192) 1) (b2 := byN s (pos + 2)) (b3 := byN s (pos + 3)) ⟨h1, h2⟩ (hs 1 (hc 1 (by omega) (by omega))) (acc1 _ _ _)
    rw [← rune_at] at this
    exact ⟨fun h => rune_of (this.1 h), fun h => rune_is (this.2 h) (by omega)⟩
  · have := dn_ok2 (c := accV s pos (byN s pos - 224) 2) (b3 := byN s (pos + 3)) ⟨h1, h2⟩ (hs 1 (hc 1 (by omega) (by omega))) (hs 2 (hc 2 (by omega) (by omega))) (acc2 _ _ _)
    rw [← rune_at] at this
    exact ⟨fun h => rune_of (this.1 h), fun h => rune_is (this.2 h) (by omega)⟩
  · have := dn_ok3 (c := accV s pos (byN s pos - 240) 3) ⟨h1, h2⟩ (hs 1 (hc 1 (by omega) (by omega))) (hs 2 (hc 2 (by omega) (by omega))) (hs 3 (hc 3 (by omega) (by omega))) (acc3 _ _ _)
    rw [← rune_at] at this
    exact ⟨fun h => rune_of (this.1 h), fun h => rune_is (this.2 h) (by omega)⟩
theorem accV_bd (s : ByteArray) (pos c0 : Nat) (h0 : c0 < 32) : accV s pos c0 0 < 32 ∧ accV s pos c0 1 < 2176 ∧ accV s pos c0 2 < 139392 ∧ accV s pos c0 3 < 8921216 := by
  have h1 := byN_lt s (pos + (0 + 1))
  have h2 := byN_lt s (pos + (1 + 1))
  have h3 := byN_lt s (pos + (2 + 1))
  have e0 : accV s pos c0 0 = c0 := rfl
  have e1 : accV s pos c0 1 = accV s pos c0 0 * 64 + (byN s (pos + (0 + 1)) - 128) := rfl
  have e2 : accV s pos c0 2 = accV s pos c0 1 * 64 + (byN s (pos + (1 + 1)) - 128) := rfl
  have e3 : accV s pos c0 3 = accV s pos c0 2 * 64 + (byN s (pos + (2 + 1)) - 128) := rfl
  omega
theorem accV_lt (s : ByteArray) (pos c0 j : Nat) (h0 : c0 < 32) (hj : j ≤ 2) : accV s pos c0 j < 139392 := by
  have := accV_bd s pos c0 h0
  match j, hj with
  | 0, _ => omega
  | 1, _ => omega
  | 2, _ => omega
end Go.Proofs.YtbnlmeegepgioaaDoor
