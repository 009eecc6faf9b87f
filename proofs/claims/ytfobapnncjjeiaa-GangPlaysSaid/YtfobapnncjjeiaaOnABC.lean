/-
  Counting ones by fields, plainly. No program is imported.
  How many columns of a row are covered, plainly. No program is imported.
  math/bits.OnesCount64 at any word; gang's columns' count; Idle.
-/
import Derived.Test.YtfobapnncjjeiaaGaP
import Derived.Test.YtfobapnncjjeiaaGaB
import Derived.Test.YtfobapnncjjeiaaGaK
import Derived.Test.YtfobapnncjjeiaaGaG
namespace Go.Proofs.Ytfobapnncjjeiaa
set_option linter.unusedVariables false

section

theorem and_split {n a b c d : Nat} (ha : a < 2 ^ n) (hc : c < 2 ^ n) : (a + 2 ^ n * b) &&& (c + 2 ^ n * d) = (a &&& c) + 2 ^ n * (b &&& d) := by
  rw [Nat.add_comm a, Nat.add_comm c, Nat.add_comm (a &&& c)]
  apply Nat.eq_of_testBit_eq
  intro j
  rw [Nat.testBit_and, Nat.testBit_two_pow_mul_add _ ha, Nat.testBit_two_pow_mul_add _ hc, Nat.testBit_two_pow_mul_add _ (Nat.and_lt_two_pow _ hc)]
  split <;> simp [Nat.testBit_and]
/-- A number by its fields, the least first. -/
def valF (B : Nat) : List Nat → Nat
  | [] => 0
  | d :: ds => d + B * valF B ds
/-- The fields' sums, two by two. -/
def pairF : List Nat → List Nat
  | a :: b :: ds => (a + b) :: pairF ds
  | [a] => [a]
  | [] => []
def maskF (w : Nat) : Nat → Nat
  | 0 => 0
  | k + 1 => (2 ^ w - 1) + 2 ^ (w + w) * maskF w k
def evenF : List Nat → List Nat
  | a :: _ :: ds => a :: evenF ds
  | [a] => [a]
  | [] => []
theorem and_even (w : Nat) : ∀ (k : Nat) (ds : List Nat), ds.length = k + k → (∀ d ∈ ds, d < 2 ^ w) → valF (2 ^ w) ds &&& maskF w k = valF (2 ^ (w + w)) (evenF ds)
  | 0, ds, hl, _ => by
    obtain rfl : ds = [] := List.eq_nil_of_length_eq_zero (by omega)
    simp [valF, maskF, evenF]
  | k + 1, ds, hl, hd => by
    match ds, hl with
    | [], hl => exact absurd hl (by simp)
    | [_], hl => exact absurd hl (by simp; omega)
    | a :: b :: ds, hl =>
      have ha := hd a (by simp)
      have hb := hd b (by simp)
      have ih := and_even w k ds (by simp at hl; omega) (fun d h => hd d (by simp [h]))
      have hp : (2 : Nat) ^ (w + w) = 2 ^ w * 2 ^ w := Nat.pow_add 2 w w
      have h0 := Nat.two_pow_pos w
      have e1 : valF (2 ^ w) (a :: b :: ds) = (a + 2 ^ w * b) + 2 ^ (w + w) * valF (2 ^ w) ds := by
        simp only [valF]; rw [Nat.mul_add, ← Nat.mul_assoc, ← hp, Nat.add_assoc]
      have h1 : a + 2 ^ w * b < 2 ^ (w + w) := by
        rw [hp]
        calc a + 2 ^ w * b < 2 ^ w + 2 ^ w * b := by omega
          _ = 2 ^ w * (b + 1) := by rw [Nat.mul_add]; omega
          _ ≤ 2 ^ w * 2 ^ w := Nat.mul_le_mul_left _ hb
      have h2 : 2 ^ w - 1 < 2 ^ (w + w) := by
        rw [hp]
        have : 2 ^ w * 1 ≤ 2 ^ w * 2 ^ w := Nat.mul_le_mul_left _ h0
        omega
      rw [e1]
      show _ &&& ((2 ^ w - 1) + 2 ^ (w + w) * maskF w k) = a + 2 ^ (w + w) * valF (2 ^ (w + w)) (evenF ds)
      rw [and_split h1 h2, ih, Nat.and_two_pow_sub_one_eq_mod, Nat.add_mul_mod_self_left, Nat.mod_eq_of_lt ha]
theorem val_snoc (B : Nat) : ∀ ds : List Nat, valF B (ds ++ [0]) = valF B ds
  | [] => by simp [valF]
  | d :: ds => by simp only [List.cons_append, valF]; rw [val_snoc B ds]
theorem val_shift {w d : Nat} {ds : List Nat} (h : d < 2 ^ w) : valF (2 ^ w) (d :: ds) >>> w = valF (2 ^ w) ds := by
  rw [Nat.shiftRight_eq_div_pow]
  show (d + 2 ^ w * valF (2 ^ w) ds) / 2 ^ w = _
  rw [Nat.add_mul_div_left _ _ (Nat.two_pow_pos w), Nat.div_eq_of_lt h, Nat.zero_add]
theorem even_pair (B : Nat) : ∀ (k : Nat) (ds : List Nat), ds.length = k + k → valF B (evenF (ds.tail ++ [0])) + valF B (evenF ds) = valF B (pairF ds)
  | 0, ds, hl => by
    obtain rfl : ds = [] := List.eq_nil_of_length_eq_zero (by omega)
    simp [valF, evenF, pairF]
  | k + 1, ds, hl => by
    match ds, hl with
    | [], hl => exact absurd hl (by simp)
    | [_], hl => exact absurd hl (by simp; omega)
    | [a, b], _ => simp [valF, evenF, pairF]; omega
    | a :: b :: c :: ds, hl =>
      have ih := even_pair B k (c :: ds) (by simp at hl ⊢; omega)
      simp only [List.tail_cons] at ih
      show (b + B * valF B (evenF (ds ++ [0]))) + (a + B * valF B (evenF (c :: ds))) = (a + b) + B * valF B (pairF (c :: ds))
      rw [← ih, Nat.mul_add]; omega
/-- Two fields' sums by two masks: one step of counting. -/
theorem fold_step {w k : Nat} {ds : List Nat} (hl : ds.length = k + k) (hd : ∀ d ∈ ds, d < 2 ^ w) :
    ((valF (2 ^ w) ds >>> w) &&& maskF w k) + (valF (2 ^ w) ds &&& maskF w k) = valF (2 ^ (w + w)) (pairF ds) := by
  have h1 : valF (2 ^ w) ds >>> w = valF (2 ^ w) (ds.tail ++ [0]) := by
    rw [val_snoc]
    match ds, hd with
    | [], _ => simp [valF]
    | d :: ds, hd => exact val_shift (hd d (by simp))
  have h2 : ∀ d ∈ ds.tail ++ [0], d < 2 ^ w := fun d h => by
    rcases List.mem_append.1 h with h | h
    · exact hd d (List.mem_of_mem_tail h)
    · rw [List.mem_singleton.1 h]; exact Nat.two_pow_pos w
  rw [and_even w k ds hl hd]
  by_cases hk : k = 0
  · subst hk
    obtain rfl : ds = [] := List.eq_nil_of_length_eq_zero (by omega)
    simp [maskF, valF, evenF, pairF]
  · rw [h1, and_even w k _ (by simp; omega) h2]
    exact even_pair _ k ds hl
theorem pair_sum : ∀ ds : List Nat, (pairF ds).sum = ds.sum
  | a :: b :: ds => by simp only [pairF, List.sum_cons]; rw [pair_sum ds]; omega
  | [a] => rfl
  | [] => rfl
theorem pair_le {m : Nat} : ∀ ds : List Nat, (∀ d ∈ ds, d ≤ m) → ∀ d ∈ pairF ds, d ≤ m + m
  | a :: b :: ds, h, d, hd => by
    have ha := h a (by simp)
    have hb := h b (by simp)
    rcases List.mem_cons.1 hd with rfl | hd
    · omega
    · exact pair_le ds (fun x hx => h x (by simp [hx])) d hd
  | [a], h, d, hd => by have := h d hd; omega
  | [], h, d, hd => by cases hd
/-- Each field and the next one. -/
def nextF : List Nat → List Nat
  | a :: b :: ds => (a + b) :: nextF (b :: ds)
  | [a] => [a]
  | [] => []
theorem next_val (B : Nat) : ∀ ds : List Nat, valF B ds.tail + valF B ds = valF B (nextF ds)
  | [] => by simp [valF, nextF]
  | [a] => by simp [valF, nextF]
  | a :: b :: ds => by
    have ih := next_val B (b :: ds)
    simp only [List.tail_cons] at ih
    show (b + B * valF B ds) + (a + B * valF B (b :: ds)) = (a + b) + B * valF B (nextF (b :: ds))
    rw [← ih, Nat.mul_add]; omega
theorem next_len : ∀ ds : List Nat, (nextF ds).length = ds.length
  | [] => rfl
  | [a] => rfl
  | a :: b :: ds => by simp only [nextF, List.length_cons]; rw [next_len (b :: ds)]; rfl
theorem next_le {m : Nat} : ∀ ds : List Nat, (∀ d ∈ ds, d ≤ m) → ∀ d ∈ nextF ds, d ≤ m + m
  | a :: b :: ds, h, d, hd => by
    have ha := h a (by simp)
    have hb := h b (by simp)
    rcases List.mem_cons.1 hd with rfl | hd
    · omega
    · exact next_le (b :: ds) (fun x hx => h x (by simp [List.mem_cons.1 hx])) d hd
  | [a], h, d, hd => by have := h d hd; omega
  | [], h, d, hd => by cases hd
theorem even_next : ∀ (k : Nat) (ds : List Nat), ds.length = k + k → evenF (nextF ds) = pairF ds
  | 0, ds, hl => by
    obtain rfl : ds = [] := List.eq_nil_of_length_eq_zero (by omega)
    rfl
  | k + 1, ds, hl => by
    match ds, hl with
    | [], hl => exact absurd hl (by simp)
    | [_], hl => exact absurd hl (by simp; omega)
    | [a, b], _ => rfl
    | a :: b :: c :: ds, hl =>
      have ih := even_next k (c :: ds) (by simp at hl ⊢; omega)
      show (a + b) :: evenF (nextF (c :: ds)) = (a + b) :: pairF (c :: ds)
      rw [ih]
/-- Sums first, then the mask: where no field overflows. -/
theorem add_step {w k m : Nat} {ds : List Nat} (hl : ds.length = k + k) (hd : ∀ d ∈ ds, d ≤ m) (hm : m + m < 2 ^ w) :
    ((valF (2 ^ w) ds >>> w) + valF (2 ^ w) ds) &&& maskF w k = valF (2 ^ (w + w)) (pairF ds) := by
  have h1 : valF (2 ^ w) ds >>> w = valF (2 ^ w) ds.tail := by
    match ds, hd with
    | [], _ => simp [valF]
    | d :: ds, hd => exact val_shift (by have := hd d (by simp); omega)
  rw [h1, next_val, and_even w k _ (by rw [next_len]; exact hl) (fun d h => by have := next_le ds hd d h; omega), even_next k ds hl]
theorem div_of {x lo hi B : Nat} (h : x = lo + B * hi) (hl : lo < B) : x / B = hi := by
  rw [h, Nat.add_mul_div_left _ _ (by omega), Nat.div_eq_of_lt hl, Nat.zero_add]
theorem ones_last {a b c d e f g h : Nat} (ha : a ≤ 8) (hb : b ≤ 8) (hc : c ≤ 8) (hd : d ≤ 8) (he : e ≤ 8) (hf : f ≤ 8) (hg : g ≤ 8) (hh : h ≤ 8) {x y z u : Nat}
    (hx : x = a + 256 * (b + 256 * (c + 256 * (d + 256 * (e + 256 * (f + 256 * (g + 256 * h))))))) (hy : y = x + x / 256) (hz : z = y + y / 65536) (hu : u = z + z / 4294967296) :
    u % 128 = a + b + c + d + e + f + g + h ∧ u < 9223372036854775808 ∧ y < 18446744073709551616 ∧ z < 18446744073709551616 := by
  have h1 : x / 256 = b + 256 * (c + 256 * (d + 256 * (e + 256 * (f + 256 * (g + 256 * h))))) := div_of hx (by omega)
  rw [h1, hx] at hy
  have h3 : y / 65536 = (c + d) + 256 * ((d + e) + 256 * ((e + f) + 256 * ((f + g) + 256 * ((g + h) + 256 * h)))) := div_of (lo := (a + b) + 256 * (b + c)) (by rw [hy]; clear hz hu hx h1 hy; omega) (by omega)
  rw [h3, hy] at hz
  have h5 : z / 4294967296 = (e + f + g + h) + 256 * ((f + g + h) + 256 * ((g + h) + 256 * h)) := div_of (lo := (a + b + c + d) + 256 * ((b + c + d + e) + 256 * ((c + d + e + f) + 256 * (d + e + f + g)))) (by rw [hz]; clear hz hu hx h1 hy h3; omega) (by clear hz hu hx h1 hy h3; omega)
  rw [h5, hz] at hu
  clear h1 h3 h5 hx
  have h6 : u = (a + b + c + d + e + f + g + h) + 128 * (2 * ((b + c + d + e + f + g + h) + 256 * ((c + d + e + f + g + h) + 256 * ((d + e + f + g + h) + 256 * ((e + f + g + h) + 256 * ((f + g + h) + 256 * ((g + h) + 256 * h))))))) := by rw [hu]; clear hy hz hu; omega
  refine ⟨?_, ?_, ?_, ?_⟩
  · rw [h6, Nat.add_mul_mod_self_left, Nat.mod_eq_of_lt (by clear hy hz hu h6; omega)]
  · rw [h6]; clear hy hz hu h6; omega
  · rw [hy]; clear hy hz hu h6; omega
  · rw [hz]; clear hy hz hu h6; omega
def bitsF : Nat → Nat → List Nat
  | 0, _ => []
  | k + 1, x => x % 2 :: bitsF k (x / 2)
theorem bits_len : ∀ k x, (bitsF k x).length = k
  | 0, _ => rfl
  | k + 1, x => by simp only [bitsF, List.length_cons]; rw [bits_len k]
theorem bits_le : ∀ k x, ∀ d ∈ bitsF k x, d ≤ 1
  | 0, _, d, h => by cases h
  | k + 1, x, d, h => by
    rcases List.mem_cons.1 h with rfl | h
    · omega
    · exact bits_le k _ d h
theorem bits_val : ∀ k x, x < 2 ^ k → valF 2 (bitsF k x) = x
  | 0, x, h => by have : x = 0 := by simpa using h
                  subst this; rfl
  | k + 1, x, h => by
    show x % 2 + 2 * valF 2 (bitsF k (x / 2)) = x
    rw [bits_val k (x / 2) (by rw [Nat.pow_succ] at h; omega)]
    omega
theorem pair_len : ∀ (k : Nat) (ds : List Nat), ds.length = k + k → (pairF ds).length = k
  | 0, ds, hl => by
    obtain rfl : ds = [] := List.eq_nil_of_length_eq_zero (by omega)
    rfl
  | k + 1, ds, hl => by
    match ds, hl with
    | [], hl => exact absurd hl (by simp)
    | [_], hl => exact absurd hl (by simp; omega)
    | a :: b :: ds, hl =>
      simp only [pairF, List.length_cons]
      rw [pair_len k ds (by simp at hl; omega)]
theorem mask0 : maskF 1 32 = 6148914691236517205 := by decide +kernel
theorem mask1 : maskF 2 16 = 3689348814741910323 := by decide +kernel
theorem mask2 : maskF 4 8 = 1085102592571150095 := by decide +kernel
theorem list8 : ∀ q : List Nat, q.length = 8 → ∃ a b c d e f g h, q = [a, b, c, d, e, f, g, h] := by
  intro q hl
  rcases q with _ | ⟨a, q⟩; · simp at hl
  rcases q with _ | ⟨b, q⟩; · simp at hl
  rcases q with _ | ⟨c, q⟩; · simp at hl
  rcases q with _ | ⟨d, q⟩; · simp at hl
  rcases q with _ | ⟨e, q⟩; · simp at hl
  rcases q with _ | ⟨f, q⟩; · simp at hl
  rcases q with _ | ⟨g, q⟩; · simp at hl
  rcases q with _ | ⟨h, q⟩; · simp at hl
  rcases q with _ | ⟨i, q⟩
  · exact ⟨a, b, c, d, e, f, g, h, rfl⟩
  · simp at hl
theorem val8 (a b c d e f g h : Nat) : valF (2 ^ (4 + 4)) [a, b, c, d, e, f, g, h] = a + 256 * (b + 256 * (c + 256 * (d + 256 * (e + 256 * (f + 256 * (g + 256 * h)))))) := by
  simp only [valF, Nat.mul_zero, Nat.add_zero]
theorem ones_end {q : List Nat} {x3 y z u : Nat} (e3 : x3 = valF (2 ^ (4 + 4)) q) (l3 : q.length = 8) (m3 : ∀ d ∈ q, d ≤ 2 + 2 + (2 + 2)) (hy : y = x3 + x3 / 256) (hz : z = y + y / 65536) (hu : u = z + z / 4294967296) :
    u % 128 = q.sum ∧ u < 9223372036854775808 ∧ y < 18446744073709551616 ∧ z < 18446744073709551616 := by
  obtain ⟨a, b, c, d, e, f, g, h, rfl⟩ := list8 q l3
  rw [val8] at e3
  have hh := ones_last (m3 a (by simp)) (m3 b (by simp)) (m3 c (by simp)) (m3 d (by simp)) (m3 e (by simp)) (m3 f (by simp)) (m3 g (by simp)) (m3 h (by simp)) e3 hy hz hu
  refine ⟨?_, hh.2⟩
  rw [hh.1]
  simp only [List.sum_cons, List.sum_nil]
  clear hh e3 hy hz hu m3
  omega
/-- The seven lines of OnesCount64, in numbers. -/
theorem ones_all {x x1 x2 x3 y z u : Nat} (hx : x < 2 ^ 64) (h1 : x1 = ((x >>> 1) &&& 6148914691236517205) + (x &&& 6148914691236517205)) (h2 : x2 = ((x1 >>> 2) &&& 3689348814741910323) + (x1 &&& 3689348814741910323))
    (h3 : x3 = ((x2 >>> 4) + x2) &&& 1085102592571150095) (hy : y = x3 + x3 / 256) (hz : z = y + y / 65536) (hu : u = z + z / 4294967296) :
    u % 128 = (bitsF 64 x).sum ∧ u < 9223372036854775808 ∧ y < 18446744073709551616 ∧ z < 18446744073709551616 := by
  obtain ⟨b, hb⟩ : ∃ b, b = bitsF 64 x := ⟨_, rfl⟩
  have lb : b.length = 64 := by rw [hb, bits_len]
  have mb : ∀ d ∈ b, d ≤ 1 := by rw [hb]; exact bits_le 64 x
  have vb : valF (2 ^ 1) b = x := by rw [hb]; exact bits_val 64 x hx
  have e1 : x1 = valF (2 ^ (1 + 1)) (pairF b) := by
    rw [h1, ← mask0, ← vb]
    exact fold_step (k := 32) (by rw [lb]) (fun d h => by have := mb d h; omega)
  have l1 := pair_len 32 b (by rw [lb])
  have m1 := pair_le b mb
  have e2 : x2 = valF (2 ^ (2 + 2)) (pairF (pairF b)) := by
    rw [h2, ← mask1, e1]
    exact fold_step (w := 2) (k := 16) (by rw [l1]) (fun d h => by have := m1 d h; omega)
  have l2 := pair_len 16 (pairF b) (by rw [l1])
  have m2 := pair_le _ m1
  have e3 : x3 = valF (2 ^ (4 + 4)) (pairF (pairF (pairF b))) := by
    rw [h3, ← mask2, e2]
    exact add_step (w := 4) (k := 8) (m := 4) (by rw [l2]) m2 (by decide)
  have l3 := pair_len 8 (pairF (pairF b)) (by rw [l2])
  have m3 := pair_le _ m2
  have hs : (pairF (pairF (pairF b))).sum = b.sum := by rw [pair_sum, pair_sum, pair_sum]
  rw [← hb, ← hs]
  obtain ⟨q, hq⟩ : ∃ q, q = pairF (pairF (pairF b)) := ⟨_, rfl⟩
  rw [← hq] at e3 l3 m3 ⊢
  clear hq
  exact ones_end (by rw [e3]) l3 m3 hy hz hu
end

section

/-- How many of the first k say so. -/
def cntB (f : Nat → Bool) : Nat → Nat
  | 0 => 0
  | k + 1 => cntB f k + (if f k = true then 1 else 0)
theorem cntB_congr {f g : Nat → Bool} : ∀ {k : Nat}, (∀ x, x < k → f x = g x) → cntB f k = cntB g k
  | 0, _ => rfl
  | k + 1, h => by
    unfold cntB
    rw [cntB_congr (fun x hx => h x (by omega)), h k (by omega)]
theorem cntB_add (f : Nat → Bool) (a : Nat) : ∀ b, cntB f (a + b) = cntB f a + cntB (fun i => f (a + i)) b
  | 0 => rfl
  | b + 1 => by
    show cntB f (a + b) + (if f (a + b) = true then 1 else 0) = cntB f a + (cntB (fun i => f (a + i)) b + (if f (a + b) = true then 1 else 0))
    rw [cntB_add f a b]; omega
theorem cntB_or {f g h : Nat → Bool} : ∀ {k : Nat}, (∀ x, x < k → (h x = true ↔ f x = true ∨ g x = true)) → (∀ x, x < k → ¬ (f x = true ∧ g x = true)) → cntB h k = cntB f k + cntB g k
  | 0, _, _ => rfl
  | k + 1, h1, h2 => by
    unfold cntB
    rw [cntB_or (fun x hx => h1 x (by omega)) (fun x hx => h2 x (by omega))]
    have a := h1 k (by omega)
    have b := h2 k (by omega)
    by_cases hf : f k = true
    · have hg : ¬ g k = true := fun hg => b ⟨hf, hg⟩
      rw [if_pos (a.2 (.inl hf)), if_pos hf, if_neg hg]; omega
    · by_cases hg : g k = true
      · rw [if_pos (a.2 (.inr hg)), if_neg hf, if_pos hg]; omega
      · rw [if_neg (fun h => (a.1 h).elim hf hg), if_neg hf, if_neg hg]
        omega
theorem cntB_zero {f : Nat → Bool} : ∀ {k : Nat}, (∀ x, x < k → f x = false) → cntB f k = 0
  | 0, _ => rfl
  | k + 1, h => by unfold cntB; rw [cntB_zero (fun x hx => h x (by omega)), h k (by omega)]; rfl
theorem cntB_le (f : Nat → Bool) : ∀ k, cntB f k ≤ k
  | 0 => Nat.le_refl _
  | k + 1 => by unfold cntB; have := cntB_le f k; split <;> omega
theorem cntB_stop {f : Nat → Bool} {m k : Nat} (hm : m ≤ k) (h : ∀ x, m ≤ x → x < k → f x = false) : cntB f k = cntB f m := by
  obtain ⟨d, rfl⟩ : ∃ d, k = m + d := ⟨k - m, by omega⟩
  rw [cntB_add, cntB_zero (f := fun i => f (m + i)) (fun x hx => h (m + x) (by omega) (by omega)), Nat.add_zero]
theorem cntB_span (s t : Nat) : ∀ k, cntB (fun x => decide (s ≤ x ∧ x < s + t)) k = min k (s + t) - min k s
  | 0 => by simp [cntB]
  | k + 1 => by
    unfold cntB
    rw [cntB_span s t k]
    by_cases h : s ≤ k ∧ k < s + t
    · rw [if_pos (by simpa using h)]; omega
    · rw [if_neg (by simpa using h)]; omega
theorem bits_sum : ∀ k x, (bitsF k x).sum = cntB (fun i => x.testBit i) k
  | 0, _ => rfl
  | k + 1, x => by
    show (x % 2 :: bitsF k (x / 2)).sum = _
    rw [List.sum_cons, bits_sum k, show k + 1 = 1 + k by omega, cntB_add]
    have e : cntB (fun i => x.testBit i) 1 = x % 2 := by
      show 0 + (if x.testBit 0 = true then 1 else 0) = x % 2
      rw [Nat.testBit_zero]
      by_cases h : x % 2 = 1
      · rw [decide_eq_true h]; simp; omega
      · rw [decide_eq_false h]; simp; omega
    rw [e]
    congr 1
    exact cntB_congr fun i _ => by rw [show 1 + i = i + 1 by omega, Nat.testBit_succ]
/-- The ones of the first k words. -/
def onesW (W : Nat → Nat) : Nat → Nat
  | 0 => 0
  | k + 1 => onesW W k + (bitsF 64 (W k)).sum
theorem ones_cnt (W : Nat → Nat) : ∀ k, onesW W k = cntB (fun x => (W (x / 64)).testBit (x % 64)) (64 * k)
  | 0 => rfl
  | k + 1 => by
    unfold onesW
    rw [ones_cnt W k, bits_sum, show 64 * (k + 1) = 64 * k + 64 by omega, cntB_add]
    congr 1
    exact cntB_congr fun i hi => by rw [show (64 * k + i) / 64 = k by omega, show (64 * k + i) % 64 = i by omega]
theorem onesW_le (W : Nat → Nat) (k : Nat) : onesW W k ≤ 64 * k := by rw [ones_cnt]; exact cntB_le _ _
theorem bitsF_le (x : Nat) : (bitsF 64 x).sum ≤ 64 := by rw [bits_sum]; exact cntB_le _ _
/-- The columns that the cells of a row take. -/
def usedG : List Ce → Nat → Nat
  | [], _ => 0
  | c :: l, r => (if c.row = r then 2 ^ c.ord else 0) + usedG l r
theorem used_take {l : List Ce} {r : Nat} : ∀ {k : Nat} (h : k < l.length), usedG (l.take (k + 1)) r = usedG (l.take k) r + (if l[k].row = r then 2 ^ l[k].ord else 0) := by
  induction l with
  | nil => intro k h; exact absurd h (Nat.not_lt_zero _)
  | cons c l ih =>
    intro k h
    cases k with
    | zero => simp [usedG]
    | succ k =>
      have := ih (k := k) (by simpa using h)
      rw [List.take_succ_cons, List.take_succ_cons]
      simp only [usedG, List.getElem_cons_succ]
      rw [this]; omega
theorem used_le (l : List Ce) (r k : Nat) : usedG (l.take k) r ≤ usedG l r := by
  induction l generalizing k with
  | nil => simp [usedG]
  | cons c l ih =>
    cases k with
    | zero => simp [usedG]
    | succ k => rw [List.take_succ_cons]; simp only [usedG]; have := ih k; omega
open Classical in
theorem used_cnt {r : Nat} : ∀ {l : List Ce}, l.Pairwise Bef → (∀ c ∈ l, c.en ≤ 1024) → cntB (fun x => decide (Cov l r x)) 1024 = usedG l r
  | [], _, _ => cntB_zero fun x _ => decide_eq_false fun ⟨c, hc, _⟩ => absurd hc List.not_mem_nil
  | c :: l, h1, h2 => by
    rw [List.pairwise_cons] at h1
    have ih := used_cnt (r := r) h1.2 (fun d hd => h2 d (List.mem_cons_of_mem _ hd))
    unfold usedG
    rw [← ih]
    by_cases hr : c.row = r
    · rw [if_pos hr]
      have hs : cntB (fun x => decide (c.st ≤ x ∧ x < c.st + 2 ^ c.ord)) 1024 = 2 ^ c.ord := by
        rw [cntB_span]
        have := h2 c List.mem_cons_self
        have h3 := Nat.two_pow_pos c.ord
        unfold Ce.en at this
        unfold Ce.st Ce.ord at *
        omega
      rw [← hs]
      refine cntB_or (fun x _ => ?_) fun x _ => ?_
      · simp only [decide_eq_true_eq]
        constructor
        · rintro ⟨d, hd, q1, q2⟩
          rcases List.mem_cons.1 hd with rfl | hd
          · exact .inl q2
          · exact .inr ⟨d, hd, q1, q2⟩
        · rintro (h | ⟨d, hd, q1, q2⟩)
          · exact ⟨c, List.mem_cons_self, hr, h⟩
          · exact ⟨d, List.mem_cons_of_mem _ hd, q1, q2⟩
      · simp only [decide_eq_true_eq]
        rintro ⟨⟨q1, q2⟩, d, hd, q3, q4, q5⟩
        rcases h1.1 d hd with h | ⟨_, h⟩
        · omega
        · unfold Ce.en at h
          unfold Ce.st Ce.ord at *
          omega
    · rw [if_neg hr, Nat.zero_add]
      refine cntB_congr fun x _ => ?_
      have : Cov (c :: l) r x ↔ Cov l r x := by
        constructor
        · rintro ⟨d, hd, q1, q2⟩
          rcases List.mem_cons.1 hd with rfl | hd
          · exact absurd q1 hr
          · exact ⟨d, hd, q1, q2⟩
        · rintro ⟨d, hd, q1, q2⟩
          exact ⟨d, List.mem_cons_of_mem _ hd, q1, q2⟩
      rw [decide_eq_decide]; exact this
theorem OkG.en1024 {n : Nat} {l : List Ce} (h : OkG n l) : ∀ c ∈ l, c.en ≤ 1024 := fun c hc => by
  have h1 := (h.ce c hc).en
  have h2 : 2 ^ n ≤ 2 ^ 10 := Nat.pow_le_pow_right (by omega) h.n10
  omega
open Classical in
theorem used_bound {n r : Nat} {l : List Ce} (h : OkG n l) : usedG l r ≤ 2 ^ n := by
  have h2 : 2 ^ n ≤ 2 ^ 10 := Nat.pow_le_pow_right (by omega) h.n10
  rw [← used_cnt h.srt h.en1024, cntB_stop (m := 2 ^ n) (by omega) fun x hx _ => decide_eq_false ?_]
  · exact cntB_le _ _
  · rintro ⟨c, hc, _, _, h4⟩
    have := (h.ce c hc).en
    unfold Ce.en at this
    unfold Ce.st Ce.ord at h4
    omega
open Classical in
/-- The words of a row have as many ones as its cells take columns. -/
theorem ones_used {n r : Nat} {l : List Ce} {W : Nat → Nat} (h : OkG n l) (hW : Words W (Cov l r)) : onesW W 16 = usedG l r := by
  rw [ones_cnt, ← used_cnt h.srt h.en1024]
  refine cntB_congr fun x hx => ?_
  have := hW.bit (x / 64) (x % 64) (by omega) (by omega)
  rw [show 64 * (x / 64) + x % 64 = x by omega] at this
  by_cases hc : Cov l r x
  · rw [decide_eq_true hc]; exact this.2 hc
  · rw [decide_eq_false hc]
    cases hb : (W (x / 64)).testBit (x % 64) with
    | false => rfl
    | true => exact absurd (this.1 hb) hc
end

section
open Go Go.RowKit Go.Lib
theorem ofInt_i64 (a : Nat) (ha : a < 2 ^ 63) : (BitVec.ofInt 64 (a : Int)).toNat = a := ofInt_u64 a (by omega)
theorem i64_low7 (a : Nat) (ha : a < 9223372036854775808) : bits .and .i64 (a : Int) 127 = ((a % 128 : Nat) : Int) := by
  show IntKind.i64.wrap ((BitVec.ofInt 64 (a : Int) &&& BitVec.ofInt 64 ((127 : Nat) : Int)).toNat : Int) = _
  rw [BitVec.toNat_and, ofInt_i64 a (by omega), ofInt_i64 127 (by omega), show (127 : Nat) = 2 ^ 7 - 1 from rfl, Nat.and_two_pow_sub_one_eq_mod, IntKind.wrap_i64]
  omega
/-- The numbers that OnesCount64 goes through. -/
structure OnesIn (x : Int) (s A1 B1 B2 X1 A2 C1 C2 X2 A3 S3 X3 D3 Y DY Z DZ U : Int) : Prop where
  p1 : x / 2 = A1
  b1 : bits .and .u64 A1 6148914691236517205 = B1
  b2 : bits .and .u64 x 6148914691236517205 = B2
  s1 : IntKind.u64.wrap (B1 + B2) = X1
  p2 : X1 / 4 = A2
  c1 : bits .and .u64 A2 3689348814741910323 = C1
  c2 : bits .and .u64 X1 3689348814741910323 = C2
  s2 : IntKind.u64.wrap (C1 + C2) = X2
  p3 : X2 / 16 = A3
  s3 : IntKind.u64.wrap (A3 + X2) = S3
  a3 : bits .and .u64 S3 1085102592571150095 = X3
  p4 : X3 / 256 = D3
  s4 : IntKind.u64.wrap (X3 + D3) = Y
  p5 : Y / 65536 = DY
  s5 : IntKind.u64.wrap (Y + DY) = Z
  p6 : Z / 4294967296 = DZ
  s6 : IntKind.u64.wrap (Z + DZ) = U
  cv : wrap64 U = U
  fin : bits .and .i64 U 127 = s
theorem ones_in (x : Nat) (hx : x < 2 ^ 64) : ∃ A1 B1 B2 X1 A2 C1 C2 X2 A3 S3 X3 D3 Y DY Z DZ U : Int, OnesIn (x : Int) ((bitsF 64 x).sum : Nat) A1 B1 B2 X1 A2 C1 C2 X2 A3 S3 X3 D3 Y DY Z DZ U := by
  obtain ⟨a1, ha1⟩ : ∃ a, a = x >>> 1 := ⟨_, rfl⟩
  obtain ⟨x1, h1⟩ : ∃ a, a = (a1 &&& 6148914691236517205) + (x &&& 6148914691236517205) := ⟨_, rfl⟩
  obtain ⟨a2, ha2⟩ : ∃ a, a = x1 >>> 2 := ⟨_, rfl⟩
  obtain ⟨x2, h2⟩ : ∃ a, a = (a2 &&& 3689348814741910323) + (x1 &&& 3689348814741910323) := ⟨_, rfl⟩
  obtain ⟨a3, ha3⟩ : ∃ a, a = x2 >>> 4 := ⟨_, rfl⟩
  obtain ⟨x3, h3⟩ : ∃ a, a = (a3 + x2) &&& 1085102592571150095 := ⟨_, rfl⟩
  obtain ⟨y, hy⟩ : ∃ a, a = x3 + x3 / 256 := ⟨_, rfl⟩
  obtain ⟨z, hz⟩ : ∃ a, a = y + y / 65536 := ⟨_, rfl⟩
  obtain ⟨u, hu⟩ : ∃ a, a = z + z / 4294967296 := ⟨_, rfl⟩
  have e := ones_all (x1 := x1) (x2 := x2) (x3 := x3) hx (by rw [h1, ha1]) (by rw [h2, ha2]) (by rw [h3, ha3]) hy hz hu
  obtain ⟨e1, e2, e3, e4⟩ := e
  have g1 : x / 2 = a1 := by rw [ha1, Nat.shiftRight_eq_div_pow]
  have g2 : x1 / 4 = a2 := by rw [ha2, Nat.shiftRight_eq_div_pow]
  have g3 : x2 / 16 = a3 := by rw [ha3, Nat.shiftRight_eq_div_pow]
  have q1 : a1 &&& 6148914691236517205 ≤ 6148914691236517205 := Nat.and_le_right
  have q2 : x &&& 6148914691236517205 ≤ 6148914691236517205 := Nat.and_le_right
  have q3 : a2 &&& 3689348814741910323 ≤ 3689348814741910323 := Nat.and_le_right
  have q4 : x1 &&& 3689348814741910323 ≤ 3689348814741910323 := Nat.and_le_right
  have q5 : x3 ≤ 1085102592571150095 := by rw [h3]; exact Nat.and_le_right
  have l1 : x1 < 18446744073709551616 := by omega
  have l2 : x2 < 9223372036854775808 := by omega
  have hx' : x < 18446744073709551616 := hx
  refine ⟨(a1 : Nat), ((a1 &&& 6148914691236517205 : Nat) : Int), ((x &&& 6148914691236517205 : Nat) : Int), (x1 : Nat), (a2 : Nat), ((a2 &&& 3689348814741910323 : Nat) : Int), ((x1 &&& 3689348814741910323 : Nat) : Int), (x2 : Nat), (a3 : Nat), ((a3 + x2 : Nat) : Int), (x3 : Nat), ((x3 / 256 : Nat) : Int), (y : Nat), ((y / 65536 : Nat) : Int), (z : Nat), ((z / 4294967296 : Nat) : Int), (u : Nat), ?_⟩
  have f1 : a3 + x2 < 18446744073709551616 := by omega
  have F11 : bits .and .u64 ((a3 + x2 : Nat) : Int) ((1085102592571150095 : Nat) : Int) = (x3 : Int) := by rw [h3]; exact u64_and (a3 + x2) 1085102592571150095 (by omega) (by omega)
  have F13 : IntKind.u64.wrap ((x3 : Int) + ((x3 / 256 : Nat) : Int)) = (y : Int) := by clear h1 h2 h3 hz hu e1 q1 q2 q3 q4; rw [IntKind.wrap_u64]; omega
  have F15 : IntKind.u64.wrap ((y : Int) + ((y / 65536 : Nat) : Int)) = (z : Int) := by clear h1 h2 h3 hy hu e1 q1 q2 q3 q4 F13; rw [IntKind.wrap_u64]; omega
  have F17 : IntKind.u64.wrap ((z : Int) + ((z / 4294967296 : Nat) : Int)) = (u : Int) := by clear h1 h2 h3 hy hz e1 q1 q2 q3 q4 F13 F15; rw [IntKind.wrap_u64]; omega
  have F18 : wrap64 (u : Int) = (u : Int) := by clear h1 h2 h3 hy hz hu e1 q1 q2 q3 q4 F13 F15 F17; unfold wrap64; omega
  have F19 := i64_low7 u e2
  rw [e1] at F19
  clear h3 hy hz hu e1 ha1 ha2 ha3
  constructor
  · omega
  · exact u64_and a1 6148914691236517205 (by omega) (by omega)
  · exact u64_and x 6148914691236517205 (by omega) (by omega)
  · clear F11 F13 F15 F17 F18 F19; rw [IntKind.wrap_u64]; omega
  · omega
  · exact u64_and a2 3689348814741910323 (by omega) (by omega)
  · exact u64_and x1 3689348814741910323 (by omega) (by omega)
  · clear F11 F13 F15 F17 F18 F19; rw [IntKind.wrap_u64]; omega
  · omega
  · clear F11 F13 F15 F17 F18 F19; rw [IntKind.wrap_u64]; omega
  · exact F11
  · exact (Int.natCast_ediv _ _).symm
  · exact F13
  · exact (Int.natCast_ediv _ _).symm
  · exact F15
  · exact (Int.natCast_ediv _ _).symm
  · exact F17
  · exact F18
  · exact F19
set_option maxRecDepth 100000 in
set_option maxHeartbeats 1000000 in
theorem ones_any (x : Nat) (hx : x < 2 ^ 64) (w : World) :
    Calls Try.prog 51 #[.int .u64 (x : Nat)] w fun e w' => e = .returned (.int .i64 ((bitsF 64 x).sum : Nat)) ∧ w' = w := by
  obtain ⟨A1, B1, B2, X1, A2, C1, C2, X2, A3, S3, X3, D3, Y, DY, Z, DZ, U, hi⟩ := ones_in x hx
  have HI := Lib.hid hi
  clear hi
  obtain ⟨s, hs⟩ : ∃ s : Int, s = ((bitsF 64 x).sum : Nat) := ⟨_, rfl⟩
  rw [← hs] at HI ⊢
  clear hs hx
  go_enter Try.func51, Try.ntmps51
  go_wp2_with fail
  simp only [HI.out.p1, HI.out.b1, HI.out.b2, HI.out.s1, HI.out.p2, HI.out.c1, HI.out.c2, HI.out.s2, HI.out.p3, HI.out.s3, HI.out.a3, HI.out.p4, HI.out.s4, HI.out.p5, HI.out.s5, HI.out.p6, HI.out.s6, HI.out.cv, HI.out.fin]
  go_ret
  exact ⟨rfl, rfl⟩
/-- How many columns of a row are taken. -/
theorem count_any (b off : Nat) (T : TypeId) (cs : Array Value) (W : Nat → Nat) (w : World) (hc : ColB w b off T cs W) (hlt : ∀ j, j < 16 → W j < 2 ^ 64) :
    Calls Try.prog 39 #[.pointer (some ⟨b, off, none⟩)] w fun e w' => e = .returned (.int .i64 (onesW W 16 : Nat)) ∧ Below w.heap.size w w' := by
  have ON : Hid (∀ j, j < 16 → ∀ w1, Calls Try.prog 51 #[.int .u64 (W j : Nat)] w1 fun e w' => e = .returned (.int .i64 ((bitsF 64 (W j)).sum : Nat)) ∧ w' = w1) := fun j hj w1 => ones_any (W j) (hlt j hj) w1
  have HC := Lib.hid hc
  clear hc hlt
  go_enter Try.func39, Try.ntmps39
  go_wp2_with fail
  go_loopw [7, 3] (fun iv nv wr => ∃ k n : Nat, k ≤ 16 ∧ iv = .int .i64 k ∧ nv = .int .i64 n ∧ n ≤ 64 * k ∧ Hid (n = onesW W k) ∧ Hid (Below w.heap.size w wr)) (fun iv _ _ => 16 - (RowKit.intOf iv).toNat)
  case atStart => exact ⟨0, 0, Nat.zero_le _, rfl, rfl, Nat.le_refl _, rfl, Below.refl _ _⟩
  case round =>
    obtain ⟨k, n, hk, rfl, rfl, hn, HN, HBr⟩ := hrel
    by_cases hlt : k < 16
    · have hd : decide ((k : Int) < 16) = true := decide_eq_true (by omega)
      have hd' : decide (k < 16) = true := decide_eq_true hlt
      have c0 := (HC.out.kept HBr.out).cell (j := k) hlt
      have OK := Lib.hid (ON.out k hlt)
      obtain ⟨s, hs⟩ : ∃ s, s = (bitsF 64 (W k)).sum := ⟨_, rfl⟩
      have hs64 : s ≤ 64 := by rw [hs]; exact bitsF_le _
      rw [← hs] at OK
      have HN2 : Hid (n + s = onesW W (k + 1)) := by unfold Hid onesW; rw [hs, HN.out]
      obtain ⟨x, hx⟩ : ∃ x, x = W k := ⟨_, rfl⟩
      rw [← hx] at c0 OK
      clear hs hx HN
      go_wp2_with fail
      refine (OK.out _).mono ?_; rintro e w1 ⟨rfl, hw⟩
      subst hw
      go_wp2_with fail
      go_roundw
      case rel => exact ⟨k + 1, n + s, hlt, by go_num, by go_num, by omega, HN2, HBr⟩
      case measure => simp [RowKit.intOf]; omega
    · have hd : decide ((k : Int) < 16) = false := decide_eq_false (by omega)
      have hd' : decide (k < 16) = false := decide_eq_false hlt
      have HN2 : Hid (n = onesW W 16) := by unfold Hid; rw [HN.out, show k = 16 by omega]
      go_wp2_with fail
      go_ret
      exact ⟨by rw [← HN2.out]; rfl, HBr.out⟩
/-- What Idle answers. -/
def idleG (n : Nat) (l : List Ce) (row : Int) : Int := if row < 0 then 0 else if 16 ≤ row then ((2 ^ n : Nat) : Int) else ((2 ^ n : Nat) : Int) - ((usedG l row.toNat : Nat) : Int)
set_option maxRecDepth 100000 in
set_option maxHeartbeats 1000000 in
theorem idle_any (m n a : Nat) (own : Nat → Prop) (l : List Ce) (row : Int) (w : World) (h : GN w m own n a l) :
    Calls Try.prog 20 #[.pointer (some ⟨m, 0, none⟩), .int .i64 row] w fun e w' => e = .returned (.int .i64 (idleG n l row)) ∧ Below w.heap.size w w' := by
  have hOK := h.ok
  have hn10 := hOK.n10
  obtain ⟨v, W, hI, hW, hO⟩ := h
  have c0 := hI.gb.c0
  obtain ⟨Y, hY⟩ : ∃ Y, Y = 2 ^ n := ⟨_, rfl⟩
  have hY2 : Y ≤ 1024 := by rw [hY]; have := Nat.pow_le_pow_right (n := 2) (by omega) hn10; simpa using this
  have hYi : IntKind.i64.wrap ((2 : Int) ^ n) = (Y : Int) := by rw [two_i, ← hY, IntKind.wrap_i64]; omega
  by_cases h1 : row < 0
  · have d1 : decide (row < 0) = true := decide_eq_true h1
    have e1 : idleG n l row = 0 := by unfold idleG; rw [if_pos h1]
    rw [e1]
    clear hI hW hO hOK hY e1 h1
    go_enter Try.func20, Try.ntmps20
    go_wp2_with fail
    go_ret
    exact ⟨rfl, Below.refl _ _⟩
  · have d1 : decide (row < 0) = false := decide_eq_false h1
    by_cases h2 : 16 ≤ row
    · have d2 : decide (row ≥ 16) = true := decide_eq_true h2
      have d2' : decide (16 ≤ row) = true := decide_eq_true h2
      have e1 : idleG n l row = (Y : Int) := by unfold idleG; rw [if_neg h1, if_pos h2, hY]
      rw [e1]
      clear hI hW hO hOK hY e1 h1
      go_enter Try.func20, Try.ntmps20
      go_wp2_with fail
      go_ret
      exact ⟨rfl, Below.refl _ _⟩
    · obtain ⟨r, rfl⟩ : ∃ r : Nat, row = (r : Int) := ⟨row.toNat, by omega⟩
      have hr : r < 16 := by omega
      have d2 : decide ((r : Int) ≥ 16) = false := decide_eq_false h2
      have d2' : decide (16 ≤ (r : Int)) = false := decide_eq_false h2
      have d2'' : decide (16 ≤ r) = false := decide_eq_false (by omega)
      have hu := used_bound (r := r) hOK
      have e1 : idleG n l (r : Int) = (Y : Int) - ((usedG l r : Nat) : Int) := by unfold idleG; rw [if_neg h1, if_neg h2, hY]; rfl
      have CT : Hid (∀ wq, Below w.heap.size w wq → Calls Try.prog 39 #[.pointer (some ⟨m, 3 + r * 16, none⟩)] wq fun e w' => e = .returned (.int .i64 (usedG l r : Nat)) ∧ Below wq.heap.size wq w') := fun wq hq => by
        have := count_any m (3 + r * 16) _ _ _ wq ((hI.kept hq).gb.col hr) (hW r hr).lt
        rw [ones_used hOK (hW r hr)] at this
        exact this
      obtain ⟨U, hU⟩ : ∃ U, U = usedG l r := ⟨_, rfl⟩
      rw [← hU] at CT hu e1
      rw [e1]
      rw [← hY] at hu
      clear hI hW hO hOK hY hU e1 h1 h2
      have hri : (r : Int) < 16 := by omega
      go_enter Try.func20, Try.ntmps20
      have hsub : IntKind.i64.wrap ((Y : Int) - (U : Int)) = (Y : Int) - (U : Int) := by rw [IntKind.wrap_i64]; omega
      go_wp2_with fail
      go_region_held3 (fun w' => w'.cell? ⟨m, 0, none⟩ = some (.int .i64 (n : Nat)) ∧ Below w.heap.size w w')
        (first
          | exact ⟨c0, (Below.refl _ _).drew⟩
          | (rcases ‹_ ∧ Below _ _ _› with ⟨g0, g1⟩; exact ⟨cell_next (by assumption) g0, below_next (by assumption) g1⟩))
        (first
          | (go_at_call 39; ((with_reducible refine (CT.out _ (‹_ ∧ Below w.heap.size w _›).2).mono ?_); rintro e w5 ⟨rfl, b5⟩)))
      all_goals (have HB := (‹_ ∧ Below w.heap.size w _›).2)
      all_goals (go_wp2_with fail)
      all_goals go_ret
      all_goals exact ⟨rfl, HB⟩
end

end Go.Proofs.Ytfobapnncjjeiaa
