/-
  Counting ones by fields, plainly. No program is imported.
-/
namespace Go.Proofs.Ytfobapnncjjeiaa
set_option linter.unusedVariables false

theorem and_split {n a b c d : Nat} (ha : a < 2 ^ n) (hc : c < 2 ^ n) : (a + 2 ^ n * b) &&& (c + 2 ^ n * d) = (a &&& c) + 2 ^ n * (b &&& d) := by
  rw [Nat.add_comm a, Nat.add_comm c, Nat.add_comm (a &&& c)]
  apply Nat.eq_of_testBit_eq
  intro j
  rw [Nat.testBit_and, Nat.testBit_two_pow_mul_add _ ha, Nat.testBit_two_pow_mul_add _ hc, Nat.testBit_two_pow_mul_add _ (Nat.and_lt_two_pow _ hc)]
  split <;> simp [Nat.testBit_and]
/-- A number by its fields, the least first. -/
def valF (B : Nat) : List Nat → Nat
  | [] => 0
  | d :: ds => d + B * valF B ds
/-- The fields' sums, two by two. -/
def pairF : List Nat → List Nat
  | a :: b :: ds => (a + b) :: pairF ds
  | [a] => [a]
  | [] => []
def maskF (w : Nat) : Nat → Nat
  | 0 => 0
  | k + 1 => (2 ^ w - 1) + 2 ^ (w + w) * maskF w k
def evenF : List Nat → List Nat
  | a :: _ :: ds => a :: evenF ds
  | [a] => [a]
  | [] => []
theorem and_even (w : Nat) : ∀ (k : Nat) (ds : List Nat), ds.length = k + k → (∀ d ∈ ds, d < 2 ^ w) → valF (2 ^ w) ds &&& maskF w k = valF (2 ^ (w + w)) (evenF ds)
  | 0, ds, hl, _ => by
    obtain rfl : ds = [] := List.eq_nil_of_length_eq_zero (by omega)
    simp [valF, maskF, evenF]
  | k + 1, ds, hl, hd => by
    match ds, hl with
    | [], hl => exact absurd hl (by simp)
    | [_], hl => exact absurd hl (by simp; omega)
    | a :: b :: ds, hl =>
      have ha := hd a (by simp)
      have hb := hd b (by simp)
      have ih := and_even w k ds (by simp at hl; omega) (fun d h => hd d (by simp [h]))
      have hp : (2 : Nat) ^ (w + w) = 2 ^ w * 2 ^ w := Nat.pow_add 2 w w
      have h0 := Nat.two_pow_pos w
      have e1 : valF (2 ^ w) (a :: b :: ds) = (a + 2 ^ w * b) + 2 ^ (w + w) * valF (2 ^ w) ds := by
        simp only [valF]; rw [Nat.mul_add, ← Nat.mul_assoc, ← hp, Nat.add_assoc]
      have h1 : a + 2 ^ w * b < 2 ^ (w + w) := by
        rw [hp]
        calc a + 2 ^ w * b < 2 ^ w + 2 ^ w * b := by omega
          _ = 2 ^ w * (b + 1) := by rw [Nat.mul_add]; omega
          _ ≤ 2 ^ w * 2 ^ w := Nat.mul_le_mul_left _ hb
      have h2 : 2 ^ w - 1 < 2 ^ (w + w) := by
        rw [hp]
        have : 2 ^ w * 1 ≤ 2 ^ w * 2 ^ w := Nat.mul_le_mul_left _ h0
        omega
      rw [e1]
      show _ &&& ((2 ^ w - 1) + 2 ^ (w + w) * maskF w k) = a + 2 ^ (w + w) * valF (2 ^ (w + w)) (evenF ds)
      rw [and_split h1 h2, ih, Nat.and_two_pow_sub_one_eq_mod, Nat.add_mul_mod_self_left, Nat.mod_eq_of_lt ha]
theorem val_snoc (B : Nat) : ∀ ds : List Nat, valF B (ds ++ [0]) = valF B ds
  | [] => by simp [valF]
  | d :: ds => by simp only [List.cons_append, valF]; rw [val_snoc B ds]
theorem val_shift {w d : Nat} {ds : List Nat} (h : d < 2 ^ w) : valF (2 ^ w) (d :: ds) >>> w = valF (2 ^ w) ds := by
  rw [Nat.shiftRight_eq_div_pow]
  show (d + 2 ^ w * valF (2 ^ w) ds) / 2 ^ w = _
  rw [Nat.add_mul_div_left _ _ (Nat.two_pow_pos w), Nat.div_eq_of_lt h, Nat.zero_add]
theorem even_pair (B : Nat) : ∀ (k : Nat) (ds : List Nat), ds.length = k + k → valF B (evenF (ds.tail ++ [0])) + valF B (evenF ds) = valF B (pairF ds)
  | 0, ds, hl => by
    obtain rfl : ds = [] := List.eq_nil_of_length_eq_zero (by omega)
    simp [valF, evenF, pairF]
  | k + 1, ds, hl => by
    match ds, hl with
    | [], hl => exact absurd hl (by simp)
    | [_], hl => exact absurd hl (by simp; omega)
    | [a, b], _ => simp [valF, evenF, pairF]; omega
    | a :: b :: c :: ds, hl =>
      have ih := even_pair B k (c :: ds) (by simp at hl ⊢; omega)
      simp only [List.tail_cons] at ih
      show (b + B * valF B (evenF (ds ++ [0]))) + (a + B * valF B (evenF (c :: ds))) = (a + b) + B * valF B (pairF (c :: ds))
      rw [← ih, Nat.mul_add]; omega
/-- Two fields' sums by two masks: one step of counting. -/
theorem fold_step {w k : Nat} {ds : List Nat} (hl : ds.length = k + k) (hd : ∀ d ∈ ds, d < 2 ^ w) :
    ((valF (2 ^ w) ds >>> w) &&& maskF w k) + (valF (2 ^ w) ds &&& maskF w k) = valF (2 ^ (w + w)) (pairF ds) := by
  have h1 : valF (2 ^ w) ds >>> w = valF (2 ^ w) (ds.tail ++ [0]) := by
    rw [val_snoc]
    match ds, hd with
    | [], _ => simp [valF]
    | d :: ds, hd => exact val_shift (hd d (by simp))
  have h2 : ∀ d ∈ ds.tail ++ [0], d < 2 ^ w := fun d h => by
    rcases List.mem_append.1 h with h | h
    · exact hd d (List.mem_of_mem_tail h)
    · rw [List.mem_singleton.1 h]; exact Nat.two_pow_pos w
  rw [and_even w k ds hl hd]
  by_cases hk : k = 0
  · subst hk
    obtain rfl : ds = [] := List.eq_nil_of_length_eq_zero (by omega)
    simp [maskF, valF, evenF, pairF]
  · rw [h1, and_even w k _ (by simp; omega) h2]
    exact even_pair _ k ds hl
theorem pair_sum : ∀ ds : List Nat, (pairF ds).sum = ds.sum
  | a :: b :: ds => by simp only [pairF, List.sum_cons]; rw [pair_sum ds]; omega
  | [a] => rfl
  | [] => rfl
theorem pair_le {m : Nat} : ∀ ds : List Nat, (∀ d ∈ ds, d ≤ m) → ∀ d ∈ pairF ds, d ≤ m + m
  | a :: b :: ds, h, d, hd => by
    have ha := h a (by simp)
    have hb := h b (by simp)
    rcases List.mem_cons.1 hd with rfl | hd
    · omega
    · exact pair_le ds (fun x hx => h x (by simp [hx])) d hd
  | [a], h, d, hd => by have := h d hd; omega
  | [], h, d, hd => by cases hd
/-- Each field and the next one. -/
def nextF : List Nat → List Nat
  | a :: b :: ds => (a + b) :: nextF (b :: ds)
  | [a] => [a]
  | [] => []
theorem next_val (B : Nat) : ∀ ds : List Nat, valF B ds.tail + valF B ds = valF B (nextF ds)
  | [] => by simp [valF, nextF]
  | [a] => by simp [valF, nextF]
  | a :: b :: ds => by
    have ih := next_val B (b :: ds)
    simp only [List.tail_cons] at ih
    show (b + B * valF B ds) + (a + B * valF B (b :: ds)) = (a + b) + B * valF B (nextF (b :: ds))
    rw [← ih, Nat.mul_add]; omega
theorem next_len : ∀ ds : List Nat, (nextF ds).length = ds.length
  | [] => rfl
  | [a] => rfl
  | a :: b :: ds => by simp only [nextF, List.length_cons]; rw [next_len (b :: ds)]; rfl
theorem next_le {m : Nat} : ∀ ds : List Nat, (∀ d ∈ ds, d ≤ m) → ∀ d ∈ nextF ds, d ≤ m + m
  | a :: b :: ds, h, d, hd => by
    have ha := h a (by simp)
    have hb := h b (by simp)
    rcases List.mem_cons.1 hd with rfl | hd
    · omega
    · exact next_le (b :: ds) (fun x hx => h x (by simp [List.mem_cons.1 hx])) d hd
  | [a], h, d, hd => by have := h d hd; omega
  | [], h, d, hd => by cases hd
theorem even_next : ∀ (k : Nat) (ds : List Nat), ds.length = k + k → evenF (nextF ds) = pairF ds
  | 0, ds, hl => by
    obtain rfl : ds = [] := List.eq_nil_of_length_eq_zero (by omega)
    rfl
  | k + 1, ds, hl => by
    match ds, hl with
    | [], hl => exact absurd hl (by simp)
    | [_], hl => exact absurd hl (by simp; omega)
    | [a, b], _ => rfl
    | a :: b :: c :: ds, hl =>
      have ih := even_next k (c :: ds) (by simp at hl ⊢; omega)
      show (a + b) :: evenF (nextF (c :: ds)) = (a + b) :: pairF (c :: ds)
      rw [ih]
/-- Sums first, then the mask: where no field overflows. -/
theorem add_step {w k m : Nat} {ds : List Nat} (hl : ds.length = k + k) (hd : ∀ d ∈ ds, d ≤ m) (hm : m + m < 2 ^ w) :
    ((valF (2 ^ w) ds >>> w) + valF (2 ^ w) ds) &&& maskF w k = valF (2 ^ (w + w)) (pairF ds) := by
  have h1 : valF (2 ^ w) ds >>> w = valF (2 ^ w) ds.tail := by
    match ds, hd with
    | [], _ => simp [valF]
    | d :: ds, hd => exact val_shift (by have := hd d (by simp); omega)
  rw [h1, next_val, and_even w k _ (by rw [next_len]; exact hl) (fun d h => by have := next_le ds hd d h; omega), even_next k ds hl]
theorem div_of {x lo hi B : Nat} (h : x = lo + B * hi) (hl : lo < B) : x / B = hi := by
  rw [h, Nat.add_mul_div_left _ _ (by omega), Nat.div_eq_of_lt hl, Nat.zero_add]
theorem ones_last {a b c d e f g h : Nat} (ha : a ≤ 8) (hb : b ≤ 8) (hc : c ≤ 8) (hd : d ≤ 8) (he : e ≤ 8) (hf : f ≤ 8) (hg : g ≤ 8) (hh : h ≤ 8) {x y z u : Nat}
    (hx : x = a + 256 * (b + 256 * (c + 256 * (d + 256 * (e + 256 * (f + 256 * (g + 256 * h))))))) (hy : y = x + x / 256) (hz : z = y + y / 65536) (hu : u = z + z / 4294967296) :
    u % 128 = a + b + c + d + e + f + g + h ∧ u < 9223372036854775808 ∧ y < 18446744073709551616 ∧ z < 18446744073709551616 := by
  have h1 : x / 256 = b + 256 * (c + 256 * (d + 256 * (e + 256 * (f + 256 * (g + 256 * h))))) := div_of hx (by omega)
  rw [h1, hx] at hy
  have h3 : y / 65536 = (c + d) + 256 * ((d + e) + 256 * ((e + f) + 256 * ((f + g) + 256 * ((g + h) + 256 * h)))) := div_of (lo := (a + b) + 256 * (b + c)) (by rw [hy]; clear hz hu hx h1 hy; omega) (by omega)
  rw [h3, hy] at hz
  have h5 : z / 4294967296 = (e + f + g + h) + 256 * ((f + g + h) + 256 * ((g + h) + 256 * h)) := div_of (lo := (a + b + c + d) + 256 * ((b + c + d + e) + 256 * ((c + d + e + f) + 256 * (d + e + f + g)))) (by rw [hz]; clear hz hu hx h1 hy h3; omega) (by clear hz hu hx h1 hy h3; omega)
  rw [h5, hz] at hu
  clear h1 h3 h5 hx
  have h6 : u = (a + b + c + d + e + f + g + h) + 128 * (2 * ((b + c + d + e + f + g + h) + 256 * ((c + d + e + f + g + h) + 256 * ((d + e + f + g + h) + 256 * ((e + f + g + h) + 256 * ((f + g + h) + 256 * ((g + h) + 256 * h))))))) := by rw [hu]; clear hy hz hu; omega
  refine ⟨?_, ?_, ?_, ?_⟩
  · rw [h6, Nat.add_mul_mod_self_left, Nat.mod_eq_of_lt (by clear hy hz hu h6; omega)]
  · rw [h6]; clear hy hz hu h6; omega
  · rw [hy]; clear hy hz hu h6; omega
  · rw [hz]; clear hy hz hu h6; omega
def bitsF : Nat → Nat → List Nat
  | 0, _ => []
  | k + 1, x => x % 2 :: bitsF k (x / 2)
theorem bits_len : ∀ k x, (bitsF k x).length = k
  | 0, _ => rfl
  | k + 1, x => by simp only [bitsF, List.length_cons]; rw [bits_len k]
theorem bits_le : ∀ k x, ∀ d ∈ bitsF k x, d ≤ 1
  | 0, _, d, h => by cases h
  | k + 1, x, d, h => by
    rcases List.mem_cons.1 h with rfl | h
    · omega
    · exact bits_le k _ d h
theorem bits_val : ∀ k x, x < 2 ^ k → valF 2 (bitsF k x) = x
  | 0, x, h => by have : x = 0 := by simpa using h
                  subst this; rfl
  | k + 1, x, h => by
    show x % 2 + 2 * valF 2 (bitsF k (x / 2)) = x
    rw [bits_val k (x / 2) (by rw [Nat.pow_succ] at h; omega)]
    omega
theorem pair_len : ∀ (k : Nat) (ds : List Nat), ds.length = k + k → (pairF ds).length = k
  | 0, ds, hl => by
    obtain rfl : ds = [] := List.eq_nil_of_length_eq_zero (by omega)
    rfl
  | k + 1, ds, hl => by
    match ds, hl with
    | [], hl => exact absurd hl (by simp)
    | [_], hl => exact absurd hl (by simp; omega)
    | a :: b :: ds, hl =>
      simp only [pairF, List.length_cons]
      rw [pair_len k ds (by simp at hl; omega)]
theorem mask0 : maskF 1 32 = 6148914691236517205 := by decide +kernel
theorem mask1 : maskF 2 16 = 3689348814741910323 := by decide +kernel
theorem mask2 : maskF 4 8 = 1085102592571150095 := by decide +kernel
theorem list8 : ∀ q : List Nat, q.length = 8 → ∃ a b c d e f g h, q = [a, b, c, d, e, f, g, h] := by
  intro q hl
  rcases q with _ | ⟨a, q⟩; · simp at hl
  rcases q with _ | ⟨b, q⟩; · simp at hl
  rcases q with _ | ⟨c, q⟩; · simp at hl
  rcases q with _ | ⟨d, q⟩; · simp at hl
  rcases q with _ | ⟨e, q⟩; · simp at hl
  rcases q with _ | ⟨f, q⟩; · simp at hl
  rcases q with _ | ⟨g, q⟩; · simp at hl
  rcases q with _ | ⟨h, q⟩; · simp at hl
  rcases q with _ | ⟨i, q⟩
  · exact ⟨a, b, c, d, e, f, g, h, rfl⟩
  · simp at hl
theorem val8 (a b c d e f g h : Nat) : valF (2 ^ (4 + 4)) [a, b, c, d, e, f, g, h] = a + 256 * (b + 256 * (c + 256 * (d + 256 * (e + 256 * (f + 256 * (g + 256 * h)))))) := by
  simp only [valF, Nat.mul_zero, Nat.add_zero]
theorem ones_end {q : List Nat} {x3 y z u : Nat} (e3 : x3 = valF (2 ^ (4 + 4)) q) (l3 : q.length = 8) (m3 : ∀ d ∈ q, d ≤ 2 + 2 + (2 + 2)) (hy : y = x3 + x3 / 256) (hz : z = y + y / 65536) (hu : u = z + z / 4294967296) :
    u % 128 = q.sum ∧ u < 9223372036854775808 ∧ y < 18446744073709551616 ∧ z < 18446744073709551616 := by
  obtain ⟨a, b, c, d, e, f, g, h, rfl⟩ := list8 q l3
  rw [val8] at e3
  have hh := ones_last (m3 a (by simp)) (m3 b (by simp)) (m3 c (by simp)) (m3 d (by simp)) (m3 e (by simp)) (m3 f (by simp)) (m3 g (by simp)) (m3 h (by simp)) e3 hy hz hu
  refine ⟨?_, hh.2⟩
  rw [hh.1]
  simp only [List.sum_cons, List.sum_nil]
  clear hh e3 hy hz hu m3
  omega
/-- The seven lines of OnesCount64, in numbers. -/
theorem ones_all {x x1 x2 x3 y z u : Nat} (hx : x < 2 ^ 64) (h1 : x1 = ((x >>> 1) &&& 6148914691236517205) + (x &&& 6148914691236517205)) (h2 : x2 = ((x1 >>> 2) &&& 3689348814741910323) + (x1 &&& 3689348814741910323))
    (h3 : x3 = ((x2 >>> 4) + x2) &&& 1085102592571150095) (hy : y = x3 + x3 / 256) (hz : z = y + y / 65536) (hu : u = z + z / 4294967296) :
    u % 128 = (bitsF 64 x).sum ∧ u < 9223372036854775808 ∧ y < 18446744073709551616 ∧ z < 18446744073709551616 := by
  obtain ⟨b, hb⟩ : ∃ b, b = bitsF 64 x := ⟨_, rfl⟩
  have lb : b.length = 64 := by rw [hb, bits_len]
  have mb : ∀ d ∈ b, d ≤ 1 := by rw [hb]; exact bits_le 64 x
  have vb : valF (2 ^ 1) b = x := by rw [hb]; exact bits_val 64 x hx
  have e1 : x1 = valF (2 ^ (1 + 1)) (pairF b) := by
    rw [h1, ← mask0, ← vb]
    exact fold_step (k := 32) (by rw [lb]) (fun d h => by have := mb d h; omega)
  have l1 := pair_len 32 b (by rw [lb])
  have m1 := pair_le b mb
  have e2 : x2 = valF (2 ^ (2 + 2)) (pairF (pairF b)) := by
    rw [h2, ← mask1, e1]
    exact fold_step (w := 2) (k := 16) (by rw [l1]) (fun d h => by have := m1 d h; omega)
  have l2 := pair_len 16 (pairF b) (by rw [l1])
  have m2 := pair_le _ m1
  have e3 : x3 = valF (2 ^ (4 + 4)) (pairF (pairF (pairF b))) := by
    rw [h3, ← mask2, e2]
    exact add_step (w := 4) (k := 8) (m := 4) (by rw [l2]) m2 (by decide)
  have l3 := pair_len 8 (pairF (pairF b)) (by rw [l2])
  have m3 := pair_le _ m2
  have hs : (pairF (pairF (pairF b))).sum = b.sum := by rw [pair_sum, pair_sum, pair_sum]
  rw [← hb, ← hs]
  obtain ⟨q, hq⟩ : ∃ q, q = pairF (pairF (pairF b)) := ⟨_, rfl⟩
  rw [← hq] at e3 l3 m3 ⊢
  clear hq
  exact ones_end (by rw [e3]) l3 m3 hy hz hu
end Go.Proofs.Ytfobapnncjjeiaa
