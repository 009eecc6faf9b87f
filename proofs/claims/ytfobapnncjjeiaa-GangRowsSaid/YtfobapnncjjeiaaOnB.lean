/-
  How many columns of a row are covered, plainly. No program is imported.
-/
import Derived.Test.YtfobapnncjjeiaaOnA
import Derived.Test.YtfobapnncjjeiaaGaP
import Derived.Test.YtfobapnncjjeiaaGaB
namespace Go.Proofs.Ytfobapnncjjeiaa
set_option linter.unusedVariables false

/-- How many of the first k say so. -/
def cntB (f : Nat → Bool) : Nat → Nat
  | 0 => 0
  | k + 1 => cntB f k + (if f k = true then 1 else 0)
theorem cntB_congr {f g : Nat → Bool} : ∀ {k : Nat}, (∀ x, x < k → f x = g x) → cntB f k = cntB g k
  | 0, _ => rfl
  | k + 1, h => by
    unfold cntB
    rw [cntB_congr (fun x hx => h x (by omega)), h k (by omega)]
theorem cntB_add (f : Nat → Bool) (a : Nat) : ∀ b, cntB f (a + b) = cntB f a + cntB (fun i => f (a + i)) b
  | 0 => rfl
  | b + 1 => by
    show cntB f (a + b) + (if f (a + b) = true then 1 else 0) = cntB f a + (cntB (fun i => f (a + i)) b + (if f (a + b) = true then 1 else 0))
    rw [cntB_add f a b]; omega
theorem cntB_or {f g h : Nat → Bool} : ∀ {k : Nat}, (∀ x, x < k → (h x = true ↔ f x = true ∨ g x = true)) → (∀ x, x < k → ¬ (f x = true ∧ g x = true)) → cntB h k = cntB f k + cntB g k
  | 0, _, _ => rfl
  | k + 1, h1, h2 => by
    unfold cntB
    rw [cntB_or (fun x hx => h1 x (by omega)) (fun x hx => h2 x (by omega))]
    have a := h1 k (by omega)
    have b := h2 k (by omega)
    by_cases hf : f k = true
    · have hg : ¬ g k = true := fun hg => b ⟨hf, hg⟩
      rw [if_pos (a.2 (.inl hf)), if_pos hf, if_neg hg]; omega
    · by_cases hg : g k = true
      · rw [if_pos (a.2 (.inr hg)), if_neg hf, if_pos hg]; omega
      · rw [if_neg (fun h => (a.1 h).elim hf hg), if_neg hf, if_neg hg]
        omega
theorem cntB_zero {f : Nat → Bool} : ∀ {k : Nat}, (∀ x, x < k → f x = false) → cntB f k = 0
  | 0, _ => rfl
  | k + 1, h => by unfold cntB; rw [cntB_zero (fun x hx => h x (by omega)), h k (by omega)]; rfl
theorem cntB_le (f : Nat → Bool) : ∀ k, cntB f k ≤ k
  | 0 => Nat.le_refl _
  | k + 1 => by unfold cntB; have := cntB_le f k; split <;> omega
theorem cntB_stop {f : Nat → Bool} {m k : Nat} (hm : m ≤ k) (h : ∀ x, m ≤ x → x < k → f x = false) : cntB f k = cntB f m := by
  obtain ⟨d, rfl⟩ : ∃ d, k = m + d := ⟨k - m, by omega⟩
  rw [cntB_add, cntB_zero (f := fun i => f (m + i)) (fun x hx => h (m + x) (by omega) (by omega)), Nat.add_zero]
theorem cntB_span (s t : Nat) : ∀ k, cntB (fun x => decide (s ≤ x ∧ x < s + t)) k = min k (s + t) - min k s
  | 0 => by simp [cntB]
  | k + 1 => by
    unfold cntB
    rw [cntB_span s t k]
    by_cases h : s ≤ k ∧ k < s + t
    · rw [if_pos (by simpa using h)]; omega
    · rw [if_neg (by simpa using h)]; omega
theorem bits_sum : ∀ k x, (bitsF k x).sum = cntB (fun i => x.testBit i) k
  | 0, _ => rfl
  | k + 1, x => by
    show (x % 2 :: bitsF k (x / 2)).sum = _
    rw [List.sum_cons, bits_sum k, show k + 1 = 1 + k by omega, cntB_add]
    have e : cntB (fun i => x.testBit i) 1 = x % 2 := by
      show 0 + (if x.testBit 0 = true then 1 else 0) = x % 2
      rw [Nat.testBit_zero]
      by_cases h : x % 2 = 1
      · rw [decide_eq_true h]; simp; omega
      · rw [decide_eq_false h]; simp; omega
    rw [e]
    congr 1
    exact cntB_congr fun i _ => by rw [show 1 + i = i + 1 by omega, Nat.testBit_succ]
/-- The ones of the first k words. -/
def onesW (W : Nat → Nat) : Nat → Nat
  | 0 => 0
  | k + 1 => onesW W k + (bitsF 64 (W k)).sum
theorem ones_cnt (W : Nat → Nat) : ∀ k, onesW W k = cntB (fun x => (W (x / 64)).testBit (x % 64)) (64 * k)
  | 0 => rfl
  | k + 1 => by
    unfold onesW
    rw [ones_cnt W k, bits_sum, show 64 * (k + 1) = 64 * k + 64 by omega, cntB_add]
    congr 1
    exact cntB_congr fun i hi => by rw [show (64 * k + i) / 64 = k by omega, show (64 * k + i) % 64 = i by omega]
theorem onesW_le (W : Nat → Nat) (k : Nat) : onesW W k ≤ 64 * k := by rw [ones_cnt]; exact cntB_le _ _
theorem bitsF_le (x : Nat) : (bitsF 64 x).sum ≤ 64 := by rw [bits_sum]; exact cntB_le _ _
/-- The columns that the cells of a row take. -/
def usedG : List Ce → Nat → Nat
  | [], _ => 0
  | c :: l, r => (if c.row = r then 2 ^ c.ord else 0) + usedG l r
theorem used_take {l : List Ce} {r : Nat} : ∀ {k : Nat} (h : k < l.length), usedG (l.take (k + 1)) r = usedG (l.take k) r + (if l[k].row = r then 2 ^ l[k].ord else 0) := by
  induction l with
  | nil => intro k h; exact absurd h (Nat.not_lt_zero _)
  | cons c l ih =>
    intro k h
    cases k with
    | zero => simp [usedG]
    | succ k =>
      have := ih (k := k) (by simpa using h)
      rw [List.take_succ_cons, List.take_succ_cons]
      simp only [usedG, List.getElem_cons_succ]
      rw [this]; omega
theorem used_le (l : List Ce) (r k : Nat) : usedG (l.take k) r ≤ usedG l r := by
  induction l generalizing k with
  | nil => simp [usedG]
  | cons c l ih =>
    cases k with
    | zero => simp [usedG]
    | succ k => rw [List.take_succ_cons]; simp only [usedG]; have := ih k; omega
open Classical in
theorem used_cnt {r : Nat} : ∀ {l : List Ce}, l.Pairwise Bef → (∀ c ∈ l, c.en ≤ 1024) → cntB (fun x => decide (Cov l r x)) 1024 = usedG l r
  | [], _, _ => cntB_zero fun x _ => decide_eq_false fun ⟨c, hc, _⟩ => absurd hc List.not_mem_nil
  | c :: l, h1, h2 => by
    rw [List.pairwise_cons] at h1
    have ih := used_cnt (r := r) h1.2 (fun d hd => h2 d (List.mem_cons_of_mem _ hd))
    unfold usedG
    rw [← ih]
    by_cases hr : c.row = r
    · rw [if_pos hr]
      have hs : cntB (fun x => decide (c.st ≤ x ∧ x < c.st + 2 ^ c.ord)) 1024 = 2 ^ c.ord := by
        rw [cntB_span]
        have := h2 c List.mem_cons_self
        have h3 := Nat.two_pow_pos c.ord
        unfold Ce.en at this
        unfold Ce.st Ce.ord at *
        omega
      rw [← hs]
      refine cntB_or (fun x _ => ?_) fun x _ => ?_
      · simp only [decide_eq_true_eq]
        constructor
        · rintro ⟨d, hd, q1, q2⟩
          rcases List.mem_cons.1 hd with rfl | hd
          · exact .inl q2
          · exact .inr ⟨d, hd, q1, q2⟩
        · rintro (h | ⟨d, hd, q1, q2⟩)
          · exact ⟨c, List.mem_cons_self, hr, h⟩
          · exact ⟨d, List.mem_cons_of_mem _ hd, q1, q2⟩
      · simp only [decide_eq_true_eq]
        rintro ⟨⟨q1, q2⟩, d, hd, q3, q4, q5⟩
        rcases h1.1 d hd with h | ⟨_, h⟩
        · omega
        · unfold Ce.en at h
          unfold Ce.st Ce.ord at *
          omega
    · rw [if_neg hr, Nat.zero_add]
      refine cntB_congr fun x _ => ?_
      have : Cov (c :: l) r x ↔ Cov l r x := by
        constructor
        · rintro ⟨d, hd, q1, q2⟩
          rcases List.mem_cons.1 hd with rfl | hd
          · exact absurd q1 hr
          · exact ⟨d, hd, q1, q2⟩
        · rintro ⟨d, hd, q1, q2⟩
          exact ⟨d, List.mem_cons_of_mem _ hd, q1, q2⟩
      rw [decide_eq_decide]; exact this
theorem OkG.en1024 {n : Nat} {l : List Ce} (h : OkG n l) : ∀ c ∈ l, c.en ≤ 1024 := fun c hc => by
  have h1 := (h.ce c hc).en
  have h2 : 2 ^ n ≤ 2 ^ 10 := Nat.pow_le_pow_right (by omega) h.n10
  omega
open Classical in
theorem used_bound {n r : Nat} {l : List Ce} (h : OkG n l) : usedG l r ≤ 2 ^ n := by
  have h2 : 2 ^ n ≤ 2 ^ 10 := Nat.pow_le_pow_right (by omega) h.n10
  rw [← used_cnt h.srt h.en1024, cntB_stop (m := 2 ^ n) (by omega) fun x hx _ => decide_eq_false ?_]
  · exact cntB_le _ _
  · rintro ⟨c, hc, _, _, h4⟩
    have := (h.ce c hc).en
    unfold Ce.en at this
    unfold Ce.st Ce.ord at h4
    omega
open Classical in
/-- The words of a row have as many ones as its cells take columns. -/
theorem ones_used {n r : Nat} {l : List Ce} {W : Nat → Nat} (h : OkG n l) (hW : Words W (Cov l r)) : onesW W 16 = usedG l r := by
  rw [ones_cnt, ← used_cnt h.srt h.en1024]
  refine cntB_congr fun x hx => ?_
  have := hW.bit (x / 64) (x % 64) (by omega) (by omega)
  rw [show 64 * (x / 64) + x % 64 = x by omega] at this
  by_cases hc : Cov l r x
  · rw [decide_eq_true hc]; exact this.2 hc
  · rw [decide_eq_false hc]
    cases hb : (W (x / 64)).testBit (x % 64) with
    | false => rfl
    | true => exact absurd (this.1 hb) hc
end Go.Proofs.Ytfobapnncjjeiaa
