/-
  Scenes, plainly: which may be, which blocks are free, the first one; ticks at which something ends. No program is imported.
  Marks, plainly: how many of the first N are nought. No program is imported.
-/
import Derived.Test.YtioeblljabohbaaYdP
namespace Go.Proofs.Ytioeblljabohbaa
set_option linter.unusedVariables false

section

/-- A block that is held: its start, its order, from when, up to when. -/
abbrev HeT := Nat × Nat × Nat × Nat
structure Sc where
  n : Nat
  fl : List Nat
  hl : List HeT
def blkOk (n s o : Nat) : Prop := o ≤ n ∧ s % 2 ^ o = 0 ∧ s + 2 ^ o ≤ 2 ^ n
def endT : Nat := 4398046511104
def heOk (n : Nat) (h : HeT) : Prop := blkOk n h.1 h.2.1 ∧ h.2.2.1 < h.2.2.2 ∧ h.2.2.2 ≤ endT
structure ScOk (c : Sc) : Prop where
  n10 : c.n ≤ 10
  inc : c.fl.Pairwise (· < ·)
  lt : ∀ x ∈ c.fl, x < 2 ^ c.n
  len : c.hl.length ≤ 300
  he : ∀ h ∈ c.hl, heOk c.n h
/-- Have two blocks a worker in common? -/
def meetB (s o s' o' : Nat) : Bool := decide (s < s' + 2 ^ o') && decide (s' < s + 2 ^ o)
theorem meetB_comm (s o s' o' : Nat) : meetB s o s' o' = meetB s' o' s o := by unfold meetB; rw [Bool.and_comm]
theorem meetB_iff {s o s' o' : Nat} : meetB s o s' o' = true ↔ ∃ x, inB o s x ∧ inB o' s' x := by
  unfold meetB inB
  rw [Bool.and_eq_true, decide_eq_true_eq, decide_eq_true_eq]
  have h1 := two_pos o
  have h2 := two_pos o'
  constructor
  · rintro ⟨a, b⟩
    exact ⟨max s s', ⟨by omega, by omega⟩, ⟨by omega, by omega⟩⟩
  · rintro ⟨x, ⟨a, b⟩, ⟨c, d⟩⟩
    exact ⟨by omega, by omega⟩
/-- As the document's reference asks: a start lies in the other. -/
theorem meetB_ref (s o s' o' : Nat) : meetB s o s' o' = (decide (s ≤ s' ∧ s' < s + 2 ^ o) || decide (s' ≤ s ∧ s < s' + 2 ^ o')) := by
  have h1 := two_pos o
  have h2 := two_pos o'
  rw [Bool.eq_iff_iff, Bool.or_eq_true, decide_eq_true_eq, decide_eq_true_eq]
  unfold meetB
  rw [Bool.and_eq_true, decide_eq_true_eq, decide_eq_true_eq]
  omega
/-- As the program asks: the same one of the greater order. -/
theorem meetB_max {s o s' o' : Nat} (hs : s % 2 ^ o = 0) (hs' : s' % 2 ^ o' = 0) : meetB s o s' o' = decide (s / 2 ^ max o o' = s' / 2 ^ max o o') := by
  have key : ∀ {a p b q : Nat}, p ≤ q → a % 2 ^ p = 0 → b % 2 ^ q = 0 → meetB a p b q = decide (a / 2 ^ q = b / 2 ^ q) := by
    intro a p b q hpq ha hb
    have h2 := two_pos q
    have h1 := two_pos p
    obtain ⟨k, rfl⟩ := mod_dvd hb
    rw [Nat.mul_div_cancel_left _ h2, Bool.eq_iff_iff, decide_eq_true_eq]
    have hle : 2 ^ p ≤ 2 ^ q := Nat.pow_le_pow_right (by omega) hpq
    constructor
    · intro h
      obtain ⟨x, hx, hx'⟩ := meetB_iff.1 h
      have hn := nest hpq ha hb hx hx'
      have hx2 := hn.1
      have hx3 : a < 2 ^ q * k + 2 ^ q := by omega
      have hd := Nat.div_add_mod a (2 ^ q)
      have hm := Nat.mod_lt a h2
      apply Nat.le_antisymm
      · apply Nat.le_of_lt_succ
        rw [Nat.div_lt_iff_lt_mul h2, Nat.succ_mul, Nat.mul_comm k]; exact hx3
      · rw [Nat.le_div_iff_mul_le h2, Nat.mul_comm k]; exact hx2
    · intro h
      have hd := Nat.div_add_mod a (2 ^ q)
      have hm := Nat.mod_lt a h2
      rw [h] at hd
      refine meetB_iff.2 ⟨a, ⟨Nat.le_refl _, by omega⟩, ⟨by omega, by omega⟩⟩
  rcases Nat.le_total o o' with h | h
  · rw [Nat.max_eq_right h]; exact key h hs hs'
  · rw [Nat.max_eq_left h, meetB_comm, key h hs' hs]
    rw [Bool.eq_iff_iff, decide_eq_true_eq, decide_eq_true_eq]; exact eq_comm
/-- Block i of an order is hit by a block. -/
theorem meetB_hit {s o i q : Nat} : meetB s o (i * 2 ^ q) q = true ↔ s / 2 ^ q ≤ i ∧ i ≤ (s + 2 ^ o - 1) / 2 ^ q := by
  have h1 := two_pos o
  have h2 := two_pos q
  unfold meetB
  rw [Bool.and_eq_true, decide_eq_true_eq, decide_eq_true_eq, Nat.le_div_iff_mul_le h2]
  have e : s / 2 ^ q ≤ i ↔ s < i * 2 ^ q + 2 ^ q := by
    rw [← Nat.lt_succ_iff, Nat.div_lt_iff_lt_mul h2, Nat.succ_mul]
  rw [e]
  constructor
  · rintro ⟨a, b⟩; exact ⟨a, by omega⟩
  · rintro ⟨a, b⟩; exact ⟨a, by omega⟩
/-- Is it held at some tick of these? -/
def keeps (h : HeT) (a b : Nat) : Bool := decide (h.2.2.1 < b) && decide (a < h.2.2.2)
def freeB (c : Sc) (s o a b : Nat) : Bool := (c.fl.all fun w => !meetB w 0 s o) && c.hl.all fun h => !(keeps h a b && meetB h.1 h.2.1 s o)
/-- How much keeps block i of an order from being free. -/
def markF (c : Sc) (q i : Nat) : Nat := c.fl.countP fun w => meetB w 0 (i * 2 ^ q) q
def markH (hl : List HeT) (q a b i : Nat) : Nat := hl.countP fun h => keeps h a b && meetB h.1 h.2.1 (i * 2 ^ q) q
theorem mark_zero {c : Sc} {q a b i : Nat} : markF c q i + markH c.hl q a b i = 0 ↔ freeB c (i * 2 ^ q) q a b = true := by
  unfold markF markH freeB
  rw [Nat.add_eq_zero_iff, List.countP_eq_zero, List.countP_eq_zero, Bool.and_eq_true, List.all_eq_true, List.all_eq_true]
  simp only [Bool.not_eq_true', Bool.not_eq_true]
theorem markF_zero {c : Sc} {q i : Nat} : markF c q i = 0 ↔ ∀ w ∈ c.fl, meetB w 0 (i * 2 ^ q) q = false := by
  unfold markF; rw [List.countP_eq_zero]; simp only [Bool.not_eq_true]
/-- The least place below n of which p says so. -/
def leastP (p : Nat → Bool) (n : Nat) : Option Nat := (List.range n).find? p
theorem leastP_some {p : Nat → Bool} {n i : Nat} : leastP p n = some i ↔ i < n ∧ p i = true ∧ ∀ j, j < i → p j = false := by
  unfold leastP
  rw [List.find?_range_eq_some]
  constructor
  · rintro ⟨a, b, c⟩
    exact ⟨by simpa using b, a, fun j hj => by simpa using c j hj⟩
  · rintro ⟨a, b, c⟩
    exact ⟨b, by simpa using a, fun j hj => by simpa using c j hj⟩
theorem leastP_none {p : Nat → Bool} {n : Nat} : leastP p n = none ↔ ∀ j, j < n → p j = false := by
  unfold leastP
  rw [List.find?_eq_none]
  constructor
  · intro h j hj; have := h j (List.mem_range.2 hj); simpa using this
  · intro h j hj; have := h j (List.mem_range.1 hj); simp [this]
/-- The first free block's start. -/
def firstB (c : Sc) (q a b : Nat) : Option Nat := (leastP (fun i => freeB c (i * 2 ^ q) q a b) (2 ^ (c.n - q))).map (· * 2 ^ q)
/-- The ticks: t, and each that is greater than those ahead of it. -/
def tks : List Nat → Nat → List Nat
  | [], t => [t]
  | x :: B, t => if t < x then t :: tks B x else tks B t
/-- The first tick at which a block is free, and the block. -/
def earlyL (c : Sc) (q len : Nat) : List Nat → Option (Nat × Nat)
  | [] => none
  | t :: T => match firstB c q t (t + len) with
    | some s => some (t, s)
    | none => earlyL c q len T
theorem tks_step {B : List Nat} (h : B.Pairwise (· ≤ ·)) (t : Nat) : tks B t = match B.find? (fun x => decide (t < x)) with | none => [t] | some x => t :: tks B x := by
  induction B generalizing t with
  | nil => rfl
  | cons x B ih =>
    have hB := (List.pairwise_cons.1 h).2
    rw [tks]
    by_cases hx : t < x
    · rw [if_pos hx, List.find?_cons_of_pos (by simpa using hx)]
      show t :: tks B x = t :: tks (x :: B) x
      rw [tks, if_neg (Nat.lt_irrefl x)]
    · rw [if_neg hx, List.find?_cons_of_neg (by simpa using hx), ih hB t]
      cases hf : B.find? (fun x => decide (t < x)) with
      | none => rfl
      | some y =>
        show t :: tks B y = t :: tks (x :: B) y
        have hy := List.find?_some hf
        rw [decide_eq_true_eq] at hy
        rw [tks, if_neg (by omega)]
/-- The least tick above t at which something ends. -/
def IsNext (B : List Nat) (t : Nat) (r : Option Nat) : Prop :=
  (r = none ∧ ∀ x ∈ B, x ≤ t) ∨ ∃ y, r = some y ∧ y ∈ B ∧ t < y ∧ ∀ x ∈ B, t < x → y ≤ x
theorem find_next {B : List Nat} (h : B.Pairwise (· ≤ ·)) (t : Nat) : IsNext B t (B.find? (fun x => decide (t < x))) := by
  cases hf : B.find? (fun x => decide (t < x)) with
  | none =>
    refine .inl ⟨rfl, fun x hx => ?_⟩
    have := List.find?_eq_none.1 hf x hx
    simpa using this
  | some y =>
    refine .inr ⟨y, rfl, List.mem_of_find?_eq_some hf, by simpa using List.find?_some hf, fun x hx hlt => ?_⟩
    obtain ⟨_, as, bs, rfl, has⟩ := List.find?_eq_some_iff_append.1 hf
    rcases List.mem_append.1 hx with h1 | h1
    · have := has x h1; simp at this; omega
    · rcases List.mem_cons.1 h1 with rfl | h2
      · exact Nat.le_refl _
      · exact (List.pairwise_cons.1 (List.pairwise_append.1 h).2.1).1 x h2
theorem IsNext.det {B B' : List Nat} {t : Nat} {r r' : Option Nat} (hB : ∀ x, x ∈ B ↔ x ∈ B') (h : IsNext B t r) (h' : IsNext B' t r') : r = r' := by
  rcases h with ⟨rfl, a⟩ | ⟨y, rfl, a, b, c⟩ <;> rcases h' with ⟨rfl, a'⟩ | ⟨y', rfl, a', b', c'⟩
  · rfl
  · have := a y' ((hB y').2 a'); omega
  · have := a' y ((hB y).1 a); omega
  · have h1 := c y' ((hB y').2 a') b'
    have h2 := c' y ((hB y).1 a) b
    rw [Nat.le_antisymm h1 h2]
end

section

def zN (C : Nat → Nat) : Nat → Nat
  | 0 => 0
  | n + 1 => zN C n + if C n = 0 then 1 else 0
theorem zN_congr {C D : Nat → Nat} {n : Nat} (h : ∀ i, i < n → C i = D i) : zN C n = zN D n := by
  induction n with
  | zero => rfl
  | succ n ih => rw [zN, zN, ih fun i hi => h i (by omega), h n (by omega)]
theorem zN_le (C : Nat → Nat) (n : Nat) : zN C n ≤ n := by
  induction n with
  | zero => exact Nat.le_refl _
  | succ n ih => rw [zN]; split <;> omega
def setF (C : Nat → Nat) (i x : Nat) : Nat → Nat := fun j => if j = i then x else C j
theorem zN_set {C : Nat → Nat} {i x n : Nat} (h : i < n) : zN (setF C i x) n + (if C i = 0 then 1 else 0) = zN C n + if x = 0 then 1 else 0 := by
  induction n with
  | zero => omega
  | succ n ih =>
    rw [zN, zN]
    rcases (by omega : i < n ∨ i = n) with h1 | rfl
    · have := ih h1
      have e : setF C i x n = C n := if_neg (by omega)
      rw [e]; omega
    · have e : zN (setF C i x) i = zN C i := zN_congr fun j hj => if_neg (by omega)
      have e2 : setF C i x i = x := if_pos rfl
      rw [e, e2]; omega
theorem zN_pos {C : Nat → Nat} {n : Nat} : 0 < zN C n ↔ ∃ i, i < n ∧ C i = 0 := by
  induction n with
  | zero => exact ⟨fun h => by simp [zN] at h, fun ⟨i, h, _⟩ => by omega⟩
  | succ n ih =>
    rw [zN]
    constructor
    · intro h
      by_cases hc : C n = 0
      · exact ⟨n, by omega, hc⟩
      · rw [if_neg hc] at h
        obtain ⟨i, h1, h2⟩ := ih.1 (by omega)
        exact ⟨i, by omega, h2⟩
    · rintro ⟨i, h1, h2⟩
      rcases (by omega : i < n ∨ i = n) with h3 | rfl
      · have := ih.2 ⟨i, h3, h2⟩; omega
      · rw [if_pos h2]; omega
theorem zN_all {C : Nat → Nat} {n : Nat} (h : ∀ i, i < n → C i = 0) : zN C n = n := by
  induction n with
  | zero => rfl
  | succ n ih => rw [zN, ih fun i hi => h i (by omega), if_pos (h n (by omega))]
/-- One more, one fewer, in the blocks that are hit, as far as k. -/
def addT (C : Nat → Nat) (lo k : Nat) : Nat → Nat := fun j => if lo ≤ j ∧ j < k then C j + 1 else C j
def subT (C : Nat → Nat) (lo k : Nat) : Nat → Nat := fun j => if lo ≤ j ∧ j < k then C j - 1 else C j
theorem addT_zero (C : Nat → Nat) (lo : Nat) : addT C lo lo = C := by funext j; exact if_neg (by omega)
theorem subT_zero (C : Nat → Nat) (lo : Nat) : subT C lo lo = C := by funext j; exact if_neg (by omega)
theorem addT_at (C : Nat → Nat) (lo k : Nat) : addT C lo k k = C k := if_neg (by omega)
theorem subT_at (C : Nat → Nat) (lo k : Nat) : subT C lo k k = C k := if_neg (by omega)
theorem addT_succ {C : Nat → Nat} {lo k : Nat} (h : lo ≤ k) : addT C lo (k + 1) = setF (addT C lo k) k (C k + 1) := by
  funext j
  unfold addT setF
  by_cases e : j = k
  · subst e; rw [if_pos ⟨h, by omega⟩, if_pos rfl]
  · rw [if_neg e]
    dsimp only
    by_cases h2 : lo ≤ j ∧ j < k
    · rw [if_pos h2, if_pos ⟨h2.1, by omega⟩]
    · rw [if_neg h2, if_neg fun h3 => h2 ⟨h3.1, by omega⟩]
theorem subT_succ {C : Nat → Nat} {lo k : Nat} (h : lo ≤ k) : subT C lo (k + 1) = setF (subT C lo k) k (C k - 1) := by
  funext j
  unfold subT setF
  by_cases e : j = k
  · subst e; rw [if_pos ⟨h, by omega⟩, if_pos rfl]
  · rw [if_neg e]
    dsimp only
    by_cases h2 : lo ≤ j ∧ j < k
    · rw [if_pos h2, if_pos ⟨h2.1, by omega⟩]
    · rw [if_neg h2, if_neg fun h3 => h2 ⟨h3.1, by omega⟩]
/-- What a block does to the marks of an order. -/
def hitC (C : Nat → Nat) (s o q : Nat) : Nat → Nat := fun i => if meetB s o (i * 2 ^ q) q = true then C i + 1 else C i
def missC (C : Nat → Nat) (s o q : Nat) : Nat → Nat := fun i => if meetB s o (i * 2 ^ q) q = true then C i - 1 else C i
theorem addT_all (C : Nat → Nat) (s o q : Nat) : addT C (s / 2 ^ q) ((s + 2 ^ o - 1) / 2 ^ q + 1) = hitC C s o q := by
  funext j
  unfold addT hitC
  by_cases h : meetB s o (j * 2 ^ q) q = true
  · obtain ⟨h1, h2⟩ := meetB_hit.1 h
    rw [if_pos h, if_pos ⟨h1, by omega⟩]
  · rw [if_neg h, if_neg fun hh => h (meetB_hit.2 ⟨hh.1, by omega⟩)]
theorem subT_all (C : Nat → Nat) (s o q : Nat) : subT C (s / 2 ^ q) ((s + 2 ^ o - 1) / 2 ^ q + 1) = missC C s o q := by
  funext j
  unfold subT missC
  by_cases h : meetB s o (j * 2 ^ q) q = true
  · obtain ⟨h1, h2⟩ := meetB_hit.1 h
    rw [if_pos h, if_pos ⟨h1, by omega⟩]
  · rw [if_neg h, if_neg fun hh => h (meetB_hit.2 ⟨hh.1, by omega⟩)]
/-- The last block that is hit lies in the scene. -/
theorem hit_lt {n q s o : Nat} (hq : q ≤ n) (h : s + 2 ^ o ≤ 2 ^ n) : (s + 2 ^ o - 1) / 2 ^ q < 2 ^ (n - q) := by
  have h1 := two_pos o
  have h2 := two_pos q
  have e : 2 ^ (n - q) * 2 ^ q = 2 ^ n := by rw [← Nat.pow_add]; congr 1; omega
  rw [Nat.div_lt_iff_lt_mul h2, e]
  omega
end

end Go.Proofs.Ytioeblljabohbaa
