/-
  Profiles, plainly: the least at some ticks, the ticks at which something changes, where it fits. No program is imported.
-/
import Derived.Test.YtnbgipegfnpobaaPr2
namespace Go.Proofs.Ytnbgipegfnpobaa
set_option linter.unusedVariables false

def mG (f e : Int) (m : Int) : List Lv → Int
  | [] => m
  | a :: r => mG f e (if f < a.1 ∧ a.1 < e ∧ a.2 < m then a.2 else m) r
theorem mG_append (f e m : Int) (p q : List Lv) : mG f e m (p ++ q) = mG f e (mG f e m p) q := by
  induction p generalizing m with
  | nil => rfl
  | cons a r ih => exact ih _
theorem mG_ge (f e n : Int) (p : List Lv) : ∀ m : Int, n ≤ mG f e m p ↔ n ≤ m ∧ ∀ x ∈ p, f < x.1 → x.1 < e → n ≤ x.2 := by
  induction p with
  | nil => intro m; simp [mG]
  | cons a r ih =>
    intro m
    rw [mG, ih]
    constructor
    · rintro ⟨h1, h2⟩
      split at h1
      · rename_i hc
        refine ⟨by omega, fun x hx h3 h4 => ?_⟩
        rcases List.mem_cons.1 hx with rfl | hx
        · exact h1
        · exact h2 x hx h3 h4
      · rename_i hc
        refine ⟨h1, fun x hx h3 h4 => ?_⟩
        rcases List.mem_cons.1 hx with rfl | hx
        · have : ¬ x.2 < m := fun h => hc ⟨h3, h4, h⟩
          omega
        · exact h2 x hx h3 h4
    · rintro ⟨h1, h2⟩
      refine ⟨?_, fun x hx => h2 x (List.mem_cons_of_mem _ hx)⟩
      split
      · rename_i hc; exact h2 a List.mem_cons_self hc.1 hc.2.1
      · exact h1
theorem mG_none {f e m : Int} {p : List Lv} (h : ∀ x ∈ p, ¬ (f < x.1 ∧ x.1 < e)) : mG f e m p = m := by
  induction p generalizing m with
  | nil => rfl
  | cons a r ih =>
    rw [mG, if_neg fun hh => h a List.mem_cons_self ⟨hh.1, hh.2.1⟩]
    exact ih fun x hx => h x (List.mem_cons_of_mem _ hx)
def mT (p : List Lv) (f e m : Int) (i : Nat) : Int := mG f e m (p.take i)
theorem mT_zero (p : List Lv) (f e m : Int) : mT p f e m 0 = m := rfl
theorem mT_succ {p : List Lv} {i : Nat} (h : i < p.length) (f e m : Int) : mT p f e m (i + 1) = if f < (lv p i).1 ∧ (lv p i).1 < e ∧ (lv p i).2 < mT p f e m i then (lv p i).2 else mT p f e m i := by
  unfold mT
  rw [List.take_add_one, lv_get h, mG_append]
  rfl
theorem mT_all (p : List Lv) (f e m : Int) : mT p f e m p.length = mG f e m p := by unfold mT; rw [List.take_length]
theorem mem_take_lv {p : List Lv} {i : Nat} {x : Lv} (h : x ∈ p.take i) : ∃ j, j < i ∧ j < p.length ∧ lv p j = x := by
  obtain ⟨j, hj, e⟩ := List.mem_iff_getElem.1 h
  have hj' : j < i ∧ j < p.length := by simpa [List.length_take, Nat.lt_min] using hj
  refine ⟨j, hj'.1, hj'.2, ?_⟩
  have := lv_get hj'.2
  rw [List.getElem?_eq_getElem hj'.2] at this
  rw [← Option.some.inj this, ← e, List.getElem_take]
theorem mem_drop_lv {p : List Lv} {i : Nat} {x : Lv} (h : x ∈ p.drop i) : ∃ j, i ≤ j ∧ j < p.length ∧ lv p j = x := by
  obtain ⟨j, hj, e⟩ := List.mem_iff_getElem.1 h
  have hj' : i + j < p.length := by simp at hj; omega
  refine ⟨i + j, by omega, hj', ?_⟩
  have := lv_get hj'
  rw [List.getElem?_eq_getElem hj'] at this
  rw [← Option.some.inj this, ← e, List.getElem_drop]
theorem mT_skip {p : List Lv} (f e m : Int) : mT p f e m (num p f) = m := mG_none fun x hx hc => by
  obtain ⟨j, hj, _, rfl⟩ := mem_take_lv hx
  have := num_lt p f j hj
  omega
theorem mT_end {p : List Lv} (hp : Inc p) {f e m : Int} {i : Nat} (hi : i < p.length) (h : e ≤ (lv p i).1) : mG f e m p = mT p f e m i := by
  conv => lhs; rw [← List.take_append_drop i p, mG_append]
  exact mG_none fun x hx hc => by
    obtain ⟨j, h1, h2, rfl⟩ := mem_drop_lv hx
    have : (lv p i).1 ≤ (lv p j).1 := by
      rcases Nat.lt_or_ge i j with hh | hh
      · exact Int.le_of_lt (hp.at i j hh h2)
      · rw [show i = j by omega]; exact Int.le_refl _
    omega
open Classical in
noncomputable def leastV (p : List Lv) (f n : Int) : Int := if okP p ∧ 1 ≤ n ∧ (lv p 0).1 ≤ f then mG (min f MaxT) (min f MaxT + min n MaxT) (vA p (min f MaxT)) p else 0
theorem leastV_no {p : List Lv} {f n : Int} (h : ¬ (okP p ∧ 1 ≤ n ∧ (lv p 0).1 ≤ f)) : leastV p f n = 0 := by unfold leastV; rw [if_neg h]
theorem leastV_yes {p : List Lv} {f n : Int} (h : okP p ∧ 1 ≤ n ∧ (lv p 0).1 ≤ f) : leastV p f n = mG (min f MaxT) (min f MaxT + min n MaxT) (vA p (min f MaxT)) p := by unfold leastV; rw [if_pos h]
/-- Enough are free at some ticks. -/
def Free (p : List Lv) (f n k : Int) : Prop := k ≤ vA p f ∧ ∀ x ∈ p, f < x.1 → x.1 < f + n → k ≤ x.2
theorem least_free {p : List Lv} {f n k : Int} (hp : okP p) (h1 : 1 ≤ n) (h2 : (lv p 0).1 ≤ f) (h3 : f ≤ MaxT) (h4 : n ≤ MaxT) : k ≤ leastV p f n ↔ Free p f n k := by
  rw [leastV_yes ⟨hp, h1, h2⟩, mG_ge, show min f MaxT = f by omega, show min n MaxT = n by omega]
  rfl

/-! The ticks at which something changes. -/
def insT (t : Int) : List Int → List Int
  | [] => [t]
  | x :: r => if x < t then x :: insT t r else if x = t then x :: r else t :: x :: r
theorem mem_insT (t x : Int) (l : List Int) : x ∈ insT t l ↔ x = t ∨ x ∈ l := by
  induction l with
  | nil => simp [insT]
  | cons a r ih =>
    unfold insT
    split
    · simp only [List.mem_cons, ih]
      constructor <;> rintro (h | h | h) <;> simp [h]
    · split
      · rename_i e
        subst e
        simp
      · simp [List.mem_cons]
theorem pw_insT (t : Int) (l : List Int) (h : l.Pairwise (· < ·)) : (insT t l).Pairwise (· < ·) := by
  induction l with
  | nil => simp [insT]
  | cons a r ih =>
    obtain ⟨h1, h2⟩ := List.pairwise_cons.1 h
    unfold insT
    split
    · rename_i hlt
      refine List.pairwise_cons.2 ⟨fun x hx => ?_, ih h2⟩
      rcases (mem_insT t x r).1 hx with rfl | hx
      · exact hlt
      · exact h1 x hx
    · split
      · exact h
      · rename_i h3 h4
        refine List.pairwise_cons.2 ⟨fun x hx => ?_, h⟩
        rcases List.mem_cons.1 hx with rfl | hx
        · omega
        · have := h1 x hx; omega
def endsStep (f : Int) (l : List Int) (t : Int) : List Int := if t ≤ f then l else insT t l
def endsV (f : Int) (ts : List Int) : List Int := ts.foldl (endsStep f) [f]
theorem ends_inv (f : Int) (ts : List Int) : ∀ l : List Int, l.Pairwise (· < ·) → (∃ r, l = f :: r) →
    (ts.foldl (endsStep f) l).Pairwise (· < ·) ∧ (∃ r, ts.foldl (endsStep f) l = f :: r) ∧ ∀ x, x ∈ ts.foldl (endsStep f) l ↔ x ∈ l ∨ (x ∈ ts ∧ f < x) := by
  induction ts with
  | nil => intro l h1 h2; exact ⟨h1, h2, fun x => by simp⟩
  | cons t ts ih =>
    intro l h1 ⟨r, hr⟩
    rw [List.foldl_cons]
    by_cases ht : t ≤ f
    · have e : endsStep f l t = l := if_pos ht
      rw [e]
      obtain ⟨a, b, c⟩ := ih l h1 ⟨r, hr⟩
      refine ⟨a, b, fun x => (c x).trans ?_⟩
      constructor
      · rintro (h | ⟨h, h'⟩)
        · exact .inl h
        · exact .inr ⟨List.mem_cons_of_mem _ h, h'⟩
      · rintro (h | ⟨h, h'⟩)
        · exact .inl h
        · rcases List.mem_cons.1 h with rfl | h
          · omega
          · exact .inr ⟨h, h'⟩
    · have e : endsStep f l t = insT t l := if_neg ht
      rw [e]
      obtain ⟨a, b, c⟩ := ih (insT t l) (pw_insT t l h1) ⟨insT t r, by rw [hr, insT, if_pos (by omega)]⟩
      refine ⟨a, b, fun x => (c x).trans ?_⟩
      rw [mem_insT]
      constructor
      · rintro ((h | h) | ⟨h, h'⟩)
        · subst h; exact .inr ⟨List.mem_cons_self, by omega⟩
        · exact .inl h
        · exact .inr ⟨List.mem_cons_of_mem _ h, h'⟩
      · rintro (h | ⟨h, h'⟩)
        · exact .inl (.inr h)
        · rcases List.mem_cons.1 h with rfl | h
          · exact .inl (.inl rfl)
          · exact .inr ⟨h, h'⟩
theorem ends_pw (f : Int) (ts : List Int) : (endsV f ts).Pairwise (· < ·) := (ends_inv f ts [f] (by simp) ⟨[], rfl⟩).1
theorem ends_head (f : Int) (ts : List Int) : ∃ r, endsV f ts = f :: r := (ends_inv f ts [f] (by simp) ⟨[], rfl⟩).2.1
theorem mem_ends (f : Int) (ts : List Int) (x : Int) : x ∈ endsV f ts ↔ x = f ∨ (x ∈ ts ∧ f < x) := by
  have := (ends_inv f ts [f] (by simp) ⟨[], rfl⟩).2.2 x
  rw [List.mem_singleton] at this
  exact this
def ats (p : List Lv) : List Int := p.map (·.1)

/-! Where it fits. -/
def badFit (f n k : Int) : Prop := n < 1 ∨ MaxT < n ∨ f < 0 ∨ MaxT < f ∨ k < 0
open Classical in
noncomputable def fitV (p : List Lv) (f n k : Int) : Int × Int :=
  if ¬ okP p then (0, 50) else if badFit f n k then (0, 2) else
  match (endsV (max f (lv p 0).1) (ats p)).find? (fun t => decide (k ≤ leastV p t n)) with
  | some t => (t, 0)
  | none => (0, 5)
theorem fit_no {p : List Lv} (h : ¬ okP p) (f n k : Int) : fitV p f n k = (0, 50) := by unfold fitV; rw [if_pos h]
theorem fit_bad {p : List Lv} (h : okP p) {f n k : Int} (hb : badFit f n k) : fitV p f n k = (0, 2) := by unfold fitV; rw [if_neg (by simpa using h), if_pos hb]
theorem find_sorted {P : Int → Bool} : ∀ {l : List Int} {t : Int}, l.Pairwise (· < ·) → t ∈ l → P t = true → (∀ s ∈ l, s < t → P s = false) → l.find? P = some t
  | [], _, _, h, _, _ => by cases h
  | a :: r, t, hp, h, ht, hs => by
    obtain ⟨h1, h2⟩ := List.pairwise_cons.1 hp
    rcases List.mem_cons.1 h with rfl | h
    · simp [List.find?, ht]
    · have ha := hs a List.mem_cons_self (h1 t h)
      rw [List.find?, ha]
      exact find_sorted h2 h ht fun s hs' => hs s (List.mem_cons_of_mem _ hs')
/-- A tick at which it may begin. -/
def Cand (p : List Lv) (f s : Int) : Prop := s = max f (lv p 0).1 ∨ (∃ i, i < p.length ∧ s = (lv p i).1) ∧ max f (lv p 0).1 < s
theorem cand_iff {p : List Lv} {f s : Int} : s ∈ endsV (max f (lv p 0).1) (ats p) ↔ Cand p f s := by
  rw [mem_ends]
  unfold Cand ats
  constructor
  · rintro (h | ⟨h, h'⟩)
    · exact .inl h
    · obtain ⟨x, hx, rfl⟩ := List.mem_map.1 h
      obtain ⟨i, hi, rfl⟩ := mem_lv hx
      exact .inr ⟨⟨i, hi, rfl⟩, h'⟩
  · rintro (h | ⟨⟨i, hi, rfl⟩, h'⟩)
    · exact .inl h
    · exact .inr ⟨List.mem_map.2 ⟨_, lv_mem hi, rfl⟩, h'⟩
theorem Cand.bounds {p : List Lv} {f s : Int} (hp : okP p) (hf : f ≤ MaxT) (h : Cand p f s) : (lv p 0).1 ≤ s ∧ s ≤ MaxT := by
  have h0 : 0 < p.length := List.length_pos_iff.2 hp.1
  rcases h with rfl | ⟨⟨i, hi, rfl⟩, h'⟩
  · have := (hp.2 0 h0).1.1
    omega
  · have := (hp.2 i hi).1.1
    omega
theorem fit_at {p : List Lv} (hp : okP p) {f n k t : Int} (hb : ¬ badFit f n k) (hc : Cand p f t) (ht : Free p t n k) (hs : ∀ s, Cand p f s → s < t → ¬ Free p s n k) : fitV p f n k = (t, 0) := by
  have hb' : ¬ (n < 1 ∨ MaxT < n ∨ f < 0 ∨ MaxT < f ∨ k < 0) := hb
  have key : ∀ s, Cand p f s → (k ≤ leastV p s n ↔ Free p s n k) := fun s hs' => by
    obtain ⟨b1, b2⟩ := hs'.bounds hp (by omega)
    exact least_free hp (by omega) b1 b2 (by omega)
  unfold fitV
  rw [if_neg (by simpa using hp), if_neg hb, find_sorted (ends_pw _ _) (cand_iff.2 hc) (decide_eq_true ((key t hc).2 ht)) fun s h1 h2 => ?_]
  exact decide_eq_false fun h => hs s (cand_iff.1 h1) h2 ((key s (cand_iff.1 h1)).1 h)
theorem fit_full {p : List Lv} (hp : okP p) {f n k : Int} (hb : ¬ badFit f n k) (hs : ∀ s, Cand p f s → ¬ Free p s n k) : fitV p f n k = (0, 5) := by
  have hb' : ¬ (n < 1 ∨ MaxT < n ∨ f < 0 ∨ MaxT < f ∨ k < 0) := hb
  have key : ∀ s, Cand p f s → (k ≤ leastV p s n ↔ Free p s n k) := fun s hs' => by
    obtain ⟨b1, b2⟩ := hs'.bounds hp (by omega)
    exact least_free hp (by omega) b1 b2 (by omega)
  unfold fitV
  rw [if_neg (by simpa using hp), if_neg hb, List.find?_eq_none.2 fun s h1 => ?_]
  simp only [decide_eq_true_eq]
  exact fun h => hs s (cand_iff.1 h1) ((key s (cand_iff.1 h1)).1 h)
/-- What the program's loop knows when it comes to level a with tick t. -/
structure FitSt (p : List Lv) (f n k t : Int) (a : Nat) : Prop where
  cand : Cand p f t
  lt : a < p.length
  nn : num p t ≤ a + 1
  good : ∀ i, num p t ≤ i + 1 → i < a → k ≤ (lv p i).2
  bad : ∀ s, Cand p f s → s < t → ¬ Free p s n k
  near : num p t = a + 1 ∨ (lv p a).1 < t + n
theorem vA_at {p : List Lv} (hp : Inc p) {t : Int} {a : Nat} (ha : a < p.length) (h1 : (lv p a).1 ≤ t) (h2 : ∀ i, a < i → i < p.length → t < (lv p i).1) : vA p t = (lv p a).2 ∧ num p t = a + 1 := by
  have hn : num p t = a + 1 := num_uniq hp (by omega) (fun i hi => by
    rcases Nat.lt_or_ge i a with h | h
    · have := hp.at i a h ha; omega
    · rw [show i = a by omega]; exact h1) (fun i h3 h4 => h2 i (by omega) h4)
  rw [vA_num hp, hn, if_neg (by omega), Nat.add_sub_cancel]
  exact ⟨rfl, rfl⟩
/-- A level with too few rules out all ticks up to the next one. -/
theorem FitSt.rule {p : List Lv} {f n k t : Int} {a : Nat} (hp : okP p) (h : FitSt p f n k t a) (hlow : (lv p a).2 < k) (s : Int) (hs : Cand p f s) (hnx : ∀ i, a < i → i < p.length → s < (lv p i).1) : ¬ Free p s n k := by
  intro hf
  rcases Int.lt_or_le s t with hlt | hge
  · exact h.bad s hs hlt hf
  · rcases Int.lt_or_le s (lv p a).1 with h1 | h1
    · rcases h.near with h2 | h2
      · have := num_lt p t a (by omega); omega
      · have := hf.2 _ (lv_mem h.lt) h1 (by omega)
        omega
    · have := (vA_at hp.inc h.lt h1 hnx).1
      have := hf.1
      omega
theorem FitSt.full {p : List Lv} {f n k t : Int} {a : Nat} (hp : okP p) (hb : ¬ badFit f n k) (h : FitSt p f n k t a) (hlow : (lv p a).2 < k) (hl : a + 1 = p.length) : fitV p f n k = (0, 5) :=
  fit_full hp hb fun s hs => h.rule hp hlow s hs fun i h1 h2 => by omega
theorem FitSt.next {p : List Lv} {f n k t : Int} {a : Nat} (hp : okP p) (h : FitSt p f n k t a) (hlow : (lv p a).2 < k) (hl : a + 1 < p.length) : FitSt p f n k (lv p (a + 1)).1 (a + 1) := by
  have hn : num p (lv p (a + 1)).1 = a + 2 := (vA_at hp.inc hl (Int.le_refl _) fun i h1 h2 => hp.inc.at _ _ h1 h2).2
  have hmax : max f (lv p 0).1 < (lv p (a + 1)).1 := by
    have h1 : t < (lv p (a + 1)).1 := num_ge hp.inc t (a + 1) h.nn hl
    rcases h.cand with e | ⟨_, e⟩ <;> omega
  exact ⟨.inr ⟨⟨a + 1, hl, rfl⟩, hmax⟩, hl, by omega, fun i h1 h2 => by omega, fun s hs hlt => h.rule hp hlow s hs fun i h1 h2 => by
    have : (lv p (a + 1)).1 ≤ (lv p i).1 := by
      rcases Nat.lt_or_ge (a + 1) i with h3 | h3
      · exact Int.le_of_lt (hp.inc.at _ _ h3 h2)
      · rw [show i = a + 1 by omega]; exact Int.le_refl _
    omega, .inl hn⟩
theorem FitSt.on {p : List Lv} {f n k t : Int} {a : Nat} (hp : okP p) (h : FitSt p f n k t a) (hok : k ≤ (lv p a).2) (hl : a + 1 < p.length) (hd : (lv p (a + 1)).1 - t < n) : FitSt p f n k t (a + 1) :=
  ⟨h.cand, hl, by have := h.nn; omega, fun i h1 h2 => by
    rcases Nat.lt_or_ge i a with h3 | h3
    · exact h.good i h1 h3
    · rw [show i = a by omega]; exact hok, h.bad, .inr (by omega)⟩
theorem FitSt.done {p : List Lv} {f n k t : Int} {a : Nat} (hp : okP p) (hb : ¬ badFit f n k) (h : FitSt p f n k t a) (hok : k ≤ (lv p a).2) (hl : a + 1 = p.length ∨ (a + 1 < p.length ∧ n ≤ (lv p (a + 1)).1 - t)) : fitV p f n k = (t, 0) := by
  have hb' : ¬ (n < 1 ∨ MaxT < n ∨ f < 0 ∨ MaxT < f ∨ k < 0) := hb
  have all : ∀ i, num p t ≤ i + 1 → i ≤ a → k ≤ (lv p i).2 := fun i h1 h2 => by
    rcases Nat.lt_or_ge i a with h3 | h3
    · exact h.good i h1 h3
    · rw [show i = a by omega]; exact hok
  have hb1 := h.cand.bounds hp (by omega)
  have hn0 : num p t ≠ 0 := fun e => by
    have := (num_pos hp.inc hp.1 (t := t)).1 e; omega
  refine fit_at hp hb h.cand ⟨?_, fun x hx h1 h2 => ?_⟩ h.bad
  · rw [vA_num hp.inc, if_neg hn0]
    exact all _ (by omega) (by have := h.nn; omega)
  · obtain ⟨i, hi, rfl⟩ := mem_lv hx
    refine all i ?_ ?_
    · rcases Nat.lt_or_ge i (num p t) with h3 | h3
      · have := num_lt p t i h3; omega
      · omega
    · rcases hl with e | ⟨h3, h4⟩
      · omega
      · rcases Nat.lt_or_ge a i with h5 | h5
        · have : (lv p (a + 1)).1 ≤ (lv p i).1 := by
            rcases Nat.lt_or_ge (a + 1) i with h6 | h6
            · exact Int.le_of_lt (hp.inc.at _ _ h6 hi)
            · rw [show i = a + 1 by omega]; exact Int.le_refl _
          omega
        · exact h5
theorem FitSt.start {p : List Lv} {f n k : Int} (hp : okP p) : FitSt p f n k (max f (lv p 0).1) (num p (max f (lv p 0).1) - 1) := by
  have hn0 : num p (max f (lv p 0).1) ≠ 0 := fun e => by
    have := (num_pos hp.inc hp.1 (t := max f (lv p 0).1)).1 e; omega
  have := num_le p (max f (lv p 0).1)
  refine ⟨.inl rfl, by omega, by omega, fun i h1 h2 => by omega, fun s hs hlt => ?_, .inl (by omega)⟩
  rcases hs with rfl | ⟨_, h⟩ <;> omega
end Go.Proofs.Ytnbgipegfnpobaa
