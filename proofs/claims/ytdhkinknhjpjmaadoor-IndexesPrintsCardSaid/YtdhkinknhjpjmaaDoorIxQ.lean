/-
  Indexes, plainly: what is printed, and that it is read again as it was. No program is imported.
-/
import Derived.Test.YtdhkinknhjpjmaaDoorIxP
namespace Go.Proofs.YtdhkinknhjpjmaaDoor
set_option linter.unusedVariables false

abbrev D (n : Nat) : Bs := Lib.decDigits n
/-! Digits are read as the number. -/
theorem numR_stop {k n : Nat} {r : Bs} (h : ∀ c, r.head? = some c → isDig c = false) : numR k n r = (n, k) := by
  cases r with
  | nil => rfl
  | cons c r => rw [numR, if_neg fun hh => by rw [h c rfl] at hh; exact absurd hh.2.1 (by simp)]
theorem numR_go {k n d : Nat} {r : Bs} (h1 : k < 4) (hd : d < 10) (h2 : ¬ (0 < k ∧ n = 0)) : numR k n (dig d :: r) = numR (k + 1) (n * 10 + d) r := by
  obtain ⟨h3, h4⟩ := dig_is hd
  rw [numR, if_pos ⟨h1, h3, h2⟩, h4]
  congr 1; omega
theorem D_low {n : Nat} (h : n < 10) : D n = [dig n] := by unfold D; rw [Lib.decDigits, dif_pos h]; rfl
theorem D_step {n : Nat} (h : 10 ≤ n) : D n = D (n / 10) ++ [dig (n % 10)] := by
  unfold D
  conv => lhs; rw [Lib.decDigits, dif_neg (by omega)]
  rfl
theorem numR_D {n : Nat} (hn : n < 10000) {r : Bs} (h : ∀ c, r.head? = some c → isDig c = false) : numR 0 0 (D n ++ r) = (n, (D n).length) ∧ 0 < (D n).length ∧ (D n).length ≤ 4 := by
  by_cases h1 : n < 10
  · rw [D_low h1]
    refine ⟨?_, by simp, by simp⟩
    show numR 0 0 (dig n :: r) = _
    rw [numR_go (by omega) h1 (by omega), numR_stop h]; simp
  · by_cases h2 : n < 100
    · rw [D_step (by omega), D_low (by omega : n / 10 < 10)]
      refine ⟨?_, by simp, by simp⟩
      show numR 0 0 (dig (n / 10) :: dig (n % 10) :: r) = _
      rw [numR_go (by omega) (by omega) (by omega), numR_go (by omega) (by omega) (by omega), numR_stop h]
      simp; omega
    · by_cases h3 : n < 1000
      · rw [D_step (by omega), D_step (by omega : 10 ≤ n / 10), D_low (by omega : n / 10 / 10 < 10)]
        refine ⟨?_, by simp, by simp⟩
        show numR 0 0 (dig (n / 10 / 10) :: dig (n / 10 % 10) :: dig (n % 10) :: r) = _
        rw [numR_go (by omega) (by omega) (by omega), numR_go (by omega) (by omega) (by omega), numR_go (by omega) (by omega) (by omega), numR_stop h]
        simp; omega
      · rw [D_step (by omega), D_step (by omega : 10 ≤ n / 10), D_step (by omega : 10 ≤ n / 10 / 10), D_low (by omega : n / 10 / 10 / 10 < 10)]
        refine ⟨?_, by simp, by simp⟩
        show numR 0 0 (dig (n / 10 / 10 / 10) :: dig (n / 10 / 10 % 10) :: dig (n / 10 % 10) :: dig (n % 10) :: r) = _
        rw [numR_go (by omega) (by omega) (by omega), numR_go (by omega) (by omega) (by omega), numR_go (by omega) (by omega) (by omega), numR_go (by omega) (by omega) (by omega), numR_stop h]
        simp; omega
theorem D_head {n : Nat} (r : Bs) : ∃ c, (D n ++ r).head? = some c ∧ isDig c = true := by
  have h : ∀ n : Nat, D n ≠ [] ∧ ∀ c ∈ D n, isDig c = true := by
    intro n
    induction n using Nat.strongRecOn with
    | ind n ih =>
      by_cases h1 : n < 10
      · rw [D_low h1]; exact ⟨by simp, fun c hc => by simp at hc; rw [hc]; exact (dig_is h1).1⟩
      · rw [D_step (by omega)]
        obtain ⟨i1, i2⟩ := ih (n / 10) (by omega)
        refine ⟨by simp, fun c hc => ?_⟩
        rcases List.mem_append.1 hc with hc | hc
        · exact i2 c hc
        · simp at hc; rw [hc]; exact (dig_is (by omega)).1
  obtain ⟨h1, h2⟩ := h n
  cases hD : D n with
  | nil => exact absurd hD h1
  | cons c l => exact ⟨c, rfl, h2 c (by rw [hD]; exact List.mem_cons_self)⟩
theorem not_dig {c : UInt8} (h : c = 44 ∨ c = 45 ∨ c = 58 ∨ c = 37) : isDig c = false := by
  rcases h with rfl | rfl | rfl | rfl <;> decide
def SepHead (r : Bs) : Prop := r = [] ∨ ∃ r', r = 44 :: r' ∨ r = 37 :: r'
theorem SepHead.facts {r : Bs} (h : SepHead r) : (∀ c, r.head? = some c → isDig c = false) ∧ r.head? ≠ some 45 ∧ r.head? ≠ some 58 := by
  rcases h with rfl | ⟨r', rfl | rfl⟩
  · exact ⟨fun c h => (by simp at h), by simp, by simp⟩
  · exact ⟨fun c h => by simp at h; rw [← h]; decide, by simp, by simp⟩
  · exact ⟨fun c h => by simp at h; rw [← h]; decide, by simp, by simp⟩
/-- One item of each form. -/
theorem one_N {a : Nat} (ha : a < 10000) {r : Bs} (h : SepHead r) : oneV (D a ++ r) = .item a a 1 (D a).length := by
  obtain ⟨h1, h2, h3⟩ := h.facts
  obtain ⟨e, e0, _⟩ := numR_D ha h1
  unfold oneV
  rw [e, if_neg (by dsimp only; omega)]
  dsimp only
  rw [List.drop_left]
  unfold oneB
  rw [if_neg h2]
theorem one_NM {a b : Nat} (ha : a < 10000) (hb : b < 10000) {r : Bs} (h : SepHead r) : oneV (D a ++ 45 :: (D b ++ r)) = .item a b 1 ((D a).length + 1 + (D b).length) := by
  obtain ⟨h1, h2, h3⟩ := h.facts
  obtain ⟨e, e0, _⟩ := numR_D ha (r := 45 :: (D b ++ r)) (fun c h => by simp at h; rw [← h]; decide)
  obtain ⟨e', e0', _⟩ := numR_D hb h1
  unfold oneV
  rw [e, if_neg (by dsimp only; omega)]
  dsimp only
  rw [List.drop_left]
  unfold oneB
  rw [if_pos List.head?_cons, List.tail_cons, e', if_neg (by dsimp only; omega)]
  dsimp only
  rw [List.drop_left]
  unfold oneC
  rw [if_neg h3]
theorem one_NMS {a b c : Nat} (ha : a < 10000) (hb : b < 10000) (hc : c < 10000) {r : Bs} (h : SepHead r) : oneV (D a ++ 45 :: (D b ++ 58 :: (D c ++ r))) = .item a b c ((D a).length + 1 + (D b).length + 1 + (D c).length) := by
  obtain ⟨h1, h2, h3⟩ := h.facts
  obtain ⟨e, e0, _⟩ := numR_D ha (r := 45 :: (D b ++ 58 :: (D c ++ r))) (fun c h => by simp at h; rw [← h]; decide)
  obtain ⟨e', e0', _⟩ := numR_D hb (r := 58 :: (D c ++ r)) (fun c h => by simp at h; rw [← h]; decide)
  obtain ⟨e2, e02, _⟩ := numR_D hc h1
  unfold oneV
  rw [e, if_neg (by dsimp only; omega)]
  dsimp only
  rw [List.drop_left]
  unfold oneB
  rw [if_pos List.head?_cons, List.tail_cons, e', if_neg (by dsimp only; omega)]
  dsimp only
  rw [List.drop_left]
  unfold oneC
  rw [if_pos List.head?_cons, List.tail_cons, e2, if_neg (by dsimp only; omega)]
/-! Runs. -/
def runsOf : List Nat → List (Nat × Nat)
  | [] => []
  | x :: r => match runsOf r with
    | [] => [(x, x)]
    | (a, b) :: t => if a = x + 1 then (x, b) :: t else (x, x) :: (a, b) :: t
def runT (p : Nat × Nat) : Bs := if p.1 = p.2 then D p.1 else D p.1 ++ 45 :: D p.2
/-- The runs' texts, each behind a comma. -/
def restT (l : List (Nat × Nat)) : Bs := l.flatMap fun p => 44 :: runT p
def joinT : List (Nat × Nat) → Bs
  | [] => []
  | p :: t => runT p ++ restT t
def mostT (m : Nat) : Bs := if m = 0 then [] else 37 :: D m
def printT (l : List Nat) (m : Nat) : Bs := joinT (runsOf l) ++ mostT m
theorem runs_cons {x y : Nat} {r : List Nat} {b : Nat} {t : List (Nat × Nat)} (e : runsOf (y :: r) = (y, b) :: t) : runsOf (x :: y :: r) = if y = x + 1 then (x, b) :: t else (x, x) :: (y, b) :: t := by
  show (match runsOf (y :: r) with | [] => [(x, x)] | (a, b) :: t => if a = x + 1 then (x, b) :: t else (x, x) :: (a, b) :: t) = _
  rw [e]
theorem runs_head (x : Nat) (r : List Nat) : ∃ b t, runsOf (x :: r) = (x, b) :: t ∧ x ≤ b := by
  induction r generalizing x with
  | nil => exact ⟨x, [], rfl, Nat.le_refl _⟩
  | cons y r ih =>
    obtain ⟨b, t, e, hb⟩ := ih y
    rw [runs_cons e]
    split
    · exact ⟨b, t, rfl, by omega⟩
    · exact ⟨x, _, rfl, Nat.le_refl _⟩
theorem mem_runs (l : List Nat) (i : Nat) : i ∈ l ↔ ∃ p ∈ runsOf l, p.1 ≤ i ∧ i ≤ p.2 := by
  induction l with
  | nil => simp [runsOf]
  | cons x r ih =>
    cases r with
    | nil =>
      simp only [runsOf, List.mem_singleton]
      constructor
      · rintro rfl; exact ⟨_, rfl, Nat.le_refl _, Nat.le_refl _⟩
      · rintro ⟨p, rfl, h1, h2⟩; dsimp only at *; omega
    | cons y r =>
      obtain ⟨b, t, e, hb⟩ := runs_head y r
      rw [List.mem_cons, ih, runs_cons e, e]
      split
      · rename_i hy
        constructor
        · rintro (rfl | ⟨p, hp, h1, h2⟩)
          · exact ⟨(i, b), List.mem_cons_self, Nat.le_refl _, by dsimp only; omega⟩
          · rcases List.mem_cons.1 hp with rfl | hp
            · exact ⟨(x, b), List.mem_cons_self, by dsimp only at *; omega, h2⟩
            · exact ⟨p, List.mem_cons_of_mem _ hp, h1, h2⟩
        · rintro ⟨p, hp, h1, h2⟩
          rcases List.mem_cons.1 hp with rfl | hp
          · dsimp only at *
            by_cases hx : i = x
            · exact .inl hx
            · exact .inr ⟨(y, b), List.mem_cons_self, by dsimp only; omega, h2⟩
          · exact .inr ⟨p, List.mem_cons_of_mem _ hp, h1, h2⟩
      · constructor
        · rintro (rfl | ⟨p, hp, h1, h2⟩)
          · exact ⟨(i, i), List.mem_cons_self, Nat.le_refl _, Nat.le_refl _⟩
          · exact ⟨p, List.mem_cons_of_mem _ hp, h1, h2⟩
        · rintro ⟨p, hp, h1, h2⟩
          rcases List.mem_cons.1 hp with rfl | hp
          · left; dsimp only at *; omega
          · exact .inr ⟨p, hp, h1, h2⟩
theorem runs_bound {l : List Nat} {M : Nat} (h : ∀ x ∈ l, x ≤ M) : ∀ p ∈ runsOf l, p.1 ≤ p.2 ∧ p.2 ≤ M := by
  intro p hp
  have h12 : p.1 ≤ p.2 := by
    clear h
    induction l with
    | nil => cases hp
    | cons x r ih =>
      cases r with
      | nil => simp [runsOf] at hp; rw [hp]; exact Nat.le_refl _
      | cons y r =>
        obtain ⟨b, t, e, hb⟩ := runs_head y r
        rw [runs_cons e] at hp
        rw [e] at ih
        split at hp
        · rcases List.mem_cons.1 hp with rfl | hp
          · dsimp only; omega
          · exact ih (List.mem_cons_of_mem _ hp)
        · rcases List.mem_cons.1 hp with rfl | hp
          · exact Nat.le_refl _
          · exact ih hp
  exact ⟨h12, h _ ((mem_runs l p.2).2 ⟨p, hp, h12, Nat.le_refl _⟩)⟩
/-- Runs are read as their numbers. -/
def inRuns (l : List (Nat × Nat)) (i : Nat) : Bool := l.any fun p => decide (p.1 ≤ i ∧ i ≤ p.2)
theorem inRun_one (a b i : Nat) : inRun a b 1 i = decide (a ≤ i ∧ i ≤ b) := by
  unfold inRun
  congr 1
  rw [Nat.mod_one]; simp
theorem one_run_text {p : Nat × Nat} (h1 : p.1 ≤ p.2) (h2 : p.2 ≤ 1000) {r : Bs} (h : SepHead r) : ∃ k, k = (runT p).length ∧ oneV (runT p ++ r) = .item p.1 p.2 1 k ∧ 0 < k := by
  obtain ⟨a, b⟩ := p
  dsimp only at *
  unfold runT
  dsimp only
  by_cases hab : a = b
  · subst hab
    rw [if_pos rfl]
    exact ⟨_, rfl, one_N (by omega) h, (numR_D (n := a) (by omega) (r := []) (fun c h => by simp at h)).2.1⟩
  · rw [if_neg hab]
    refine ⟨_, rfl, ?_, by simp; omega⟩
    have := one_NM (a := a) (b := b) (by omega) (by omega) h
    rw [List.append_assoc, List.cons_append, this]
    simp; omega
theorem sep_rest (l : List (Nat × Nat)) (m : Nat) : SepHead (restT l ++ mostT m) := by
  cases l with
  | nil =>
    show SepHead (mostT m)
    unfold mostT
    split
    · exact .inl rfl
    · exact .inr ⟨_, .inr rfl⟩
  | cons p t => exact .inr ⟨_, .inl rfl⟩
theorem tail_most {m : Nat} (hm : m ≤ 1000) (f : Nat → Bool) (t : Nat) : tailV f none t (mostT m) = .ok f m := by
  unfold tailV mostT
  by_cases h0 : m = 0
  · subst h0; simp [doneV]
  · rw [if_neg h0, if_pos List.head?_cons]
    unfold mostV
    obtain ⟨e, e0, _⟩ := numR_D (n := m) (by omega) (r := []) (fun c h => by simp at h)
    rw [List.append_nil] at e
    rw [List.tail_cons, e]
    dsimp only
    rw [if_neg (by omega), List.drop_length, if_neg (by simp)]
    have hb : badMost m = false := by unfold badMost; rw [decide_eq_false_iff_not]; omega
    rw [hb]; rfl
theorem ref_runs (m : Nat) (hm : m ≤ 1000) : ∀ (l : List (Nat × Nat)) (p : Nat × Nat) (q : Nat) (f : Nat → Bool) (t : Nat), (∀ p' ∈ p :: l, p'.1 ≤ p'.2 ∧ p'.2 ≤ 1000) → (runT p ++ (restT l ++ mostT m)).length < q →
    refV q f none t (runT p ++ (restT l ++ mostT m)) = .ok (fun i => f i || inRuns (p :: l) i) m
  | l, p, 0, f, t, _, hq => by omega
  | l, p, q + 1, f, t, hb, hq => by
    obtain ⟨h1, h2⟩ := hb p List.mem_cons_self
    obtain ⟨k, hk, ho, hk0⟩ := one_run_text h1 h2 (sep_rest l m)
    rw [refV, ho]
    dsimp only
    have hbad : badItem p.1 p.2 1 = false := by unfold badItem; rw [decide_eq_false_iff_not]; omega
    have hmk : marksV f p.1 p.2 1 = fun i => f i || decide (p.1 ≤ i ∧ i ≤ p.2) := by
      unfold marksV; rw [hbad, if_neg (by simp)]; funext i; rw [inRun_one]
    have hfl : faultV none p.1 p.2 1 t = none := by unfold faultV; rw [hbad, if_neg (by simp)]
    rw [hk, List.drop_left, hmk, hfl]
    cases l with
    | nil =>
      show (if (mostT m).head? = some 44 then _ else tailV _ none _ (mostT m)) = _
      rw [if_neg (by unfold mostT; split <;> simp), tail_most hm]
      congr 1
      funext i
      simp [inRuns]
    | cons p2 l =>
      show (if (44 :: (runT p2 ++ restT l) ++ mostT m).head? = some 44 then refV q _ none _ ((runT p2 ++ restT l) ++ mostT m) else _) = _
      rw [if_pos (show (44 :: (runT p2 ++ restT l) ++ mostT m).head? = some 44 from rfl), List.append_assoc, ref_runs m hm l p2 q _ _ (fun p' hp' => hb p' (List.mem_cons_of_mem _ hp')) (by
        have e : restT (p2 :: l) = 44 :: (runT p2 ++ restT l) := rfl
        rw [e] at hq
        simp only [List.length_append, List.length_cons] at hq ⊢
        omega)]
      congr 1
      funext i
      simp [inRuns, Bool.or_assoc]
/-- What may be. -/
structure OkN (l : List Nat) (m : Nat) : Prop where
  ne : l ≠ []
  inc : l.Pairwise (· < ·)
  le : ∀ x ∈ l, x ≤ 1000
  most : m ≤ 1000
theorem ix_print {l : List Nat} {m : Nat} (h : OkN l m) : ∃ f, parseM (printT l m) = .ok f m ∧ ∀ i, f i = decide (i ∈ l) := by
  cases l with
  | nil => exact absurd rfl h.ne
  | cons x r =>
    obtain ⟨b, t, e, hb⟩ := runs_head x r
    have hbd := runs_bound h.le
    refine ⟨fun i => false || inRuns (runsOf (x :: r)) i, ?_, fun i => ?_⟩
    · rw [parse_ref]
      have e2 : printT (x :: r) m = runT (x, b) ++ (restT t ++ mostT m) := by
        unfold printT; rw [e]
        show (runT (x, b) ++ restT t) ++ mostT m = _
        rw [List.append_assoc]
      rw [e] at hbd ⊢
      rw [e2]
      exact ref_runs m h.most t (x, b) _ _ 0 hbd (by omega)
    · show (false || inRuns (runsOf (x :: r)) i) = _
      rw [Bool.false_or]
      unfold inRuns
      rw [Bool.eq_iff_iff, List.any_eq_true, decide_eq_true_eq, mem_runs (x :: r) i]
      simp
def listF (f : Nat → Bool) : List Nat := (List.range 1001).filter f
theorem listF_inc (f : Nat → Bool) : (listF f).Pairwise (· < ·) := List.Pairwise.filter _ List.pairwise_lt_range
theorem mem_listF (f : Nat → Bool) (i : Nat) : i ∈ listF f ↔ i ≤ 1000 ∧ f i = true := by
  unfold listF; rw [List.mem_filter, List.mem_range]; exact ⟨fun h => ⟨by omega, h.2⟩, fun h => ⟨by omega, h.2⟩⟩
theorem sorted_uniq : ∀ {a b : List Nat}, a.Pairwise (· < ·) → b.Pairwise (· < ·) → (∀ x, x ∈ a ↔ x ∈ b) → a = b
  | [], [], _, _, _ => rfl
  | [], y :: b, _, _, h => by have := (h y).2 List.mem_cons_self; cases this
  | x :: a, [], _, _, h => by have := (h x).1 List.mem_cons_self; cases this
  | x :: a, y :: b, ha, hb, h => by
    obtain ⟨a1, a2⟩ := List.pairwise_cons.1 ha
    obtain ⟨b1, b2⟩ := List.pairwise_cons.1 hb
    have hxy : x = y := by
      rcases List.mem_cons.1 ((h x).1 List.mem_cons_self) with e | e
      · exact e
      · rcases List.mem_cons.1 ((h y).2 List.mem_cons_self) with e' | e'
        · exact e'.symm
        · have := b1 x e; have := a1 y e'; omega
    subst hxy
    refine congrArg _ (sorted_uniq a2 b2 fun z => ?_)
    constructor
    · intro hz
      rcases List.mem_cons.1 ((h z).1 (List.mem_cons_of_mem _ hz)) with e | e
      · have := a1 z hz; omega
      · exact e
    · intro hz
      rcases List.mem_cons.1 ((h z).2 (List.mem_cons_of_mem _ hz)) with e | e
      · have := b1 z hz; omega
      · exact e
theorem list_print {l : List Nat} {m : Nat} (h : OkN l m) {f : Nat → Bool} (hf : ∀ i, f i = decide (i ∈ l)) : listF f = l :=
  sorted_uniq (listF_inc f) h.inc fun x => by
    rw [mem_listF, hf, decide_eq_true_eq]
    exact ⟨fun h => h.2, fun hx => ⟨h.le x hx, hx⟩⟩
/-! What is read may be. -/
theorem done_ok {m m' : Nat → Bool} {f : Option Nat} {k n : Nat} (h : doneV m f k = .ok m' n) : f = none ∧ m' = m ∧ n = k := by
  unfold doneV at h
  cases f with
  | none => simp at h; exact ⟨rfl, h.1.symm, h.2.symm⟩
  | some p => simp at h
theorem tail_ok {m m' : Nat → Bool} {f : Option Nat} {t n : Nat} {r : Bs} (h : tailV m f t r = .ok m' n) : f = none ∧ m' = m ∧ n ≤ 1000 := by
  unfold tailV at h
  split at h
  · unfold mostV at h
    split at h
    · simp at h
    · split at h
      · simp at h
      · obtain ⟨h1, h2, h3⟩ := done_ok h
        split at h1
        · simp at h1
        · rename_i hb
          refine ⟨h1, h2, ?_⟩
          unfold badMost at hb
          rw [decide_eq_true_eq] at hb
          omega
  · split at h
    · simp at h
    · obtain ⟨h1, h2, h3⟩ := done_ok h
      exact ⟨h1, h2, by omega⟩
theorem ref_ok : ∀ (q : Nat) (m m' : Nat → Bool) (f : Option Nat) (t n : Nat) (r : Bs), refV q m f t r = .ok m' n → f = none ∧ n ≤ 1000 ∧ (∀ i, m i = true → m' i = true) ∧ ∃ i, i ≤ 1000 ∧ m' i = true
  | 0, _, _, _, _, _, _, h => by simp [refV] at h
  | q + 1, m, m', f, t, n, r, h => by
    rw [refV] at h
    cases ho : oneV r with
    | wrong k => rw [ho] at h; simp at h
    | item a b c k =>
      rw [ho] at h
      dsimp only at h
      have key : faultV f a b c t = none → f = none ∧ (∀ i, m i = true → marksV m a b c i = true) ∧ a ≤ 1000 ∧ marksV m a b c a = true := by
        intro hf
        unfold faultV at hf
        split at hf
        · simp at hf
        · rename_i hb
          have hb' : ¬ (1000 < a ∨ 1000 < b ∨ 1000 < c ∨ b < a ∨ c = 0) := by simpa [badItem] using hb
          have e : marksV m a b c = fun i => m i || inRun a b c i := by unfold marksV; rw [if_neg hb]
          rw [e]
          refine ⟨hf, fun i hi => by simp [hi], by omega, ?_⟩
          have : inRun a b c a = true := by unfold inRun; rw [decide_eq_true_eq]; exact ⟨Nat.le_refl _, by omega, by rw [Nat.sub_self, Nat.zero_mod]⟩
          simp [this]
      split at h
      · obtain ⟨i1, i2, i3, i4⟩ := ref_ok q _ _ _ _ _ _ h
        obtain ⟨k1, k2, k3, k4⟩ := key i1
        exact ⟨k1, i2, fun i hi => i3 i (k2 i hi), a, k3, i3 a k4⟩
      · obtain ⟨i1, i2, i3⟩ := tail_ok h
        obtain ⟨k1, k2, k3, k4⟩ := key i1
        subst i2
        exact ⟨k1, i3, k2, a, k3, k4⟩
theorem parse_okN {l : Bs} {f : Nat → Bool} {n : Nat} (h : parseM l = .ok f n) : OkN (listF f) n := by
  rw [parse_ref] at h
  obtain ⟨_, h2, _, i, h3, h4⟩ := ref_ok _ _ _ _ _ _ _ h
  have h5 : i ∈ listF f := (mem_listF f i).2 ⟨h3, h4⟩
  exact ⟨(fun e => by rw [e] at h5; cases h5), listF_inc f, fun x hx => ((mem_listF f x).1 hx).1, h2⟩
/-! How long the text is. -/
theorem D_len {n : Nat} (h : n < 10000) : (D n).length ≤ 4 := (numR_D h (r := []) (fun c h => by simp at h)).2.2
theorem rest_len : ∀ (l : List Nat), (∀ x ∈ l, x ≤ 1000) → (restT (runsOf l)).length ≤ 5 * l.length ∧ ∀ b t x r, l = x :: r → runsOf l = (x, b) :: t → b ≠ x → (restT (runsOf l)).length ≤ 5 * l.length ∧ (restT t).length + 10 ≤ 5 * l.length
  | [], _ => ⟨Nat.le_refl _, fun _ _ _ _ h => by cases h⟩
  | [x], h => by
    have hx := D_len (n := x) (by have := h x (by simp); omega)
    refine ⟨?_, fun b t y r e1 e2 hb => ?_⟩
    · show (44 :: runT (x, x) ++ []).length ≤ 5
      unfold runT
      rw [if_pos rfl]; simp; exact hx
    · have : runsOf [x] = [(x, x)] := rfl
      rw [this] at e2
      simp at e2 e1
      omega
  | x :: y :: r, h => by
    have hx := D_len (n := x) (by have := h x (by simp); omega)
    obtain ⟨i1, i2⟩ := rest_len (y :: r) fun z hz => h z (List.mem_cons_of_mem _ hz)
    obtain ⟨b, t, e, hb⟩ := runs_head y r
    have hbM : b ≤ 1000 := by
      have := runs_bound (l := y :: r) (M := 1000) fun z hz => h z (List.mem_cons_of_mem _ hz)
      exact (this (y, b) (by rw [e]; exact List.mem_cons_self)).2
    have hbd := D_len (n := b) (by omega)
    have hrun : ∀ a b : Nat, a < 10000 → b < 10000 → (runT (a, b)).length ≤ 9 ∧ (a = b → (runT (a, b)).length ≤ 4) := by
      intro a b ha hb
      have h1 := D_len ha
      have h2 := D_len hb
      unfold runT
      dsimp only
      split
      · exact ⟨by omega, fun _ => h1⟩
      · rename_i hne; exact ⟨by simp; omega, fun h => absurd h hne⟩
    have hx1 : x ≤ 1000 := h x (by simp)
    have hrest : (restT (runsOf (y :: r))).length = (runT (y, b)).length + 1 + (restT t).length := by
      rw [e]; show (44 :: runT (y, b) ++ restT t).length = _; simp; omega
    have e2 : runsOf (x :: y :: r) = if y = x + 1 then (x, b) :: t else (x, x) :: (y, b) :: t := runs_cons e
    have ht : (restT t).length + 5 ≤ 5 * (y :: r).length := by
      by_cases hby : b = y
      · have h5 : 1 ≤ (runT (y, b)).length := by
          unfold runT; dsimp only; rw [if_pos hby.symm]
          exact (numR_D (n := y) (by omega) (r := []) (fun c h => by simp at h)).2.1
        -- a run of one: its text may be short: count it through the list itself
        cases r with
        | nil =>
          have : runsOf [y] = [(y, y)] := rfl
          rw [this] at e; simp at e
          obtain ⟨_, rfl⟩ := e; simp [restT]
        | cons z r =>
          obtain ⟨b2, t2, e3, hb2⟩ := runs_head z r
          have e4 : runsOf (y :: z :: r) = if z = y + 1 then (y, b2) :: t2 else (y, y) :: (z, b2) :: t2 := runs_cons e3
          rw [e4] at e
          split at e
          · simp at e; omega
          · simp at e
            have i3 := (rest_len (z :: r) fun w hw => h w (List.mem_cons_of_mem _ (List.mem_cons_of_mem _ hw))).1
            rw [← e.2, ← e3]
            simp only [List.length_cons] at i3 ⊢
            omega
      · have := (i2 b t y r rfl e hby).2
        omega
    simp only [List.length_cons] at i1 ht ⊢
    rw [e2]
    split
    · have hr := (hrun x b (by omega) (by omega)).1
      have hl : (restT ((x, b) :: t)).length = (runT (x, b)).length + 1 + (restT t).length := by
        show (44 :: runT (x, b) ++ restT t).length = _; simp; omega
      refine ⟨by omega, fun b' t' x' r' h1 h2 h3 => ?_⟩
      simp at h2
      obtain ⟨⟨_, rfl⟩, rfl⟩ := h2
      exact ⟨by omega, by omega⟩
    · have hr := (hrun x x (by omega) (by omega)).2 rfl
      have hl : (restT ((x, x) :: (y, b) :: t)).length = (runT (x, x)).length + 1 + ((runT (y, b)).length + 1 + (restT t).length) := by
        show (44 :: runT (x, x) ++ (44 :: runT (y, b) ++ restT t)).length = _; simp; omega
      refine ⟨by omega, fun b' t' x' r' h1 h2 h3 => ?_⟩
      simp at h2 h1
      omega
theorem print_len {l : List Nat} {m : Nat} (h : OkN l m) : (printT l m).length ≤ 5 * l.length + 5 := by
  have h1 := (rest_len l h.le).1
  have h2 : (joinT (runsOf l)).length ≤ (restT (runsOf l)).length := by
    cases runsOf l with
    | nil => exact Nat.le_refl _
    | cons p t => show (runT p ++ restT t).length ≤ (44 :: runT p ++ restT t).length; simp
  have h3 : (mostT m).length ≤ 5 := by
    have := D_len (n := m) (by have := h.most; omega)
    unfold mostT; split <;> simp; exact this
  unfold printT
  rw [List.length_append]; omega
end Go.Proofs.YtdhkinknhjpjmaaDoor
