/-
  Accounts as a tree, plainly: totals, shares and norms. No program is imported.
  Accounts as a tree, plainly: what the laws of layer 11 say of sums, norms and factors. No program is imported.
-/
import Derived.Test.YtbnlmeegepgioaaDoorCf
namespace Go.Proofs.YtbnlmeegepgioaaDoor
set_option linter.unusedVariables false

section

def sumN : Nat → (Nat → Nat) → Nat
  | 0, _ => 0
  | n + 1, f => sumN n f + f n
theorem sumN_congr {n : Nat} {f g : Nat → Nat} (h : ∀ k, k < n → f k = g k) : sumN n f = sumN n g := by
  induction n with
  | zero => rfl
  | succ n ih => rw [sumN, sumN, ih fun k hk => h k (by omega), h n (by omega)]
theorem sumN_zero {n : Nat} {f : Nat → Nat} (h : ∀ k, k < n → f k = 0) : sumN n f = 0 := by
  induction n with
  | zero => rfl
  | succ n ih => rw [sumN, ih fun k hk => h k (by omega), h n (by omega)]
theorem sumN_mono {n m : Nat} {f : Nat → Nat} (h : n ≤ m) : sumN n f ≤ sumN m f := by
  induction m with
  | zero => have : n = 0 := by omega
            rw [this]; exact Nat.le_refl _
  | succ m ih =>
    rcases (by omega : n = m + 1 ∨ n ≤ m) with rfl | h1
    · exact Nat.le_refl _
    · rw [sumN]; have := ih h1; omega
theorem sumN_le {n : Nat} {f : Nat → Nat} {c : Nat} (h : ∀ k, k < n → f k ≤ c) : sumN n f ≤ n * c := by
  induction n with
  | zero => simp [sumN]
  | succ n ih => rw [sumN, Nat.succ_mul]; have := ih fun k hk => h k (by omega); have := h n (by omega); omega
theorem sumN_at {n j : Nat} {f : Nat → Nat} (h : j < n) : f j ≤ sumN n f := by
  have h1 : f j ≤ sumN (j + 1) f := by rw [sumN]; omega
  exact Nat.le_trans h1 (sumN_mono h)
/-- One more at j. -/
theorem sumN_step {n j : Nat} {f g : Nat → Nat} (hj : j < n) (h : ∀ k, k < n → k ≠ j → f k = g k) : sumN n f + g j = sumN n g + f j := by
  induction n with
  | zero => omega
  | succ n ih =>
    rw [sumN, sumN]
    rcases (by omega : j < n ∨ j = n) with h1 | rfl
    · have := ih h1 fun k hk => h k (by omega)
      have := h n (by omega) (by omega)
      omega
    · have := sumN_congr (n := j) (f := f) (g := g) fun k hk => h k (by omega) (by omega)
      omega
/-- Where an account's parent stands: 0 for the first one. -/
def parI (l : List AcT) (i : Nat) : Nat := ((l.map (·.1)).take i).findIdx (fun x => decide (x = (l.map (·.2.1)).getD i ByteArray.empty)) % max i 1
def nmI (l : List AcT) (i : Nat) : ByteArray := (l.map (·.1)).getD i ByteArray.empty
def upI (l : List AcT) (i : Nat) : ByteArray := (l.map (·.2.1)).getD i ByteArray.empty
def shI (l : List AcT) (i : Nat) : Nat := ((l.map fun a : AcT => a.2.2).getD i 0).toNat
theorem nmI_at {l : List AcT} {i : Nat} (h : i < l.length) : nmI l i = l[i].1 := by unfold nmI; rw [List.getD_eq_getElem?_getD, List.getElem?_map, List.getElem?_eq_getElem h]; rfl
theorem upI_at {l : List AcT} {i : Nat} (h : i < l.length) : upI l i = l[i].2.1 := by unfold upI; rw [List.getD_eq_getElem?_getD, List.getElem?_map, List.getElem?_eq_getElem h]; rfl
theorem shI_at {l : List AcT} {i : Nat} (h : i < l.length) : shI l i = l[i].2.2.toNat := by unfold shI; rw [List.getD_eq_getElem?_getD, List.getElem?_map, List.getElem?_eq_getElem h]; rfl
/-- What holds of accounts that may be, by places alone. -/
structure Tree (l : List AcT) : Prop where
  n1 : 1 ≤ l.length
  n50 : l.length ≤ 50
  nw : ∀ i j, i < l.length → j < l.length → nmI l i = nmI l j → i = j
  ne : ∀ i, i < l.length → nmI l i ≠ ByteArray.empty
  top : upI l 0 = ByteArray.empty
  lt : ∀ i, i < l.length → 0 < i → parI l i < i
  up : ∀ i, i < l.length → 0 < i → nmI l (parI l i) = upI l i
  p0 : parI l 0 = 0
  sh : ∀ i, i < l.length → 1 ≤ shI l i ∧ shI l i ≤ 1048576
theorem Tree.mk' {l : List AcT} (h : AccOk l) : Tree l := by
  obtain ⟨h1, h2, h3, h4⟩ := h
  have hnw : ∀ i j, i < l.length → j < i → nmI l j ≠ nmI l i := fun i j hi hj => by
    rw [nmI_at hi, nmI_at (by omega)]; exact h3.nw i hi hi j hj
  have hup : ∀ i, i < l.length → 0 < i → parI l i < i ∧ nmI l (parI l i) = upI l i := fun i hi h0 => by
    rcases h4 i hi hi with ⟨h5, _⟩ | ⟨_, h5⟩
    · omega
    · have hm : (l.map (·.2.1)).getD i ByteArray.empty ∈ (l.map (·.1)).take i := by
        have := upI_at hi
        unfold upI at this
        rw [this, ← List.map_take]; exact h5
      have hlt : ((l.map (·.1)).take i).findIdx (fun x => decide (x = (l.map (·.2.1)).getD i ByteArray.empty)) < ((l.map (·.1)).take i).length := List.findIdx_lt_length_of_exists ⟨_, hm, decide_eq_true rfl⟩
      have hg := of_decide_eq_true (List.findIdx_getElem (w := hlt))
      have hli : ((l.map (·.1)).take i).length ≤ i := by rw [List.length_take]; omega
      have hmax : max i 1 = i := by omega
      have he : parI l i = ((l.map (·.1)).take i).findIdx (fun x => decide (x = (l.map (·.2.1)).getD i ByteArray.empty)) := by unfold parI; rw [hmax]; exact Nat.mod_eq_of_lt (by omega)
      refine ⟨by rw [he]; omega, ?_⟩
      rw [he]
      unfold upI
      rw [nmI_at (by omega)]
      rw [List.getElem_take, List.getElem_map] at hg
      exact hg
  refine ⟨h1, h2, fun i j hi hj e => ?_, fun i hi e => ?_, ?_, fun i hi h0 => (hup i hi h0).1, fun i hi h0 => (hup i hi h0).2, ?_, fun i hi => ?_⟩
  · rcases Nat.lt_trichotomy i j with h | h | h
    · exact absurd e (hnw j i hj h)
    · exact h
    · exact absurd e.symm (hnw i j hi h)
  · have := h3.el i hi hi
    rw [nmI_at hi] at e
    unfold acOk at this
    rw [Bool.and_eq_true, e] at this
    have h5 : nameB ByteArray.empty = false := by decide
    rw [h5] at this; cases this.1
  · rcases h4 0 (by omega) (by omega) with ⟨_, h5⟩ | ⟨h5, _⟩
    · rw [upI_at (by omega)]; exact h5
    · omega
  · unfold parI; simp
  · have := h3.el i hi hi
    unfold acOk at this
    rw [Bool.and_eq_true, inR_iff] at this
    rw [shI_at hi]
    omega
/-- An account is the parent of another one, by name and by place. -/
theorem Tree.isUp {l : List AcT} (h : Tree l) {k i : Nat} (hk : k < l.length) (hi : i < l.length) : upI l k = nmI l i ↔ 0 < k ∧ parI l k = i := by
  constructor
  · intro e
    rcases Nat.eq_zero_or_pos k with rfl | h0
    · rw [h.top] at e; exact absurd e.symm (h.ne i hi)
    · exact ⟨h0, h.nw _ _ (Nat.lt_trans (h.lt k hk h0) hk) hi ((h.up k hk h0).trans e)⟩
  · rintro ⟨h0, rfl⟩; exact (h.up k hk h0).symm
theorem Tree.sameUp {l : List AcT} (h : Tree l) {k i : Nat} (hk : k < l.length) (hi : i < l.length) (h0 : 0 < i) : upI l k = upI l i ↔ 0 < k ∧ parI l k = parI l i := by
  rw [← h.up i hi h0]
  exact h.isUp hk (Nat.lt_trans (h.lt i hi h0) hi)
/-- All that an account and those below it have used. -/
def totF (l : List AcT) (own : Nat → Nat) : Nat → Nat → Nat
  | 0, i => own i
  | f + 1, i => own i + sumN l.length fun k => if i < k ∧ parI l k = i then totF l own f k else 0
def totI (l : List AcT) (own : Nat → Nat) (i : Nat) : Nat := totF l own l.length i
theorem totF_enough (l : List AcT) (own : Nat → Nat) (f : Nat) : ∀ g i, l.length - i ≤ f → l.length - i ≤ g → totF l own f i = totF l own g i := by
  induction f with
  | zero =>
    intro g i h1 h2
    cases g with
    | zero => rfl
    | succ g =>
      rw [totF, totF]
      have : sumN l.length (fun k => if i < k ∧ parI l k = i then totF l own g k else 0) = 0 := sumN_zero fun k hk => if_neg fun h => by omega
      omega
  | succ f ih =>
    intro g i h1 h2
    cases g with
    | zero =>
      rw [totF, totF]
      have : sumN l.length (fun k => if i < k ∧ parI l k = i then totF l own f k else 0) = 0 := sumN_zero fun k hk => if_neg fun h => by omega
      omega
    | succ g =>
      rw [totF, totF]
      congr 1
      refine sumN_congr fun k hk => ?_
      by_cases hc : i < k ∧ parI l k = i
      · rw [if_pos hc, if_pos hc]; exact ih g k (by omega) (by omega)
      · rw [if_neg hc, if_neg hc]
theorem totI_eq (l : List AcT) (own : Nat → Nat) (i : Nat) : totI l own i = own i + sumN l.length fun k => if i < k ∧ parI l k = i then totI l own k else 0 := by
  unfold totI
  rw [totF_enough l own l.length (l.length + 1) i (by omega) (by omega), totF]
/-- With the accounts behind j alone. -/
def behI (l : List AcT) (own : Nat → Nat) (j m : Nat) : Nat := own m + sumN l.length fun k => if j < k ∧ parI l k = m then totI l own k else 0
theorem behI_last (l : List AcT) (own : Nat → Nat) (m : Nat) {j : Nat} (h : l.length ≤ j + 1) : behI l own j m = own m := by
  unfold behI
  rw [sumN_zero fun k hk => if_neg fun h => by omega]; rfl
theorem behI_own {l : List AcT} (h : Tree l) (own : Nat → Nat) {j m : Nat} (hj : j ≤ m) (hm : m < l.length) : behI l own j m = totI l own m := by
  rw [totI_eq]
  unfold behI
  congr 1
  refine sumN_congr fun k hk => ?_
  by_cases hp : parI l k = m
  · by_cases h0 : 0 < k
    · have := h.lt k hk h0
      rw [if_pos ⟨by omega, hp⟩, if_pos ⟨by omega, hp⟩]
    · rw [if_neg (by omega), if_neg (by omega)]
  · rw [if_neg fun h => hp h.2, if_neg fun h => hp h.2]
theorem behI_next {l : List AcT} (own : Nat → Nat) {j m : Nat} (hj : j + 1 < l.length) : behI l own j m = behI l own (j + 1) m + if parI l (j + 1) = m then totI l own (j + 1) else 0 := by
  unfold behI
  have h1 := sumN_step (n := l.length) (f := fun k => if j < k ∧ parI l k = m then totI l own k else 0) (g := fun k => if j + 1 < k ∧ parI l k = m then totI l own k else 0) hj fun k hk hne => by
    by_cases hc : j < k ∧ parI l k = m
    · rw [if_pos hc, if_pos ⟨by omega, hc.2⟩]
    · rw [if_neg hc, if_neg fun h => hc ⟨by omega, h.2⟩]
  rw [if_neg (fun h : j + 1 < j + 1 ∧ _ => by omega)] at h1
  have e : (if j < j + 1 ∧ parI l (j + 1) = m then totI l own (j + 1) else 0) = if parI l (j + 1) = m then totI l own (j + 1) else 0 := by
    by_cases hc : parI l (j + 1) = m
    · rw [if_pos hc, if_pos ⟨by omega, hc⟩]
    · rw [if_neg hc, if_neg fun h => hc h.2]
  rw [e] at h1
  omega
/-- As far as a number goes. -/
def capN (n : Nat) : Nat := min n 9223372036854775807
theorem cap_add (a b : Nat) : capN (capN a + capN b) = capN (a + b) := by unfold capN; omega
theorem cap_le (a : Nat) : capN a ≤ 9223372036854775807 := by unfold capN; omega
def sumI (l : List AcT) (own : Nat → Nat) (i : Nat) : Nat := capN (totI l own i)
theorem totI_le {l : List AcT} (h : Tree l) (own : Nat → Nat) {i : Nat} (hi : i < l.length) (h0 : 0 < i) : totI l own i ≤ totI l own (parI l i) := by
  rw [totI_eq l own (parI l i)]
  have := sumN_at (f := fun k => if parI l i < k ∧ parI l k = parI l i then totI l own k else 0) hi
  rw [if_pos ⟨h.lt i hi h0, rfl⟩] at this
  omega
theorem totI_top {l : List AcT} (h : Tree l) (own : Nat → Nat) : ∀ n i, i ≤ n → i < l.length → totI l own i ≤ totI l own 0 := by
  intro n
  induction n with
  | zero => intro i h1 h2; have : i = 0 := by omega
            rw [this]; exact Nat.le_refl _
  | succ n ih =>
    intro i h1 h2
    rcases Nat.eq_zero_or_pos i with rfl | h0
    · exact Nat.le_refl _
    · exact Nat.le_trans (totI_le h own h2 h0) (ih _ (by have := h.lt i h2 h0; omega) (by have := h.lt i h2 h0; omega))
/-- The shares of all children of one account. -/
def allI (l : List AcT) (p : Nat) : Nat := sumN l.length fun k => if 0 < k ∧ parI l k = p then shI l k else 0
theorem allI_le {l : List AcT} (h : Tree l) (p : Nat) : allI l p ≤ 52428800 := by
  refine Nat.le_trans (sumN_le (c := 1048576) fun k hk => ?_) (by have := h.n50; omega)
  by_cases hc : 0 < k ∧ parI l k = p
  · rw [if_pos hc]; exact (h.sh k hk).2
  · rw [if_neg hc]; omega
theorem allI_at {l : List AcT} {i : Nat} (hi : i < l.length) (h0 : 0 < i) : shI l i ≤ allI l (parI l i) := by
  have := sumN_at (f := fun k => if 0 < k ∧ parI l k = parI l i then shI l k else 0) hi
  rw [if_pos ⟨h0, rfl⟩] at this
  exact this
/-- What an account is entitled to. -/
def normF (l : List AcT) : Nat → Nat → Nat
  | 0, _ => 65536
  | f + 1, i => if i = 0 then 65536 else normF l f (parI l i) * shI l i / allI l (parI l i)
def normI (l : List AcT) (i : Nat) : Nat := normF l i i
theorem normF_enough {l : List AcT} (h : Tree l) : ∀ f g i, i ≤ f → i ≤ g → i < l.length → normF l f i = normF l g i := by
  intro f
  induction f with
  | zero =>
    intro g i h1 h2 h3
    have : i = 0 := by omega
    subst this
    cases g with
    | zero => rfl
    | succ g => rw [normF, normF, if_pos rfl]
  | succ f ih =>
    intro g i h1 h2 h3
    rcases Nat.eq_zero_or_pos i with rfl | h0
    · cases g with
      | zero => rw [normF, normF, if_pos rfl]
      | succ g => rw [normF, normF, if_pos rfl, if_pos rfl]
    · cases g with
      | zero => omega
      | succ g =>
        have := h.lt i h3 h0
        rw [normF, normF, if_neg (by omega), if_neg (by omega), ih g (parI l i) (by omega) (by omega) (by omega)]
theorem normI_zero (l : List AcT) : normI l 0 = 65536 := rfl
theorem normI_eq {l : List AcT} (h : Tree l) {i : Nat} (hi : i < l.length) (h0 : 0 < i) : normI l i = normI l (parI l i) * shI l i / allI l (parI l i) := by
  have h1 := h.lt i hi h0
  unfold normI
  rw [normF_enough h i (i + 1) i (by omega) (by omega) hi, normF, if_neg (by omega), normF_enough h i (parI l i) (parI l i) (by omega) (by omega) (by omega)]
theorem normI_le {l : List AcT} (h : Tree l) : ∀ n i, i ≤ n → i < l.length → normI l i ≤ 65536 := by
  intro n
  induction n with
  | zero => intro i h1 h2; have : i = 0 := by omega
            rw [this, normI_zero]; exact Nat.le_refl _
  | succ n ih =>
    intro i h1 h2
    rcases Nat.eq_zero_or_pos i with rfl | h0
    · rw [normI_zero]; exact Nat.le_refl _
    · have h3 := h.lt i h2 h0
      rw [normI_eq h h2 h0]
      have h4 := ih (parI l i) (by omega) (by omega)
      have h5 := allI_at h2 h0
      have h6 : normI l (parI l i) * shI l i ≤ 65536 * allI l (parI l i) := Nat.mul_le_mul h4 h5
      have h7 := (h.sh i h2).1
      exact Nat.div_le_of_le_mul (by rw [Nat.mul_comm (allI l (parI l i))]; exact h6)
def partI (l : List AcT) (own : Nat → Nat) (i : Nat) : Nat := 65536 * sumI l own i / sumI l own 0
theorem partI_le {l : List AcT} (h : Tree l) (own : Nat → Nat) {i : Nat} (hi : i < l.length) : partI l own i ≤ 65536 := by
  unfold partI
  have h1 : sumI l own i ≤ sumI l own 0 := by have := totI_top h own i i (by omega) hi; unfold sumI capN; omega
  exact Nat.div_le_of_le_mul (by rw [Nat.mul_comm (sumI l own 0)]; exact Nat.mul_le_mul_left _ h1)
def facI (l : List AcT) (own : Nat → Nat) (i : Nat) : Nat := 65536 * normI l i / (normI l i + partI l own i)
end

section

/-- Of the first k accounts those that stand below i: their shares, their norms, how many. -/
def chS (l : List AcT) (i n : Nat) : Nat := sumN n fun k => if 0 < k ∧ parI l k = i then shI l k else 0
def chN (l : List AcT) (i n : Nat) : Nat := sumN n fun k => if 0 < k ∧ parI l k = i then normI l k else 0
def chK (l : List AcT) (i n : Nat) : Nat := sumN n fun k => if 0 < k ∧ parI l k = i then 1 else 0
theorem chS_le {l : List AcT} (i : Nat) {n : Nat} (hn : n ≤ l.length) : chS l i n ≤ allI l i := sumN_mono hn
theorem ch_step {l : List AcT} (h : Tree l) (i : Nat) : ∀ n, n ≤ l.length → allI l i * chN l i n ≤ normI l i * chS l i n ∧ normI l i * chS l i n + chK l i n ≤ allI l i * (chN l i n + chK l i n) := by
  intro n
  induction n with
  | zero => intro _; unfold chS chN chK sumN; simp
  | succ n ih =>
    intro hn
    obtain ⟨h1, h2⟩ := ih (by omega)
    have e1 : chS l i (n + 1) = chS l i n + if 0 < n ∧ parI l n = i then shI l n else 0 := rfl
    have e2 : chN l i (n + 1) = chN l i n + if 0 < n ∧ parI l n = i then normI l n else 0 := rfl
    have e3 : chK l i (n + 1) = chK l i n + if 0 < n ∧ parI l n = i then 1 else 0 := rfl
    rw [e1, e2, e3]
    by_cases hc : 0 < n ∧ parI l n = i
    · rw [if_pos hc, if_pos hc, if_pos hc]
      have hq := normI_eq h (by omega : n < l.length) hc.1
      have ha := allI_at (l := l) (by omega : n < l.length) hc.1
      have hs := h.sh n (by omega)
      rw [hc.2] at hq ha
      have hA : 0 < allI l i := by omega
      have d1 := Nat.div_mul_le_self (normI l i * shI l n) (allI l i)
      have d2 := Nat.lt_div_mul_add (a := normI l i * shI l n) hA
      rw [← hq] at d1 d2
      rw [Nat.mul_comm (normI l n)] at d1 d2
      have x1 : allI l i * (chN l i n + normI l n) = allI l i * chN l i n + allI l i * normI l n := Nat.mul_add _ _ _
      have x2 : normI l i * (chS l i n + shI l n) = normI l i * chS l i n + normI l i * shI l n := Nat.mul_add _ _ _
      have x3 : allI l i * (chN l i n + normI l n + (chK l i n + 1)) = allI l i * (chN l i n + chK l i n) + allI l i * normI l n + allI l i := by simp only [Nat.mul_add, Nat.mul_one]; omega
      rw [x1, x2, x3]
      clear x1 x2 x3 hq
      generalize allI l i * chN l i n = A1 at *
      generalize normI l i * chS l i n = A2 at *
      generalize allI l i * (chN l i n + chK l i n) = A3 at *
      generalize allI l i * normI l n = A4 at *
      generalize normI l i * shI l n = A5 at *
      omega
    · rw [if_neg hc, if_neg hc, if_neg hc]
      exact ⟨h1, h2⟩
/-- Children's norms are together at most their parent's. -/
theorem ch_le {l : List AcT} (h : Tree l) (i : Nat) : chN l i l.length ≤ normI l i := by
  have h1 := (ch_step h i l.length (Nat.le_refl _)).1
  have e : chS l i l.length = allI l i := rfl
  rw [e] at h1
  rcases Nat.eq_zero_or_pos (allI l i) with h0 | h0
  · have : chN l i l.length = 0 := by
      unfold chN
      refine sumN_zero fun k hk => ?_
      by_cases hc : 0 < k ∧ parI l k = i
      · have := allI_at (l := l) hk hc.1
        have := h.sh k hk
        rw [hc.2] at *
        omega
      · rw [if_neg hc]
    omega
  · rw [Nat.mul_comm (normI l i)] at h1
    exact Nat.le_of_mul_le_mul_left h1 h0
/-- And less than that by fewer than there are children. -/
theorem ch_lt {l : List AcT} (h : Tree l) (i : Nat) (hk : 0 < chK l i l.length) : normI l i < chN l i l.length + chK l i l.length := by
  have h1 := (ch_step h i l.length (Nat.le_refl _)).2
  have e : chS l i l.length = allI l i := rfl
  rw [e] at h1
  have h2 : allI l i * normI l i < allI l i * (chN l i l.length + chK l i l.length) := by rw [Nat.mul_comm (allI l i) (normI l i)]; omega
  exact Nat.lt_of_mul_lt_mul_left h2
theorem chK_pos {l : List AcT} {i : Nat} : ∀ {n : Nat}, 0 < chK l i n → ∃ k, k < n ∧ 0 < k ∧ parI l k = i := by
  intro n
  induction n with
  | zero => intro h; unfold chK sumN at h; omega
  | succ n ih =>
    intro h
    have e3 : chK l i (n + 1) = chK l i n + if 0 < n ∧ parI l n = i then 1 else 0 := rfl
    by_cases hc : 0 < n ∧ parI l n = i
    · exact ⟨n, by omega, hc⟩
    · rw [if_neg hc] at e3
      obtain ⟨k, h1, h2⟩ := ih (by omega)
      exact ⟨k, by omega, h2⟩
theorem sumI_up {l : List AcT} (h : Tree l) (own : Nat → Nat) {i : Nat} (hi : i < l.length) (h0 : 0 < i) : sumI l own i ≤ sumI l own (parI l i) := by
  have := totI_le h own hi h0
  unfold sumI capN; omega
theorem sumI_top {l : List AcT} (h : Tree l) (own : Nat → Nat) {i : Nat} (hi : i < l.length) : sumI l own i ≤ sumI l own 0 := by
  have := totI_top h own i i (Nat.le_refl _) hi
  unfold sumI capN; omega
theorem own_le (l : List AcT) (own : Nat → Nat) (i : Nat) (h : own i ≤ 9223372036854775807) : own i ≤ sumI l own i := by
  have := totI_eq l own i
  unfold sumI capN; omega
theorem facI_le (l : List AcT) (own : Nat → Nat) (i : Nat) : facI l own i ≤ 65536 := by
  unfold facI
  refine Nat.div_le_of_le_mul ?_
  rw [Nat.mul_comm]
  exact Nat.mul_le_mul_right _ (by omega)
theorem facI_whole (l : List AcT) (own : Nat → Nat) (i : Nat) (h : sumI l own i = 0) (hn : 0 < normI l i) : facI l own i = 65536 := by
  unfold facI partI
  rw [h, Nat.mul_zero, Nat.zero_div, Nat.add_zero, Nat.mul_div_cancel _ hn]
/-- Numbers ahead of i say nothing of what those from i on have used. -/
theorem totI_congr {l : List AcT} {own own' : Nat → Nat} : ∀ f i, l.length - i ≤ f → (∀ k, i ≤ k → own k = own' k) → totI l own i = totI l own' i := by
  intro f
  induction f with
  | zero =>
    intro i h1 h2
    rw [totI_eq, totI_eq l own', h2 i (Nat.le_refl _)]
    congr 1
    refine sumN_congr fun k hk => ?_
    rw [if_neg fun h => by omega, if_neg fun h => by omega]
  | succ f ih =>
    intro i h1 h2
    rw [totI_eq, totI_eq l own', h2 i (Nat.le_refl _)]
    congr 1
    refine sumN_congr fun k hk => ?_
    by_cases hc : i < k ∧ parI l k = i
    · rw [if_pos hc, if_pos hc, ih k (by omega) fun j hj => h2 j (by omega)]
    · rw [if_neg hc, if_neg hc]
theorem sumN_add {n : Nat} {f g : Nat → Nat} : sumN n (fun k => f k + g k) = sumN n f + sumN n g := by
  induction n with
  | zero => rfl
  | succ n ih => rw [sumN, sumN, sumN, ih]; omega
theorem sumN_one {n p c : Nat} (h : p < n) : sumN n (fun m => if p = m then c else 0) = c := by
  have := sumN_step (n := n) (j := p) (f := fun m => if p = m then c else 0) (g := fun _ => 0) h fun k hk hne => if_neg fun e => hne e.symm
  rw [if_pos rfl, sumN_zero (fun _ _ => rfl)] at this
  omega
/-- What all have used is the first one's sum. -/
theorem beh_all {l : List AcT} (h : Tree l) (own : Nat → Nat) : ∀ d j, j + d + 1 = l.length → sumN (j + 1) (behI l own j) = sumN l.length own := by
  intro d
  induction d with
  | zero =>
    intro j hj
    rw [← hj]
    exact sumN_congr fun k hk => behI_last l own k (by omega)
  | succ d ih =>
    intro j hj
    rw [← ih (j + 1) (by omega)]
    have e0 : sumN (j + 1 + 1) (behI l own (j + 1)) = sumN (j + 1) (behI l own (j + 1)) + behI l own (j + 1) (j + 1) := rfl
    rw [e0, behI_own h own (Nat.le_refl _) (by omega : j + 1 < l.length)]
    have hp := h.lt (j + 1) (by omega) (by omega)
    rw [sumN_congr (g := fun m => behI l own (j + 1) m + if parI l (j + 1) = m then totI l own (j + 1) else 0) fun m _ => behI_next own (by omega)]
    rw [sumN_add, sumN_one hp]
theorem tot_all {l : List AcT} (h : Tree l) (own : Nat → Nat) : totI l own 0 = sumN l.length own := by
  have h1 := h.n1
  rw [← beh_all h own (l.length - 1) 0 (by omega), sumN, sumN, behI_own h own (Nat.le_refl _) (by omega)]
  omega
/-- With m more used by k. -/
def moreAt (own : Nat → Nat) (k m : Nat) : Nat → Nat := fun j => if j = k then own j + m else own j
theorem tot_more {l : List AcT} (h : Tree l) (own : Nat → Nat) {k : Nat} (m : Nat) (hk : k < l.length) : totI l (moreAt own k m) 0 = totI l own 0 + m := by
  rw [tot_all h, tot_all h]
  have := sumN_step (n := l.length) (j := k) (f := moreAt own k m) (g := own) hk fun i hi hne => if_neg hne
  have e : moreAt own k m k = own k + m := if_pos rfl
  omega
theorem tot_more_at {l : List AcT} (own : Nat → Nat) (k m : Nat) : totI l (moreAt own k m) k = totI l own k + m := by
  rw [totI_eq, totI_eq l own k]
  have e : moreAt own k m k = own k + m := if_pos rfl
  rw [e, sumN_congr (f := fun j => if k < j ∧ parI l j = k then totI l (moreAt own k m) j else 0) (g := fun j => if k < j ∧ parI l j = k then totI l own j else 0) fun j hj => ?_]
  · omega
  · by_cases hc : k < j ∧ parI l j = k
    · rw [if_pos hc, if_pos hc]
      exact totI_congr l.length j (by omega) fun i hi => if_neg (by omega)
    · rw [if_neg hc, if_neg hc]
theorem frac_mono {a b m : Nat} (h : a ≤ b) : 65536 * a / b ≤ 65536 * (a + m) / (b + m) := by
  rcases Nat.eq_zero_or_pos b with rfl | hb
  · simp
  · rw [Nat.le_div_iff_mul_le (by omega)]
    have d1 := Nat.div_mul_le_self (65536 * a) b
    have hq : 65536 * a / b ≤ 65536 := Nat.div_le_of_le_mul (by rw [Nat.mul_comm b]; exact Nat.mul_le_mul_left _ h)
    have h2 := Nat.mul_le_mul_right m hq
    generalize 65536 * a / b = q at *
    rw [Nat.mul_add, Nat.mul_add]
    omega
/-- Whoever has used more has no greater factor. -/
theorem fac_falls {l : List AcT} (h : Tree l) (own : Nat → Nat) {k m : Nat} (hk : k < l.length) (h0 : sumI l own 0 ≤ 1000000000000) (hm : m ≤ 65535) : facI l (moreAt own k m) k ≤ facI l own k := by
  have t0 : totI l own 0 ≤ 1000000000000 := by unfold sumI capN at h0; omega
  have tk := totI_top h own k k (Nat.le_refl _) hk
  have e1 : sumI l own 0 = totI l own 0 := by unfold sumI capN; omega
  have e2 : sumI l own k = totI l own k := by unfold sumI capN; omega
  have e3 : sumI l (moreAt own k m) 0 = totI l own 0 + m := by unfold sumI capN; rw [tot_more h own m hk]; omega
  have e4 : sumI l (moreAt own k m) k = totI l own k + m := by unfold sumI capN; rw [tot_more_at]; omega
  have hp : partI l own k ≤ partI l (moreAt own k m) k := by
    unfold partI
    rw [e1, e2, e3, e4]
    exact frac_mono tk
  unfold facI
  rcases Nat.eq_zero_or_pos (normI l k) with hn | hn
  · rw [hn]; simp
  · exact Nat.div_le_div_left (by omega) (by omega)
theorem same_par {l : List AcT} (h : Tree l) {i k : Nat} (hi : i < l.length) (hk : k < l.length) (e : upI l i = upI l k) : (i = 0 ∧ k = 0) ∨ (0 < i ∧ 0 < k ∧ parI l i = parI l k) := by
  rcases Nat.eq_zero_or_pos i with rfl | h0
  · rcases Nat.eq_zero_or_pos k with rfl | h1
    · exact .inl ⟨rfl, rfl⟩
    · rw [h.top, ← h.up k hk h1] at e
      exact absurd e.symm (h.ne _ (Nat.lt_trans (h.lt k hk h1) hk))
  · obtain ⟨h1, h2⟩ := (h.sameUp hk hi h0).1 e.symm
    exact .inr ⟨h0, h1, h2.symm⟩
theorem norm_alike {l : List AcT} (h : Tree l) {i k : Nat} (hi : i < l.length) (hk : k < l.length) (e : upI l i = upI l k) (hs : shI l k ≤ shI l i) : normI l k ≤ normI l i := by
  rcases same_par h hi hk e with ⟨rfl, rfl⟩ | ⟨h1, h2, h3⟩
  · exact Nat.le_refl _
  · rw [normI_eq h hi h1, normI_eq h hk h2, h3]
    exact Nat.div_le_div_right (Nat.mul_le_mul_left _ hs)
theorem fac_alike {l : List AcT} (own : Nat → Nat) {i k : Nat} (hn : normI l i = normI l k) (hs : sumI l own i = sumI l own k) : facI l own i = facI l own k := by
  unfold facI partI; rw [hn, hs]
end

end Go.Proofs.YtbnlmeegepgioaaDoor
