/-
  The yard, plainly: the first free block of the least order that is enough; how many workers are free. No program is imported.
-/
import Derived.Test.YtcdlfhheolbhaaaYdR
namespace Go.Proofs.Ytcdlfhheolbhaaa
set_option linter.unusedVariables false

/-- The first one of the least order that is enough, among the first k. -/
inductive BestR (F : List Bk) (o k : Nat) : Int → Prop
  | none (h : ∀ j (hj : j < F.length), j < k → F[j].2 < o) : BestR F o k (-1)
  | some (m : Nat) (hm : m < F.length) (hk : m < k) (ho : o ≤ F[m].2) (hle : ∀ j (hj : j < F.length), j < k → o ≤ F[j].2 → F[m].2 ≤ F[j].2) (hlt : ∀ j (hj : j < F.length), j < m → o ≤ F[j].2 → F[m].2 < F[j].2) : BestR F o k (m : Int)
theorem BestR.zero (F : List Bk) (o : Nat) : BestR F o 0 (-1) := .none fun j _ h => by omega
theorem BestR.skip {F : List Bk} {o k : Nat} {b : Int} (h : BestR F o k b) (hk : k < F.length) (hlt : F[k].2 < o) : BestR F o (k + 1) b := by
  cases h with
  | none h =>
    exact .none fun j hj hjk => by
      rcases (by omega : j < k ∨ j = k) with e | rfl
      · exact h j hj e
      · exact hlt
  | some m hm hmk ho hle hl =>
    exact .some m hm (by omega) ho (fun j hj hjk hoj => by
      rcases (by omega : j < k ∨ j = k) with e | rfl
      · exact hle j hj e hoj
      · omega) hl
theorem BestR.first {F : List Bk} {o k : Nat} (h : BestR F o k (-1)) (hk : k < F.length) (ho : o ≤ F[k].2) : BestR F o (k + 1) (k : Int) := by
  generalize hb : (-1 : Int) = b at h
  cases h with
  | none h =>
    exact .some k hk (by omega) ho (fun j hj hjk hoj => by
      rcases (by omega : j < k ∨ j = k) with e | rfl
      · have := h j hj e; omega
      · exact Nat.le_refl _) fun j hj hjk hoj => by have := h j hj hjk; omega
  | some m hm hmk ho hle hl => omega
theorem BestR.worse {F : List Bk} {o k m : Nat} (h : BestR F o k (m : Int)) (hk : k < F.length) (hm' : m < F.length) (hge : F[m].2 ≤ F[k].2) : BestR F o (k + 1) (m : Int) := by
  generalize hb : (m : Int) = b at h
  cases h with
  | none h => omega
  | some m' hm hmk ho hle hl =>
    obtain rfl : m = m' := by omega
    exact .some m hm (by omega) ho (fun j hj hjk hoj => by
      rcases (by omega : j < k ∨ j = k) with e | rfl
      · exact hle j hj e hoj
      · exact hge) hl
theorem BestR.better {F : List Bk} {o k m : Nat} (h : BestR F o k (m : Int)) (hk : k < F.length) (hm' : m < F.length) (ho' : o ≤ F[k].2) (hlt : F[k].2 < F[m].2) : BestR F o (k + 1) (k : Int) := by
  generalize hb : (m : Int) = b at h
  cases h with
  | none h => omega
  | some m' hm hmk ho hle hl =>
    obtain rfl : m = m' := by omega
    exact .some k hk (by omega) ho' (fun j hj hjk hoj => by
      rcases (by omega : j < k ∨ j = k) with e | rfl
      · have := hle j hj e hoj; omega
      · exact Nat.le_refl _) fun j hj hjk hoj => by have := hle j hj hjk hoj; omega
theorem BestR.bound {F : List Bk} {o k : Nat} {b : Int} (h : BestR F o k b) : b = -1 ∨ ∃ m : Nat, b = (m : Int) ∧ m < F.length ∧ m < k := by
  cases h with
  | none h => exact .inl rfl
  | some m hm hmk ho hle hl => exact .inr ⟨m, rfl, hm, hmk⟩
theorem BestR.full {n o : Nat} {op : Opn} (h : BestR (freeL n op) o (freeL n op).length (-1)) : ∀ k, o ≤ k → k ≤ n → frL n op k = [] := by
  generalize hb : (-1 : Int) = b at h
  cases h with
  | none h =>
    intro k h1 h2
    apply List.eq_nil_iff_forall_not_mem.2
    intro s hs
    have hm : (s, k) ∈ freeL n op := freeL_mem.2 (frL_mem.1 hs)
    obtain ⟨i, hi, e⟩ := List.getElem_of_mem hm
    have := h i hi hi
    rw [e] at this
    dsimp only at this
    omega
  | some m hm hmk ho hle hl => omega
theorem BestR.none_of {n o : Nat} {op : Opn} {b : Int} (h : BestR (freeL n op) o (freeL n op).length b) (hf : ∀ k, o ≤ k → k ≤ n → frL n op k = []) : b = -1 := by
  cases h with
  | none h => rfl
  | some m hm hmk ho hle hl =>
    have h1 := freeL_mem.1 (List.getElem_mem hm)
    have h2 := hf _ ho h1.1
    have h3 := frL_mem.2 h1
    rw [h2] at h3; simp at h3
theorem BestR.ok {n o k s : Nat} {r : List Nat} {op : Opn} {b : Int} (h : BestR (freeL n op) o (freeL n op).length b) (ho : o ≤ k) (hj : ∀ j, o ≤ j → j < k → frL n op j = []) (hs : frL n op k = s :: r) : ∃ m : Nat, ∃ hm : m < (freeL n op).length, b = (m : Int) ∧ (freeL n op)[m] = (s, k) := by
  have hsm : isF n op k s := frL_mem.1 (by rw [hs]; simp)
  have hm0 : (s, k) ∈ freeL n op := freeL_mem.2 hsm
  obtain ⟨i, hi, e⟩ := List.getElem_of_mem hm0
  cases h with
  | none h =>
    have := h i hi hi
    rw [e] at this; dsimp only at this; omega
  | some m hm hmk hom hle hl =>
    refine ⟨m, hm, rfl, ?_⟩
    have hF := freeL_mem.1 (List.getElem_mem hm)
    have h1 := hle i hi hi (by rw [e]; exact ho)
    rw [e] at h1; dsimp only at h1
    have h2 : (freeL n op)[m].2 = k := by
      rcases Nat.lt_or_ge (freeL n op)[m].2 k with h3 | h3
      · have h4 := frL_mem.2 hF
        rw [hj _ hom h3] at h4; simp at h4
      · omega
    have h5 := hF
    rw [h2] at h5
    have h6 := frL_mem.2 h5
    have hinc := frL_inc n op k
    rw [hs] at h6 hinc
    rw [List.pairwise_cons] at hinc
    rcases List.mem_cons.1 h6 with h7 | h7
    · exact Prod.ext h7 h2
    · have h8 := hinc.1 _ h7
      have hI := List.pairwise_iff_getElem.1 (freeL_inc n op)
      rcases Nat.lt_trichotomy i m with h9 | h9 | h9
      · have := hl i hi h9 (by rw [e]; exact ho)
        rw [e] at this; dsimp only at this; omega
      · subst h9; exact e
      · have := hI m i hm hi h9
        rw [e] at this; dsimp only at this; omega

/-! How many workers are free. -/
def opensL (n : Nat) (op : Opn) : List Nat := (List.range (2 ^ n)).filter op
def sumB (F : List Bk) : Nat := (F.map fun b => 2 ^ b.2).sum
theorem sumB_snoc (F : List Bk) (b : Bk) : sumB (F ++ [b]) = sumB F + 2 ^ b.2 := by simp [sumB]
theorem opensL_mem {n : Nat} {op : Opn} {x : Nat} : x ∈ opensL n op ↔ x < 2 ^ n ∧ op x = true := by unfold opensL; rw [List.mem_filter, List.mem_range]
theorem opensL_inc (n : Nat) (op : Opn) : (opensL n op).Pairwise (· < ·) := List.Pairwise.filter _ List.pairwise_lt_range
theorem opensL_len (n : Nat) (op : Opn) : (opensL n op).length ≤ 2 ^ n := by
  unfold opensL
  exact Nat.le_trans (List.length_filter_le _ _) (by simp)
theorem free_all (n : Nat) (op : Opn) : (freeL n op).flatMap (fun b => List.range' b.1 (2 ^ b.2)) = opensL n op := by
  refine inc_uniq ?_ (opensL_inc n op) fun x => ?_
  · rw [List.pairwise_flatMap]
    refine ⟨fun b _ => List.pairwise_lt_range' (s := b.1) (n := 2 ^ b.2) (step := 1), ?_⟩
    refine List.Pairwise.imp_of_mem (fun {a b} ha hb hab x hx y hy => ?_) (freeL_inc n op)
    have h1 := freeL_mem.1 ha
    have h2 := freeL_mem.1 hb
    rw [List.mem_range'_1] at hx hy
    apply Classical.byContradiction
    intro hno
    have := isF_apart h1 h2 (x := b.1) ⟨by omega, by omega⟩ (inB_self _ _)
    omega
  · rw [List.mem_flatMap, opensL_mem]
    constructor
    · rintro ⟨b, hb, hx⟩
      have h1 := freeL_mem.1 hb
      rw [List.mem_range'_1] at hx
      exact ⟨by have := h1.2.2.1; omega, h1.2.2.2.1 x hx⟩
    · rintro ⟨hx, ho⟩
      obtain ⟨o, s, h1, h2⟩ := isF_some hx ho
      exact ⟨(s, o), freeL_mem.2 h1, List.mem_range'_1.2 h2⟩
theorem sum_free (n : Nat) (op : Opn) : sumB (freeL n op) = (opensL n op).length := by
  rw [← free_all, List.length_flatMap]
  unfold sumB
  congr 1
  exact List.map_congr_left fun b _ => by simp
theorem sumB_le {n : Nat} {op : Opn} (k : Nat) : sumB ((freeL n op).take k) ≤ 2 ^ n := by
  have h1 : sumB (freeL n op) = sumB ((freeL n op).take k) + sumB ((freeL n op).drop k) := by
    unfold sumB
    rw [← List.sum_append, ← List.map_append, List.take_append_drop]
  have h2 := sum_free n op
  have h3 := opensL_len n op
  omega
theorem filter_one {l : List Nat} (hn : l.Nodup) {p q : Nat → Bool} {s : Nat} (hs : s ∈ l) (hp : p s = true) (hq : ∀ x, q x = (p x && decide (x ≠ s))) : (l.filter q).length + 1 = (l.filter p).length := by
  induction l with
  | nil => simp at hs
  | cons a r ih =>
    unfold List.Nodup at hn ih
    rw [List.pairwise_cons] at hn
    rcases List.mem_cons.1 hs with rfl | hr
    · have h1 : q s = false := by rw [hq]; simp
      have h2 : r.filter q = r.filter p := List.filter_congr fun x hx => by
        rw [hq]; have := hn.1 x hx; simp; intro _ e; exact this e.symm
      rw [List.filter_cons_of_neg (by rw [h1]; simp), List.filter_cons_of_pos hp, h2, List.length_cons]
    · have hne : a ≠ s := fun e => hn.1 s hr e
      have e : q a = p a := by rw [hq]; simp [hne]
      have := ih hn.2 hr
      cases hpa : p a
      · rw [List.filter_cons_of_neg (by rw [e, hpa]; simp), List.filter_cons_of_neg (by rw [hpa]; simp)]; exact this
      · rw [List.filter_cons_of_pos (by rw [e, hpa]), List.filter_cons_of_pos hpa, List.length_cons, List.length_cons]; omega
theorem opens_less {n : Nat} {op : Opn} {s : Nat} (hs : s < 2 ^ n) (ho : op s = true) : (opensL n (less op 0 s)).length + 1 = (opensL n op).length := by
  unfold opensL
  refine filter_one List.nodup_range (List.mem_range.2 hs) ho fun x => ?_
  by_cases hx : inB 0 s x
  · rw [less_in hx]
    have : x = s := by unfold inB at hx; simp at hx; omega
    simp [this]
  · rw [less_out hx]
    have : x ≠ s := fun e => hx (by rw [e]; exact inB_self 0 s)
    simp [this]
theorem opens_nil {n : Nat} {op : Opn} (h : (opensL n op).length = 0) : ∀ o s, ¬ isF n op o s := fun o s hF => by
  have h1 : s ∈ opensL n op := opensL_mem.2 ⟨by have := hF.2.2.1; have := two_pos o; omega, hF.2.2.2.1 s (inB_self o s)⟩
  rw [List.eq_nil_of_length_eq_zero h] at h1; simp at h1
theorem opens_frL {n : Nat} {op : Opn} (h : (opensL n op).length = 0) (o : Nat) : frL n op o = [] := List.eq_nil_iff_forall_not_mem.2 fun s hs => opens_nil h o s (frL_mem.1 hs)
theorem opens_free {n : Nat} {op : Opn} (h : (opensL n op).length = 0) : freeL n op = [] := List.eq_nil_iff_forall_not_mem.2 fun b hb => opens_nil h _ _ (freeL_mem.1 hb)
theorem opens_some {n : Nat} {op : Opn} (h : 0 < (opensL n op).length) : ¬ ∀ k, 0 ≤ k → k ≤ n → frL n op k = [] := fun hf => by
  obtain ⟨x, hx⟩ := List.exists_mem_of_length_pos h
  obtain ⟨h1, h2⟩ := opensL_mem.1 hx
  obtain ⟨o, s, hF, _⟩ := isF_some h1 h2
  have := frL_mem.2 hF
  rw [hf o (Nat.zero_le _) hF.1] at this; simp at this
end Go.Proofs.Ytcdlfhheolbhaaa
