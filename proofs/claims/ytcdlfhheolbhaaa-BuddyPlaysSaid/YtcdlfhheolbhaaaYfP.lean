/-
  The yard, plainly: the first free block of the least order that is enough; how many workers are free. No program is imported.
  The yard, plainly: each worker is counted once; no two free blocks are halves of one. No program is imported.
  The document's yard, plainly: taken blocks as they came, of each worker whether it failed; beside the program's. No program is imported.
-/
import Derived.Test.YtcdlfhheolbhaaaYdR
namespace Go.Proofs.Ytcdlfhheolbhaaa
set_option linter.unusedVariables false

section

/-- The first one of the least order that is enough, among the first k. -/
inductive BestR (F : List Bk) (o k : Nat) : Int → Prop
  | none (h : ∀ j (hj : j < F.length), j < k → F[j].2 < o) : BestR F o k (-1)
  | some (m : Nat) (hm : m < F.length) (hk : m < k) (ho : o ≤ F[m].2) (hle : ∀ j (hj : j < F.length), j < k → o ≤ F[j].2 → F[m].2 ≤ F[j].2) (hlt : ∀ j (hj : j < F.length), j < m → o ≤ F[j].2 → F[m].2 < F[j].2) : BestR F o k (m : Int)
theorem BestR.zero (F : List Bk) (o : Nat) : BestR F o 0 (-1) := .none fun j _ h => by omega
theorem BestR.skip {F : List Bk} {o k : Nat} {b : Int} (h : BestR F o k b) (hk : k < F.length) (hlt : F[k].2 < o) : BestR F o (k + 1) b := by
  cases h with
  | none h =>
    exact .none fun j hj hjk => by
      rcases (by omega : j < k ∨ j = k) with e | rfl
      · exact h j hj e
      · exact hlt
  | some m hm hmk ho hle hl =>
    exact .some m hm (by omega) ho (fun j hj hjk hoj => by
      rcases (by omega : j < k ∨ j = k) with e | rfl
      · exact hle j hj e hoj
      · omega) hl
theorem BestR.first {F : List Bk} {o k : Nat} (h : BestR F o k (-1)) (hk : k < F.length) (ho : o ≤ F[k].2) : BestR F o (k + 1) (k : Int) := by
  generalize hb : (-1 : Int) = b at h
  cases h with
  | none h =>
    exact .some k hk (by omega) ho (fun j hj hjk hoj => by
      rcases (by omega : j < k ∨ j = k) with e | rfl
      · have := h j hj e; omega
      · exact Nat.le_refl _) fun j hj hjk hoj => by have := h j hj hjk; omega
  | some m hm hmk ho hle hl => omega
theorem BestR.worse {F : List Bk} {o k m : Nat} (h : BestR F o k (m : Int)) (hk : k < F.length) (hm' : m < F.length) (hge : F[m].2 ≤ F[k].2) : BestR F o (k + 1) (m : Int) := by
  generalize hb : (m : Int) = b at h
  cases h with
  | none h => omega
  | some m' hm hmk ho hle hl =>
    obtain rfl : m = m' := by omega
    exact .some m hm (by omega) ho (fun j hj hjk hoj => by
      rcases (by omega : j < k ∨ j = k) with e | rfl
      · exact hle j hj e hoj
      · exact hge) hl
theorem BestR.better {F : List Bk} {o k m : Nat} (h : BestR F o k (m : Int)) (hk : k < F.length) (hm' : m < F.length) (ho' : o ≤ F[k].2) (hlt : F[k].2 < F[m].2) : BestR F o (k + 1) (k : Int) := by
  generalize hb : (m : Int) = b at h
  cases h with
  | none h => omega
  | some m' hm hmk ho hle hl =>
    obtain rfl : m = m' := by omega
    exact .some k hk (by omega) ho' (fun j hj hjk hoj => by
      rcases (by omega : j < k ∨ j = k) with e | rfl
      · have := hle j hj e hoj; omega
      · exact Nat.le_refl _) fun j hj hjk hoj => by have := hle j hj hjk hoj; omega
theorem BestR.bound {F : List Bk} {o k : Nat} {b : Int} (h : BestR F o k b) : b = -1 ∨ ∃ m : Nat, b = (m : Int) ∧ m < F.length ∧ m < k := by
  cases h with
  | none h => exact .inl rfl
  | some m hm hmk ho hle hl => exact .inr ⟨m, rfl, hm, hmk⟩
theorem BestR.full {n o : Nat} {op : Opn} (h : BestR (freeL n op) o (freeL n op).length (-1)) : ∀ k, o ≤ k → k ≤ n → frL n op k = [] := by
  generalize hb : (-1 : Int) = b at h
  cases h with
  | none h =>
    intro k h1 h2
    apply List.eq_nil_iff_forall_not_mem.2
    intro s hs
    have hm : (s, k) ∈ freeL n op := freeL_mem.2 (frL_mem.1 hs)
    obtain ⟨i, hi, e⟩ := List.getElem_of_mem hm
    have := h i hi hi
    rw [e] at this
    dsimp only at this
    omega
  | some m hm hmk ho hle hl => omega
theorem BestR.none_of {n o : Nat} {op : Opn} {b : Int} (h : BestR (freeL n op) o (freeL n op).length b) (hf : ∀ k, o ≤ k → k ≤ n → frL n op k = []) : b = -1 := by
  cases h with
  | none h => rfl
  | some m hm hmk ho hle hl =>
    have h1 := freeL_mem.1 (List.getElem_mem hm)
    have h2 := hf _ ho h1.1
    have h3 := frL_mem.2 h1
    rw [h2] at h3; simp at h3
theorem BestR.ok {n o k s : Nat} {r : List Nat} {op : Opn} {b : Int} (h : BestR (freeL n op) o (freeL n op).length b) (ho : o ≤ k) (hj : ∀ j, o ≤ j → j < k → frL n op j = []) (hs : frL n op k = s :: r) : ∃ m : Nat, ∃ hm : m < (freeL n op).length, b = (m : Int) ∧ (freeL n op)[m] = (s, k) := by
  have hsm : isF n op k s := frL_mem.1 (by rw [hs]; simp)
  have hm0 : (s, k) ∈ freeL n op := freeL_mem.2 hsm
  obtain ⟨i, hi, e⟩ := List.getElem_of_mem hm0
  cases h with
  | none h =>
    have := h i hi hi
    rw [e] at this; dsimp only at this; omega
  | some m hm hmk hom hle hl =>
    refine ⟨m, hm, rfl, ?_⟩
    have hF := freeL_mem.1 (List.getElem_mem hm)
    have h1 := hle i hi hi (by rw [e]; exact ho)
    rw [e] at h1; dsimp only at h1
    have h2 : (freeL n op)[m].2 = k := by
      rcases Nat.lt_or_ge (freeL n op)[m].2 k with h3 | h3
      · have h4 := frL_mem.2 hF
        rw [hj _ hom h3] at h4; simp at h4
      · omega
    have h5 := hF
    rw [h2] at h5
    have h6 := frL_mem.2 h5
    have hinc := frL_inc n op k
    rw [hs] at h6 hinc
    rw [List.pairwise_cons] at hinc
    rcases List.mem_cons.1 h6 with h7 | h7
    · exact Prod.ext h7 h2
    · have h8 := hinc.1 _ h7
      have hI := List.pairwise_iff_getElem.1 (freeL_inc n op)
      rcases Nat.lt_trichotomy i m with h9 | h9 | h9
      · have := hl i hi h9 (by rw [e]; exact ho)
        rw [e] at this; dsimp only at this; omega
      · subst h9; exact e
      · have := hI m i hm hi h9
        rw [e] at this; dsimp only at this; omega

/-! How many workers are free. -/
def opensL (n : Nat) (op : Opn) : List Nat := (List.range (2 ^ n)).filter op
def sumB (F : List Bk) : Nat := (F.map fun b => 2 ^ b.2).sum
theorem sumB_snoc (F : List Bk) (b : Bk) : sumB (F ++ [b]) = sumB F + 2 ^ b.2 := by simp [sumB]
theorem opensL_mem {n : Nat} {op : Opn} {x : Nat} : x ∈ opensL n op ↔ x < 2 ^ n ∧ op x = true := by unfold opensL; rw [List.mem_filter, List.mem_range]
theorem opensL_inc (n : Nat) (op : Opn) : (opensL n op).Pairwise (· < ·) := List.Pairwise.filter _ List.pairwise_lt_range
theorem opensL_len (n : Nat) (op : Opn) : (opensL n op).length ≤ 2 ^ n := by
  unfold opensL
  exact Nat.le_trans (List.length_filter_le _ _) (by simp)
theorem free_all (n : Nat) (op : Opn) : (freeL n op).flatMap (fun b => List.range' b.1 (2 ^ b.2)) = opensL n op := by
  refine inc_uniq ?_ (opensL_inc n op) fun x => ?_
  · rw [List.pairwise_flatMap]
    refine ⟨fun b _ => List.pairwise_lt_range' (s := b.1) (n := 2 ^ b.2) (step := 1), ?_⟩
    refine List.Pairwise.imp_of_mem (fun {a b} ha hb hab x hx y hy => ?_) (freeL_inc n op)
    have h1 := freeL_mem.1 ha
    have h2 := freeL_mem.1 hb
    rw [List.mem_range'_1] at hx hy
    apply Classical.byContradiction
    intro hno
    have := isF_apart h1 h2 (x := b.1) ⟨by omega, by omega⟩ (inB_self _ _)
    omega
  · rw [List.mem_flatMap, opensL_mem]
    constructor
    · rintro ⟨b, hb, hx⟩
      have h1 := freeL_mem.1 hb
      rw [List.mem_range'_1] at hx
      exact ⟨by have := h1.2.2.1; omega, h1.2.2.2.1 x hx⟩
    · rintro ⟨hx, ho⟩
      obtain ⟨o, s, h1, h2⟩ := isF_some hx ho
      exact ⟨(s, o), freeL_mem.2 h1, List.mem_range'_1.2 h2⟩
theorem sum_free (n : Nat) (op : Opn) : sumB (freeL n op) = (opensL n op).length := by
  rw [← free_all, List.length_flatMap]
  unfold sumB
  congr 1
  exact List.map_congr_left fun b _ => by simp
theorem sumB_le {n : Nat} {op : Opn} (k : Nat) : sumB ((freeL n op).take k) ≤ 2 ^ n := by
  have h1 : sumB (freeL n op) = sumB ((freeL n op).take k) + sumB ((freeL n op).drop k) := by
    unfold sumB
    rw [← List.sum_append, ← List.map_append, List.take_append_drop]
  have h2 := sum_free n op
  have h3 := opensL_len n op
  omega
theorem filter_one {l : List Nat} (hn : l.Nodup) {p q : Nat → Bool} {s : Nat} (hs : s ∈ l) (hp : p s = true) (hq : ∀ x, q x = (p x && decide (x ≠ s))) : (l.filter q).length + 1 = (l.filter p).length := by
  induction l with
  | nil => simp at hs
  | cons a r ih =>
    unfold List.Nodup at hn ih
    rw [List.pairwise_cons] at hn
    rcases List.mem_cons.1 hs with rfl | hr
    · have h1 : q s = false := by rw [hq]; simp
      have h2 : r.filter q = r.filter p := List.filter_congr fun x hx => by
        rw [hq]; have := hn.1 x hx; simp; intro _ e; exact this e.symm
      rw [List.filter_cons_of_neg (by rw [h1]; simp), List.filter_cons_of_pos hp, h2, List.length_cons]
    · have hne : a ≠ s := fun e => hn.1 s hr e
      have e : q a = p a := by rw [hq]; simp [hne]
      have := ih hn.2 hr
      cases hpa : p a
      · rw [List.filter_cons_of_neg (by rw [e, hpa]; simp), List.filter_cons_of_neg (by rw [hpa]; simp)]; exact this
      · rw [List.filter_cons_of_pos (by rw [e, hpa]), List.filter_cons_of_pos hpa, List.length_cons, List.length_cons]; omega
theorem opens_less {n : Nat} {op : Opn} {s : Nat} (hs : s < 2 ^ n) (ho : op s = true) : (opensL n (less op 0 s)).length + 1 = (opensL n op).length := by
  unfold opensL
  refine filter_one List.nodup_range (List.mem_range.2 hs) ho fun x => ?_
  by_cases hx : inB 0 s x
  · rw [less_in hx]
    have : x = s := by unfold inB at hx; simp at hx; omega
    simp [this]
  · rw [less_out hx]
    have : x ≠ s := fun e => hx (by rw [e]; exact inB_self 0 s)
    simp [this]
theorem opens_nil {n : Nat} {op : Opn} (h : (opensL n op).length = 0) : ∀ o s, ¬ isF n op o s := fun o s hF => by
  have h1 : s ∈ opensL n op := opensL_mem.2 ⟨by have := hF.2.2.1; have := two_pos o; omega, hF.2.2.2.1 s (inB_self o s)⟩
  rw [List.eq_nil_of_length_eq_zero h] at h1; simp at h1
theorem opens_frL {n : Nat} {op : Opn} (h : (opensL n op).length = 0) (o : Nat) : frL n op o = [] := List.eq_nil_iff_forall_not_mem.2 fun s hs => opens_nil h o s (frL_mem.1 hs)
theorem opens_free {n : Nat} {op : Opn} (h : (opensL n op).length = 0) : freeL n op = [] := List.eq_nil_iff_forall_not_mem.2 fun b hb => opens_nil h _ _ (freeL_mem.1 hb)
theorem opens_some {n : Nat} {op : Opn} (h : 0 < (opensL n op).length) : ¬ ∀ k, 0 ≤ k → k ≤ n → frL n op k = [] := fun hf => by
  obtain ⟨x, hx⟩ := List.exists_mem_of_length_pos h
  obtain ⟨h1, h2⟩ := opensL_mem.1 hx
  obtain ⟨o, s, hF, _⟩ := isF_some h1 h2
  have := frL_mem.2 hF
  rw [hf o (Nat.zero_le _) hF.1] at this; simp at this
end

section

def hitB (b : Bk) (x : Nat) : Bool := decide (b.1 ≤ x ∧ x < b.1 + 2 ^ b.2)
def cov (L : List Bk) (x : Nat) : Nat := L.countP fun b => hitB b x
/-- One block more, the first j of its workers. -/
def covW (L : List Bk) (b : Bk) (j x : Nat) : Nat := cov L x + if b.1 ≤ x ∧ x < b.1 + j then 1 else 0
theorem covW_zero (L : List Bk) (b : Bk) : covW L b 0 = cov L := by
  funext x; unfold covW; rw [if_neg (by omega)]; rfl
theorem covW_all (L : List Bk) (b : Bk) : covW L b (2 ^ b.2) = cov (L ++ [b]) := by
  funext x; unfold covW cov; rw [List.countP_append]
  by_cases h : b.1 ≤ x ∧ x < b.1 + 2 ^ b.2
  · rw [if_pos h]; simp [hitB, h]
  · rw [if_neg h]; simp [hitB, h]
theorem covW_succ (L : List Bk) (b : Bk) (j : Nat) : covW L b (j + 1) = fun x => if x = b.1 + j then covW L b j x + 1 else covW L b j x := by
  funext x; unfold covW
  by_cases h : x = b.1 + j
  · rw [if_pos h, if_pos (by omega), if_neg (by omega)]
  · rw [if_neg h]
    by_cases h2 : b.1 ≤ x ∧ x < b.1 + j
    · rw [if_pos h2, if_pos (by omega)]
    · rw [if_neg h2, if_neg (by omega)]
theorem cov_le (L : List Bk) (x : Nat) : cov L x ≤ L.length := List.countP_le_length
theorem covW_le (L : List Bk) (b : Bk) (j x : Nat) : covW L b j x ≤ L.length + 1 := by
  have := cov_le L x
  unfold covW; split <;> omega
/-- The failed ones that no block holds. -/
def covF (L tk : List Bk) (fl : List Nat) (x : Nat) : Nat := cov L x + (fl.filter fun y => !heldB tk y).count x
theorem covF_zero (L tk : List Bk) : covF L tk [] = cov L := by funext x; unfold covF; simp
theorem covF_held (L tk : List Bk) (fl : List Nat) (y : Nat) (h : heldB tk y = true) : covF L tk (fl ++ [y]) = covF L tk fl := by
  funext x; unfold covF; rw [List.filter_append]; simp [h]
theorem covF_free (L tk : List Bk) (fl : List Nat) (y : Nat) (h : heldB tk y = false) : covF L tk (fl ++ [y]) = fun x => if x = y then covF L tk fl x + 1 else covF L tk fl x := by
  funext x; unfold covF
  rw [List.filter_append, List.count_append]
  have e : List.filter (fun y => !heldB tk y) [y] = [y] := by simp [h]
  rw [e]
  by_cases hx : x = y
  · rw [if_pos hx, hx]; simp; omega
  · have e0 : [y].count x = 0 := List.count_eq_zero.2 (by simpa using hx)
    rw [if_neg hx, e0]; omega
theorem covF_le (L tk : List Bk) (fl : List Nat) (x : Nat) : covF L tk fl x ≤ L.length + fl.length := by
  have h1 := cov_le L x
  have h2 : (fl.filter fun y => !heldB tk y).count x ≤ fl.length := Nat.le_trans List.count_le_length (List.length_filter_le _ _)
  unfold covF; omega
theorem count_one {α : Type} {p : α → Bool} : ∀ {L : List α}, L.Pairwise (fun a b => ¬ (p a = true ∧ p b = true)) → ∀ {a : α}, a ∈ L → p a = true → L.countP p = 1
  | b :: r, h, a, ha, hp => by
    rw [List.pairwise_cons] at h
    rcases List.mem_cons.1 ha with rfl | hr
    · rw [List.countP_cons_of_pos hp, List.countP_eq_zero.2 fun c hc hpc => h.1 c hc ⟨hp, hpc⟩]
    · have hb : ¬ p b = true := fun e => h.1 a hr ⟨e, hp⟩
      rw [List.countP_cons_of_neg hb, count_one h.2 hr hp]
theorem hit_in {b : Bk} {x : Nat} : hitB b x = true ↔ inB b.2 b.1 x := by unfold hitB inB; simp
theorem cov_none {L : List Bk} {x : Nat} (h : ∀ b ∈ L, ¬ inB b.2 b.1 x) : cov L x = 0 := List.countP_eq_zero.2 fun b hb e => h b hb (hit_in.1 e)
theorem cov_once {n : Nat} {tk : List Bk} {fl : List Nat} (h : OkY n tk fl) {x : Nat} (hx : x < 2 ^ n) : covF (freeL n (opn n tk fl) ++ tk) tk fl x = 1 := by
  have e : cov (freeL n (opn n tk fl) ++ tk) x = cov (freeL n (opn n tk fl)) x + cov tk x := by unfold cov; rw [List.countP_append]
  unfold covF
  rw [e]
  have hfree : opn n tk fl x = false → cov (freeL n (opn n tk fl)) x = 0 := fun ho => cov_none fun b hb hin => by
    have := (freeL_mem.1 hb).2.2.2.1 x hin
    rw [ho] at this; cases this
  cases hh : heldB tk x
  · have h1 : cov tk x = 0 := cov_none fun b hb hin => by
      rw [heldB_iff.2 ⟨b, hb, hin⟩] at hh; cases hh
    by_cases hf : x ∈ fl
    · have h2 : opn n tk fl x = false := by
        cases ho : opn n tk fl x
        · rfl
        · exact absurd hf (opn_iff.1 ho).2.2
      have h3 : (fl.filter fun y => !heldB tk y).count x = 1 := by
        have hnd : (fl.filter fun y => !heldB tk y).Nodup := (h.fs.imp fun {a b} hab => Nat.ne_of_lt hab).sublist List.filter_sublist
        have hm : x ∈ fl.filter fun y => !heldB tk y := List.mem_filter.2 ⟨hf, by simp [hh]⟩
        exact hnd.count.trans (if_pos hm)
      rw [hfree h2, h1, h3]
    · have h2 : opn n tk fl x = true := opn_iff.2 ⟨hx, hh, hf⟩
      obtain ⟨o, s, hF, hin⟩ := isF_some hx h2
      have h3 : cov (freeL n (opn n tk fl)) x = 1 := by
        refine count_one (a := (s, o)) (List.Pairwise.imp_of_mem (fun {a b} ha hb hab hc => ?_) (freeL_inc n (opn n tk fl))) (freeL_mem.2 hF) (hit_in.2 hin)
        have := isF_apart (freeL_mem.1 ha) (freeL_mem.1 hb) (hit_in.1 hc.1) (hit_in.1 hc.2)
        omega
      have h4 : (fl.filter fun y => !heldB tk y).count x = 0 := List.count_eq_zero.2 fun hm => hf (List.mem_filter.1 hm).1
      rw [h3, h1, h4]
  · have h2 : opn n tk fl x = false := by
      cases ho : opn n tk fl x
      · rfl
      · have := (opn_iff.1 ho).2.1
        rw [hh] at this; cases this
    have h3 : cov tk x = 1 := by
      obtain ⟨b, hb, hin⟩ := heldB_iff.1 hh
      refine count_one (a := b) (h.srt.imp fun {a c} hac hc => ?_) hb (hit_in.2 hin)
      have h4 := hit_in.1 hc.1
      have h5 := hit_in.1 hc.2
      unfold inB at h4 h5; omega
    have h4 : (fl.filter fun y => !heldB tk y).count x = 0 := List.count_eq_zero.2 fun hm => by
      have := (List.mem_filter.1 hm).2
      rw [hh] at this; simp at this
    rw [hfree h2, h3, h4]
theorem not_buds {n : Nat} {op : Opn} {o s s' : Nat} (h : isF n op o s) (h' : isF n op o s') : s' ≠ bud o s := fun e => by
  obtain ⟨a1, a2, a3, a4, a5⟩ := h
  obtain ⟨b1, b2, b3, b4, b5⟩ := h'
  rcases Nat.lt_or_ge o n with hlt | hge
  · refine a5 hlt fun y hy => ?_
    rcases (up_split a2 y).1 hy with h1 | h1
    · exact a4 y h1
    · exact b4 y (by rw [e]; exact h1)
  · obtain rfl : o = n := by omega
    have h0 : s = 0 := by have := two_pos o; omega
    have h1 : s' = 0 := by have := two_pos o; omega
    exact bud_ne a2 (by rw [← e, h0, h1])
end

section

def openL (n : Nat) (L : List Bk) (bad : List Bool) : List Bool := (List.range (2 ^ n)).map fun x => !bad.getD x false && !heldB L x
theorem openL_len (n : Nat) (L : List Bk) (bad : List Bool) : (openL n L bad).length = 2 ^ n := by simp [openL]
def fnL (l : List Bool) : Opn := fun x => l.getD x false
theorem fnL_in {l : List Bool} {x : Nat} (h : fnL l x = true) : x < l.length := by
  unfold fnL at h
  apply Classical.byContradiction
  intro hn
  rw [List.getD_eq_getElem?_getD, List.getElem?_eq_none (by omega)] at h
  cases h
structure Sim (n : Nat) (tk : List Bk) (fl : List Nat) (L : List Bk) (bad : List Bool) : Prop where
  len : bad.length = 2 ^ n
  mem : ∀ b, b ∈ L ↔ b ∈ tk
  badm : ∀ x, x < 2 ^ n → (bad.getD x false = true ↔ x ∈ fl)
  nd : L.Pairwise fun a b => a.1 ≠ b.1
theorem held_mem {L tk : List Bk} (h : ∀ b, b ∈ L ↔ b ∈ tk) (x : Nat) : heldB L x = heldB tk x := by
  rw [Bool.eq_iff_iff, heldB_iff, heldB_iff]
  exact ⟨fun ⟨b, h1, h2⟩ => ⟨b, (h b).1 h1, h2⟩, fun ⟨b, h1, h2⟩ => ⟨b, (h b).2 h1, h2⟩⟩
theorem Sim.opnE {n : Nat} {tk L : List Bk} {fl : List Nat} {bad : List Bool} (h : Sim n tk fl L bad) : fnL (openL n L bad) = opn n tk fl := by
  funext x
  unfold fnL
  by_cases hx : x < 2 ^ n
  · have e : (openL n L bad).getD x false = (!bad.getD x false && !heldB L x) := by
      rw [List.getD_eq_getElem?_getD, List.getElem?_eq_getElem (by rw [openL_len]; exact hx)]
      simp [openL]
    rw [e, Bool.eq_iff_iff, opn_iff, held_mem h.mem]
    have := h.badm x hx
    constructor
    · intro hh
      rw [Bool.and_eq_true, Bool.not_eq_true', Bool.not_eq_true'] at hh
      exact ⟨hx, hh.2, fun hm => by rw [this.2 hm] at hh; cases hh.1⟩
    · rintro ⟨_, h1, h2⟩
      rw [Bool.and_eq_true, Bool.not_eq_true', Bool.not_eq_true']
      refine ⟨?_, h1⟩
      cases hb : bad.getD x false
      · rfl
      · exact absurd (this.1 hb) h2
  · rw [List.getD_eq_getElem?_getD, List.getElem?_eq_none (by rw [openL_len]; omega)]
    show false = _
    cases ho : opn n tk fl x
    · rfl
    · exact absurd (opn_iff.1 ho).1 hx
theorem Sim.zero (n : Nat) : Sim n [] [] [] (List.replicate (2 ^ n) false) := ⟨by simp, fun b => by simp, fun x hx => by
  rw [List.getD_eq_getElem?_getD, List.getElem?_replicate, if_pos hx]; simp, .nil⟩
theorem Sim.take {n : Nat} {tk L : List Bk} {fl : List Nat} {bad : List Bool} (h : Sim n tk fl L bad) (b : Bk) (hb : ∀ a ∈ tk, a.1 ≠ b.1) : Sim n (insT tk b) fl (L ++ [b]) bad := by
  refine ⟨h.len, fun a => ?_, h.badm, ?_⟩
  · rw [mem_insT, List.mem_append, List.mem_singleton, h.mem]
    exact ⟨fun e => e.symm, fun e => e.symm⟩
  · rw [List.pairwise_append]
    exact ⟨h.nd, by simp, fun a ha c hc => by rw [List.mem_singleton.1 hc]; exact hb a ((h.mem a).1 ha)⟩
theorem Sim.give {n s : Nat} {tk L : List Bk} {fl : List Nat} {bad : List Bool} (h : Sim n tk fl L bad) : Sim n (remT tk s) fl (L.filter fun a => decide (a.1 ≠ s)) bad := by
  refine ⟨h.len, fun a => ?_, h.badm, h.nd.sublist List.filter_sublist⟩
  unfold remT
  rw [List.mem_filter, List.mem_filter, h.mem]
theorem getD_set {l : List Bool} {x y : Nat} {v : Bool} (hx : x < l.length) : (l.set x v).getD y false = if y = x then v else l.getD y false := by
  rw [List.getD_eq_getElem?_getD, List.getElem?_set]
  by_cases e : x = y
  · subst e; simp [hx]
  · rw [if_neg e, if_neg fun q => e q.symm, List.getD_eq_getElem?_getD]
theorem Sim.fail {n x : Nat} {tk L : List Bk} {fl : List Nat} {bad : List Bool} (h : Sim n tk fl L bad) (hx : x < 2 ^ n) : Sim n tk (insF fl x) L (bad.set x true) := by
  refine ⟨by simp [h.len], h.mem, fun y hy => ?_, h.nd⟩
  rw [getD_set (by rw [h.len]; exact hx), mem_insF]
  by_cases e : y = x
  · rw [if_pos e]; exact ⟨fun _ => .inl e, fun _ => rfl⟩
  · rw [if_neg e, h.badm y hy]; exact ⟨.inr, fun q => q.elim (fun q => absurd q e) id⟩
theorem Sim.heal {n x : Nat} {tk L : List Bk} {fl : List Nat} {bad : List Bool} (h : Sim n tk fl L bad) (hx : x < 2 ^ n) : Sim n tk (remF fl x) L (bad.set x false) := by
  refine ⟨by simp [h.len], h.mem, fun y hy => ?_, h.nd⟩
  rw [getD_set (by rw [h.len]; exact hx)]
  unfold remF
  rw [List.mem_filter, decide_eq_true_eq]
  by_cases e : y = x
  · rw [if_pos e]; exact ⟨fun q => (by cases q), fun q => absurd e q.2⟩
  · rw [if_neg e, h.badm y hy]; exact ⟨fun q => ⟨q, e⟩, fun q => q.1⟩

/-! All free blocks, from each place on the greatest that may begin there. -/
structure GreedR (n : Nat) (op : Opn) (w : Nat) (out : List Bk) : Prop where
  out : out = (freeL n op).filter fun b => decide (b.1 < w)
  past : ∀ b ∈ freeL n op, b.1 < w → b.1 + 2 ^ b.2 ≤ w
theorem GreedR.zero (n : Nat) (op : Opn) : GreedR n op 0 [] := ⟨by simp, fun b _ h => by omega⟩
theorem GreedR.skip {n w : Nat} {op : Opn} {out : List Bk} (h : GreedR n op w out) (ho : op w = false) : GreedR n op (w + 1) out := by
  have hno : ∀ b ∈ freeL n op, b.1 ≠ w := fun b hb e => by
    have := (freeL_mem.1 hb).2.2.2.1 w (by rw [← e]; exact inB_self _ _)
    rw [ho] at this; cases this
  refine ⟨?_, fun b hb hlt => ?_⟩
  · rw [h.out]
    refine List.filter_congr fun b hb => ?_
    have := hno b hb
    rw [decide_eq_decide]; omega
  · have := hno b hb
    have := h.past b hb (by omega)
    omega
theorem GreedR.take {n w o : Nat} {op : Opn} {out : List Bk} (h : GreedR n op w out) (hF : isF n op o w) : GreedR n op (w + 2 ^ o) (out ++ [(w, o)]) := by
  have hp := two_pos o
  have hno : ∀ b ∈ freeL n op, w ≤ b.1 → b.1 < w + 2 ^ o → b = (w, o) := fun b hb h1 h2 => by
    have := isF_apart (freeL_mem.1 hb) hF (inB_self _ _) ⟨h1, h2⟩
    exact Prod.ext this.2 this.1
  refine ⟨?_, fun b hb hlt => ?_⟩
  · rw [h.out]
    refine incB_uniq ?_ ((freeL_inc n op).filter _) fun b => ?_
    · unfold incB
      rw [List.pairwise_append]
      refine ⟨(freeL_inc n op).filter _, by simp, fun a ha c hc => ?_⟩
      rw [List.mem_singleton.1 hc]
      exact of_decide_eq_true (List.mem_filter.1 ha).2
    · rw [List.mem_append, List.mem_filter, List.mem_filter, List.mem_singleton, decide_eq_true_eq, decide_eq_true_eq]
      constructor
      · rintro (⟨h1, h2⟩ | rfl)
        · exact ⟨h1, by omega⟩
        · exact ⟨freeL_mem.2 hF, by omega⟩
      · rintro ⟨h1, h2⟩
        by_cases h3 : b.1 < w
        · exact .inl ⟨h1, h3⟩
        · exact .inr (hno b h1 (by omega) h2)
  · by_cases h3 : b.1 < w
    · have := h.past b hb h3; omega
    · rw [hno b hb (by omega) hlt]; exact Nat.le_refl _
theorem GreedR.all {n w : Nat} {op : Opn} {out : List Bk} (h : GreedR n op w out) (hw : 2 ^ n ≤ w) : out = freeL n op := by
  rw [h.out]
  refine filter_all fun b hb => decide_eq_true ?_
  have := (freeL_mem.1 hb).2.2.1
  have := two_pos b.2
  omega
theorem GreedR.isF {n w o : Nat} {op : Opn} {out : List Bk} (h : GreedR n op w out) (hop : ∀ x, op x = true → x < 2 ^ n) (ho : o ≤ n) (hw : w % 2 ^ o = 0) (ha : allB op o w) (hnext : o < n → w % 2 ^ (o + 1) = 0 → ¬ allB op (o + 1) w) : isF n op o w := by
  have hp := two_pos o
  have hle : w + 2 ^ o ≤ 2 ^ n := by
    have := hop (w + 2 ^ o - 1) (ha _ ⟨by omega, by omega⟩); omega
  refine ⟨ho, hw, hle, ha, fun hlt hall => ?_⟩
  rcases up_cases hw with ⟨h1, h2, h3⟩ | ⟨h1, h2, h3⟩
  · rw [h2] at hall; exact hnext hlt h1 hall
  · obtain ⟨o', s', h4, h5, h6⟩ := isF_around (n := n) (n - (o + 1)) (by omega) (up_mod o w) (up_le hw hlt hle) hall
    have h7 := h6 (up o w) (inB_self _ _)
    have h8 := h6 w ((up_split hw w).2 (.inl (inB_self _ _)))
    have h9 := h.past (s', o') (freeL_mem.2 h5) (by have := h7.1; show s' < w; omega)
    have := h8.2
    dsimp only at h9
    omega

/-! Who holds a worker, all taken and failed ones. -/
theorem Sim.failed {n : Nat} {tk L : List Bk} {fl : List Nat} {bad : List Bool} (h : Sim n tk fl L bad) (hY : OkY n tk fl) : (List.range bad.length).filter (fun x => bad.getD x false) = fl := by
  refine inc_uniq (List.Pairwise.filter _ List.pairwise_lt_range) hY.fs fun x => ?_
  rw [List.mem_filter, List.mem_range, h.len]
  constructor
  · rintro ⟨h1, h2⟩; exact (h.badm x h1).1 h2
  · intro hx; exact ⟨hY.fr x hx, (h.badm x (hY.fr x hx)).2 hx⟩
def takenL (m : Nat) (L : List Bk) : List Bk := (List.range m).flatMap fun w => L.filter fun b => decide (b.1 = w)
theorem Sim.taken {n : Nat} {tk L : List Bk} {fl : List Nat} {bad : List Bool} (h : Sim n tk fl L bad) (hY : OkY n tk fl) : takenL bad.length L = tk := by
  refine incB_uniq ?_ (List.pairwise_map.1 hY.starts) fun b => ?_
  · unfold incB takenL
    rw [List.pairwise_flatMap]
    refine ⟨fun w _ => ?_, ?_⟩
    · have hs : (L.filter fun b => decide (b.1 = w)).Pairwise fun a b => a.1 ≠ b.1 := h.nd.sublist List.filter_sublist
      refine hs.imp_of_mem fun {a c} ha hc hne => ?_
      have h1 := of_decide_eq_true (List.mem_filter.1 ha).2
      have h2 := of_decide_eq_true (List.mem_filter.1 hc).2
      omega
    · refine List.pairwise_lt_range.imp fun {a c} hac x hx y hy => ?_
      have h1 := of_decide_eq_true (List.mem_filter.1 hx).2
      have h2 := of_decide_eq_true (List.mem_filter.1 hy).2
      omega
  · unfold takenL
    rw [List.mem_flatMap]
    constructor
    · rintro ⟨w, _, hb⟩; exact (h.mem b).1 (List.mem_filter.1 hb).1
    · intro hb
      refine ⟨b.1, List.mem_range.2 ?_, List.mem_filter.2 ⟨(h.mem b).2 hb, by simp⟩⟩
      rw [h.len]; have := hY.le b hb; have := two_pos b.2; omega
end

end Go.Proofs.Ytcdlfhheolbhaaa
