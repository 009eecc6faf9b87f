/-
  The yard, plainly: rows with one more, or one fewer, at the place that a search tells; how long they are; all free blocks, by their begins. No program is imported.
-/
import Derived.Test.YtcdlfhheolbhaaaYdQ
namespace Go.Proofs.Ytcdlfhheolbhaaa
set_option linter.unusedVariables false

/-! Rising rows. -/
theorem inc_at {l : List Nat} (h : l.Pairwise (· < ·)) {i j : Nat} (hij : i < j) (hj : j < l.length) : l[i]'(by omega) < l[j] := List.pairwise_iff_getElem.1 h i j (by omega) hj hij
theorem inc_le_at {l : List Nat} (h : l.Pairwise (· < ·)) {i : Nat} (hi : i < l.length) : i ≤ l[i] := by
  induction i with
  | zero => omega
  | succ k ih => have := ih (by omega); have := inc_at h (show k < k + 1 by omega) hi; omega
theorem inc_length {l : List Nat} {m : Nat} (h : l.Pairwise (· < ·)) (hm : ∀ x ∈ l, x < m) : l.length ≤ m := by
  rcases Nat.eq_zero_or_pos l.length with h0 | h0
  · omega
  · have := inc_le_at h (i := l.length - 1) (by omega)
    have := hm _ (List.getElem_mem (h := (by omega : l.length - 1 < l.length)))
    omega
theorem inc_ins {l : List Nat} {s p : Nat} (h : l.Pairwise (· < ·)) (hp : p ≤ l.length) (h1 : ∀ q (hq : q < l.length), q < p → l[q] < s) (h2 : ∀ q (hq : q < l.length), p ≤ q → s < l[q]) :
    (l.take p ++ s :: l.drop p).Pairwise (· < ·) ∧ ∀ x, x ∈ l.take p ++ s :: l.drop p ↔ x ∈ l ∨ x = s := by
  constructor
  · rw [List.pairwise_append, List.pairwise_cons]
    refine ⟨h.sublist (List.take_sublist _ _), ⟨fun x hx => ?_, h.sublist (List.drop_sublist _ _)⟩, fun x hx y hy => ?_⟩
    · obtain ⟨i, hi, rfl⟩ := List.getElem_of_mem hx
      rw [List.getElem_drop]; exact h2 _ _ (by omega)
    · obtain ⟨i, hi, rfl⟩ := List.getElem_of_mem hx
      rw [List.getElem_take]
      have hi' : i < p := by rw [List.length_take] at hi; omega
      rcases List.mem_cons.1 hy with rfl | hy
      · exact h1 _ _ hi'
      · obtain ⟨j, hj, rfl⟩ := List.getElem_of_mem hy
        rw [List.getElem_drop]
        rw [List.length_drop] at hj
        exact inc_at h (by omega) (by omega)
  · intro x
    rw [List.mem_append, List.mem_cons]
    have : x ∈ l ↔ x ∈ l.take p ∨ x ∈ l.drop p := by rw [← List.mem_append, List.take_append_drop]
    rw [this]
    constructor
    · rintro (a | a | a)
      · exact .inl (.inl a)
      · exact .inr a
      · exact .inl (.inr a)
    · rintro ((a | a) | a)
      · exact .inl a
      · exact .inr (.inr a)
      · exact .inr (.inl a)
theorem inc_del {l : List Nat} {p : Nat} (h : l.Pairwise (· < ·)) (hp : p < l.length) :
    (l.take p ++ l.drop (p + 1)).Pairwise (· < ·) ∧ ∀ x, x ∈ l.take p ++ l.drop (p + 1) ↔ x ∈ l ∧ x ≠ l[p] := by
  have hl : l = l.take p ++ l[p] :: l.drop (p + 1) := by rw [← List.drop_eq_getElem_cons hp, List.take_append_drop]
  have h' := h
  rw [hl, List.pairwise_append, List.pairwise_cons] at h'
  obtain ⟨a1, ⟨a2, a3⟩, a4⟩ := h'
  constructor
  · rw [List.pairwise_append]
    exact ⟨a1, a3, fun x hx y hy => a4 x hx y (List.mem_cons_of_mem _ hy)⟩
  · intro x
    have e : x ∈ l ↔ x ∈ l.take p ∨ x = l[p] ∨ x ∈ l.drop (p + 1) := (iff_of_eq (congrArg (x ∈ ·) hl)).trans (by rw [List.mem_append, List.mem_cons])
    rw [e, List.mem_append]
    constructor
    · rintro (a | a)
      · exact ⟨.inl a, fun e => by have := a4 x a l[p] List.mem_cons_self; omega⟩
      · exact ⟨.inr (.inr a), fun e => by have := a2 x a; omega⟩
    · rintro ⟨a | a | a, c⟩
      · exact .inl a
      · exact absurd a c
      · exact .inr a
theorem frL_ins {n : Nat} {op : Opn} {o s p : Nat} (ho : o ≤ n) (hs : s % 2 ^ o = 0) (hb : s + 2 ^ o ≤ 2 ^ n) (hd : ∀ x, inB o s x → op x = false) (hn : o < n → ¬ allB op o (bud o s))
    (hp : p ≤ (frL n op o).length) (h1 : ∀ q (hq : q < (frL n op o).length), q < p → (frL n op o)[q] < s) (h2 : ∀ q (hq : q < (frL n op o).length), p ≤ q → s < (frL n op o)[q]) :
    (frL n op o).take p ++ s :: (frL n op o).drop p = frL n (more op o s) o := by
  obtain ⟨a, b⟩ := inc_ins (frL_inc n op o) hp h1 h2
  refine frL_of a fun x => ?_
  rw [b, frL_mem, isF_more ho hs hb hd hn]
  exact ⟨fun h => h.imp id fun e => ⟨rfl, e⟩, fun h => h.imp id fun e => e.2⟩
theorem frL_del {n : Nat} {op : Opn} {o p : Nat} (hp : p < (frL n op o).length) :
    (frL n op o).take p ++ (frL n op o).drop (p + 1) = frL n (less op o (frL n op o)[p]) o := by
  obtain ⟨a, b⟩ := inc_del (frL_inc n op o) hp
  have hF : isF n op o (frL n op o)[p] := frL_mem.1 (List.getElem_mem hp)
  refine frL_of a fun x => ?_
  rw [b, frL_mem, isF_less hF]
  exact ⟨fun h => ⟨h.1, fun e => h.2 e.2⟩, fun h => ⟨h.1, fun e => h.2 ⟨rfl, e⟩⟩⟩
theorem frL_length (n : Nat) (op : Opn) (o : Nat) : (frL n op o).length ≤ 2 ^ n := inc_length (frL_inc n op o) fun x hx => by
  have h := frL_mem.1 hx
  have := h.2.2.1; have := two_pos o; omega
theorem pow_1024 {n : Nat} (h : n ≤ 10) : 2 ^ n ≤ 1024 := by
  have := Nat.pow_le_pow_right (n := 2) (by omega) h; simpa using this
theorem frL_len {n : Nat} (h : n ≤ 10) (op : Opn) (o : Nat) : (frL n op o).length ≤ 1024 := Nat.le_trans (frL_length n op o) (pow_1024 h)
theorem OkY.flen {n : Nat} {tk : List Bk} {fl : List Nat} (h : OkY n tk fl) : fl.length ≤ 1024 := Nat.le_trans (inc_length h.fs h.fr) (pow_1024 h.hn)
theorem OkY.starts {n : Nat} {tk : List Bk} {fl : List Nat} (h : OkY n tk fl) : (tk.map (·.1)).Pairwise (· < ·) := by
  rw [List.pairwise_map]
  exact h.srt.imp fun {a b} hab => by have := two_pos a.2; omega
theorem OkY.tlen {n : Nat} {tk : List Bk} {fl : List Nat} (h : OkY n tk fl) : tk.length ≤ 1024 := by
  have := inc_length h.starts (m := 2 ^ n) (fun x hx => by
    obtain ⟨b, hb, rfl⟩ := List.mem_map.1 hx
    have := h.le b hb; have := two_pos b.2; omega)
  rw [List.length_map] at this
  exact Nat.le_trans this (pow_1024 h.hn)
theorem OkY.stlt {n : Nat} {tk : List Bk} {fl : List Nat} (h : OkY n tk fl) {b : Bk} (hb : b ∈ tk) : b.1 < 1024 := by
  have := h.le b hb; have := two_pos b.2; have := pow_1024 h.hn; omega

/-! The places in the taken ones, and in the failed ones. -/
theorem tw_take {α : Type} {f : α → Bool} : ∀ {l : List α} {p : Nat}, p ≤ l.length → (∀ q (hq : q < l.length), q < p → f l[q] = true) → (∀ hp : p < l.length, f l[p] = false) → l.takeWhile f = l.take p ∧ l.dropWhile f = l.drop p
  | [], p, hp, _, _ => by simp
  | a :: r, 0, _, _, h2 => by
    have := h2 (by simp)
    simp only [List.getElem_cons_zero] at this
    exact ⟨by rw [List.takeWhile_cons_of_neg (by rw [this]; simp)]; rfl, by rw [List.dropWhile_cons_of_neg (by rw [this]; simp)]; rfl⟩
  | a :: r, p + 1, hp, h1, h2 => by
    have e := h1 0 (by simp) (by omega)
    simp only [List.getElem_cons_zero] at e
    have hp' : p ≤ r.length := by simpa using hp
    obtain ⟨i1, i2⟩ := tw_take (f := f) (l := r) (p := p) hp' (fun q hq hqp => by have := h1 (q + 1) (by simpa using hq) (by omega); simpa using this) (fun hq => by have := h2 (by simpa using hq); simpa using this)
    rw [List.takeWhile_cons_of_pos e, List.dropWhile_cons_of_pos e, i1, i2]
    exact ⟨rfl, rfl⟩
theorem insT_at {tk : List Bk} {b : Bk} {p : Nat} (hp : p ≤ tk.length) (h1 : ∀ q (hq : q < tk.length), q < p → tk[q].1 < b.1) (h2 : ∀ q (hq : q < tk.length), p ≤ q → b.1 ≤ tk[q].1) : insT tk b = tk.take p ++ b :: tk.drop p := by
  obtain ⟨e1, e2⟩ := tw_take (f := fun a => decide (a.1 < b.1)) hp (fun q hq hqp => decide_eq_true (h1 q hq hqp)) (fun hq => decide_eq_false (by have := h2 p hq (Nat.le_refl _); omega))
  unfold insT; rw [e1, e2]
theorem insF_at {fl : List Nat} {w p : Nat} (hp : p ≤ fl.length) (h1 : ∀ q (hq : q < fl.length), q < p → fl[q] < w) (h2 : ∀ q (hq : q < fl.length), p ≤ q → w ≤ fl[q]) : insF fl w = fl.take p ++ w :: fl.drop p := by
  obtain ⟨e1, e2⟩ := tw_take (f := fun a => decide (a < w)) hp (fun q hq hqp => decide_eq_true (h1 q hq hqp)) (fun hq => decide_eq_false (by have := h2 p hq (Nat.le_refl _); omega))
  unfold insF; rw [e1, e2]
theorem filter_all {α : Type} {f : α → Bool} {l : List α} (h : ∀ x ∈ l, f x = true) : l.filter f = l := List.filter_eq_self.2 h
theorem remF_at {fl : List Nat} {p : Nat} (h : fl.Pairwise (· < ·)) (hp : p < fl.length) : remF fl fl[p] = fl.take p ++ fl.drop (p + 1) := by
  obtain ⟨a, b⟩ := inc_del h hp
  refine inc_uniq (List.Pairwise.filter _ h) a fun x => ?_
  rw [b]
  unfold remF
  rw [List.mem_filter, decide_eq_true_eq]
theorem remT_at {n : Nat} {tk : List Bk} {fl : List Nat} {p : Nat} (h : OkY n tk fl) (hp : p < tk.length) : remT tk tk[p].1 = tk.take p ++ tk.drop (p + 1) := by
  have hl : tk = tk.take p ++ tk[p] :: tk.drop (p + 1) := by rw [← List.drop_eq_getElem_cons hp, List.take_append_drop]
  have hs := List.pairwise_map.1 h.starts
  rw [hl, List.pairwise_append, List.pairwise_cons] at hs
  obtain ⟨a1, ⟨a2, a3⟩, a4⟩ := hs
  obtain ⟨b, hb⟩ : ∃ b, b = tk[p] := ⟨_, rfl⟩
  rw [← hb] at hl a2 a4 ⊢
  have e : remT tk b.1 = (tk.take p ++ b :: tk.drop (p + 1)).filter fun a => decide (a.1 ≠ b.1) := by unfold remT; exact congrArg (List.filter _) hl
  rw [e, List.filter_append, List.filter_cons_of_neg (by simp), filter_all fun x hx => decide_eq_true (by have := a4 x hx b List.mem_cons_self; omega), filter_all fun x hx => decide_eq_true (by have := a2 x hx; omega)]

/-! All free blocks. -/
open Classical in
noncomputable def freeL (n : Nat) (op : Opn) : List Bk := (List.range (2 ^ n)).flatMap fun s => ((List.range (n + 1)).filter fun o => decide (isF n op o s)).map fun o => (s, o)
open Classical in
theorem freeL_mem {n : Nat} {op : Opn} {b : Bk} : b ∈ freeL n op ↔ isF n op b.2 b.1 := by
  unfold freeL
  rw [List.mem_flatMap]
  constructor
  · rintro ⟨s, _, h⟩
    obtain ⟨o, ho, rfl⟩ := List.mem_map.1 h
    exact of_decide_eq_true (List.mem_filter.1 ho).2
  · intro h
    have h1 := h.2.2.1
    have h2 := two_pos b.2
    exact ⟨b.1, List.mem_range.2 (by omega), List.mem_map.2 ⟨b.2, List.mem_filter.2 ⟨List.mem_range.2 (by have := h.1; omega), decide_eq_true h⟩, rfl⟩⟩
def incB (l : List Bk) : Prop := l.Pairwise fun a b => a.1 < b.1
theorem incB_uniq : ∀ {a b : List Bk}, incB a → incB b → (∀ x, x ∈ a ↔ x ∈ b) → a = b
  | [], [], _, _, _ => rfl
  | [], y :: b, _, _, h => absurd ((h y).2 (by simp)) (by simp)
  | x :: a, [], _, _, h => absurd ((h x).1 (by simp)) (by simp)
  | x :: a, y :: b, ha, hb, h => by
    unfold incB at ha hb
    rw [List.pairwise_cons] at ha hb
    have hxy : x = y := by
      rcases List.mem_cons.1 ((h x).1 (by simp)) with e | hx
      · exact e
      · rcases List.mem_cons.1 ((h y).2 (by simp)) with e | hy
        · exact e.symm
        · have := hb.1 x hx; have := ha.1 y hy; omega
    subst hxy
    rw [incB_uniq ha.2 hb.2 fun z => ?_]
    constructor
    · intro hz
      rcases List.mem_cons.1 ((h z).1 (List.mem_cons_of_mem _ hz)) with e | hz'
      · subst e; have := ha.1 z hz; omega
      · exact hz'
    · intro hz
      rcases List.mem_cons.1 ((h z).2 (List.mem_cons_of_mem _ hz)) with e | hz'
      · subst e; have := hb.1 z hz; omega
      · exact hz'
open Classical in
theorem freeL_inc (n : Nat) (op : Opn) : incB (freeL n op) := by
  unfold incB freeL
  rw [List.pairwise_flatMap]
  constructor
  · intro s _
    rw [List.pairwise_map]
    have : ∀ o ∈ (List.range (n + 1)).filter (fun o => decide (isF n op o s)), isF n op o s := fun o ho => of_decide_eq_true (List.mem_filter.1 ho).2
    have hn : ((List.range (n + 1)).filter (fun o => decide (isF n op o s))).Pairwise (· < ·) := List.Pairwise.filter _ List.pairwise_lt_range
    refine List.Pairwise.imp_of_mem (R := (· < ·)) (fun {a b} ha hb hab => ?_) hn
    have := (isF_apart (this a ha) (this b hb) (inB_self _ _) (inB_self _ _)).1
    omega
  · refine List.Pairwise.imp (R := (· < ·)) (fun {a b} hab x hx y hy => ?_) List.pairwise_lt_range
    obtain ⟨_, _, rfl⟩ := List.mem_map.1 hx
    obtain ⟨_, _, rfl⟩ := List.mem_map.1 hy
    exact hab
theorem freeL_of {n : Nat} {op : Opn} {l : List Bk} (hi : incB l) (hm : ∀ b, b ∈ l ↔ isF n op b.2 b.1) : l = freeL n op :=
  incB_uniq hi (freeL_inc n op) fun x => by rw [hm, freeL_mem]
theorem freeL_len {n : Nat} (h : n ≤ 10) (op : Opn) : (freeL n op).length ≤ 1024 := by
  have h1 : ((freeL n op).map (·.1)).Pairwise (· < ·) := by rw [List.pairwise_map]; exact freeL_inc n op
  have := inc_length h1 (m := 2 ^ n) (fun x hx => by
    obtain ⟨b, hb, rfl⟩ := List.mem_map.1 hx
    have := (freeL_mem.1 hb).2.2.1; have := two_pos b.2; omega)
  rw [List.length_map] at this
  exact Nat.le_trans this (pow_1024 h)
end Go.Proofs.Ytcdlfhheolbhaaa
