/-
  The yard, plainly: aligned blocks; which are free when these workers are; what a block more, or fewer, makes of it. No program is imported.
-/
import Derived.Lib.Hide
namespace Go.Proofs.Ytioeblljabohbaa
set_option linter.unusedVariables false

def flo (m x : Nat) : Nat := x - x % m
theorem flo_le (m x : Nat) : flo m x ≤ x := Nat.sub_le _ _
theorem flo_mod (m x : Nat) : flo m x % m = 0 := by
  unfold flo
  have := Nat.mod_add_div x m
  have e : x - x % m = m * (x / m) := by omega
  rw [e, Nat.mul_mod_right]
theorem flo_lt {m : Nat} (x : Nat) (hm : 0 < m) : x < flo m x + m := by
  unfold flo; have := Nat.mod_lt x hm; have := Nat.mod_le x m; omega
theorem mod_dvd {m a : Nat} (h : a % m = 0) : ∃ k, a = m * k := ⟨a / m, by have := Nat.mod_add_div a m; omega⟩
theorem flo_of {m s x : Nat} (hm : 0 < m) (hs : s % m = 0) (h1 : s ≤ x) (h2 : x < s + m) : flo m x = s := by
  obtain ⟨k, rfl⟩ := mod_dvd hs
  unfold flo
  have e : x % m = x - m * k := by
    have : x = m * k + (x - m * k) := by omega
    rw [this, Nat.mul_add_mod, Nat.mod_eq_of_lt (by omega)]; omega
  omega
theorem flo_ge {m a x : Nat} (ha : a % m = 0) (h : a ≤ x) (hm : 0 < m) : a ≤ flo m x := by
  obtain ⟨k, rfl⟩ := mod_dvd ha
  obtain ⟨q, hq⟩ := mod_dvd (flo_mod m x)
  have h2 := flo_lt x hm
  rw [hq] at h2 ⊢
  have : k < q + 1 := by
    have h3 : m * k < m * (q + 1) := by rw [Nat.mul_add, Nat.mul_one]; omega
    exact Nat.lt_of_mul_lt_mul_left h3
  exact Nat.mul_le_mul_left m (by omega)
theorem flo_next {m b x : Nat} (hb : b % m = 0) (h : x < b) (hm : 0 < m) : flo m x + m ≤ b := by
  obtain ⟨k, rfl⟩ := mod_dvd hb
  obtain ⟨q, hq⟩ := mod_dvd (flo_mod m x)
  have h2 := flo_le m x
  rw [hq] at h2 ⊢
  have : q < k := Nat.lt_of_mul_lt_mul_left (a := m) (by omega)
  have h4 : m * (q + 1) ≤ m * k := Nat.mul_le_mul_left m (by omega)
  rw [Nat.mul_add, Nat.mul_one] at h4
  exact h4
theorem two_pos (o : Nat) : 0 < 2 ^ o := Nat.pow_pos (by omega)
theorem two_mod {o o' s : Nat} (h : o ≤ o') (hs : s % 2 ^ o' = 0) : s % 2 ^ o = 0 := by
  obtain ⟨k, rfl⟩ := mod_dvd hs
  obtain ⟨d, rfl⟩ := Nat.exists_eq_add_of_le h
  rw [Nat.pow_add, Nat.mul_assoc, Nat.mul_mod_right]
theorem two_add_mod {o o' s : Nat} (h : o ≤ o') (hs : s % 2 ^ o' = 0) : (s + 2 ^ o') % 2 ^ o = 0 := by
  refine two_mod h ?_
  rw [Nat.add_mod_right]; exact hs

/-! Blocks. -/
def inB (o s x : Nat) : Prop := s ≤ x ∧ x < s + 2 ^ o
theorem inB_self (o s : Nat) : inB o s s := ⟨Nat.le_refl _, by have := two_pos o; omega⟩
/-- Two aligned blocks that share a worker: the lesser one lies in the greater one. -/
theorem nest {o o' s s' x : Nat} (h : o ≤ o') (hs : s % 2 ^ o = 0) (hs' : s' % 2 ^ o' = 0) (hx : inB o s x) (hx' : inB o' s' x) : s' ≤ s ∧ s + 2 ^ o ≤ s' + 2 ^ o' := by
  have e := flo_of (two_pos o) hs hx.1 hx.2
  have h1 := flo_ge (two_mod h hs') hx'.1 (two_pos o)
  have h2 := flo_next (two_add_mod h hs') hx'.2 (two_pos o)
  rw [e] at h1 h2
  exact ⟨h1, h2⟩
theorem nest_in {o o' s s' x : Nat} (h : o ≤ o') (hs : s % 2 ^ o = 0) (hs' : s' % 2 ^ o' = 0) (hx : inB o s x) (hx' : inB o' s' x) : ∀ y, inB o s y → inB o' s' y := fun y hy => by
  obtain ⟨h1, h2⟩ := nest h hs hs' hx hx'
  exact ⟨Nat.le_trans h1 hy.1, Nat.lt_of_lt_of_le hy.2 h2⟩
theorem same_block {o s s' x : Nat} (hs : s % 2 ^ o = 0) (hs' : s' % 2 ^ o = 0) (hx : inB o s x) (hx' : inB o s' x) : s = s' := by
  rw [← flo_of (two_pos o) hs hx.1 hx.2, flo_of (two_pos o) hs' hx'.1 hx'.2]
def up (o s : Nat) : Nat := flo (2 ^ (o + 1)) s
theorem up_mod (o s : Nat) : up o s % 2 ^ (o + 1) = 0 := flo_mod _ _
theorem up_in {o s : Nat} (hs : s % 2 ^ o = 0) : ∀ y, inB o s y → inB (o + 1) (up o s) y :=
  nest_in (Nat.le_succ o) hs (up_mod o s) (inB_self o s) ⟨flo_le _ _, flo_lt _ (two_pos _)⟩
/-- The other half. -/
def bud (o s : Nat) : Nat := if s % 2 ^ (o + 1) = 0 then s + 2 ^ o else s - 2 ^ o
theorem pow_two (o : Nat) : 2 ^ (o + 1) = 2 ^ o + 2 ^ o := by rw [Nat.pow_succ]; omega
theorem up_cases {o s : Nat} (hs : s % 2 ^ o = 0) : (s % 2 ^ (o + 1) = 0 ∧ up o s = s ∧ bud o s = s + 2 ^ o) ∨ (s % 2 ^ (o + 1) = 2 ^ o ∧ up o s + 2 ^ o = s ∧ bud o s = up o s) := by
  have hp := two_pos o
  have hlt := Nat.mod_lt s (two_pos (o + 1))
  have e2 := pow_two o
  have hd : s % 2 ^ (o + 1) % 2 ^ o = 0 := by
    rw [Nat.mod_mod_of_dvd s ⟨2, by rw [e2]; omega⟩]; exact hs
  by_cases h0 : s % 2 ^ (o + 1) = 0
  · refine .inl ⟨h0, by unfold up flo; omega, by unfold bud; rw [if_pos h0]⟩
  · obtain ⟨k, hk⟩ := mod_dvd hd
    have hk1 : k = 1 := by
      have h1 : k ≠ 0 := by intro e; rw [e] at hk; omega
      have h2 : k < 2 := by
        have : 2 ^ o * k < 2 ^ o * 2 := by omega
        exact Nat.lt_of_mul_lt_mul_left this
      omega
    subst hk1
    rw [Nat.mul_one] at hk
    have hle := Nat.mod_le s (2 ^ (o + 1))
    have hup : up o s + 2 ^ o = s := by unfold up flo; omega
    refine .inr ⟨hk, hup, ?_⟩
    unfold bud; rw [if_neg h0]; omega
theorem bud_mod {o s : Nat} (hs : s % 2 ^ o = 0) : bud o s % 2 ^ o = 0 := by
  rcases up_cases hs with ⟨h1, h2, h3⟩ | ⟨h1, h2, h3⟩
  · rw [h3, Nat.add_mod_right]; exact hs
  · rw [h3]; exact two_mod (Nat.le_succ o) (up_mod o s)
theorem up_split {o s : Nat} (hs : s % 2 ^ o = 0) (y : Nat) : inB (o + 1) (up o s) y ↔ inB o s y ∨ inB o (bud o s) y := by
  have e2 := pow_two o
  unfold inB
  rcases up_cases hs with ⟨h1, h2, h3⟩ | ⟨h1, h2, h3⟩ <;> rw [h3] <;> omega
theorem bud_apart {o s : Nat} (hs : s % 2 ^ o = 0) (y : Nat) : ¬ (inB o s y ∧ inB o (bud o s) y) := by
  unfold inB
  rcases up_cases hs with ⟨h1, h2, h3⟩ | ⟨h1, h2, h3⟩ <;> rw [h3] <;> omega
theorem bud_ne {o s : Nat} (hs : s % 2 ^ o = 0) : bud o s ≠ s := fun e => bud_apart hs s ⟨inB_self o s, by rw [e]; exact inB_self o s⟩
theorem min_up {o s : Nat} (hs : s % 2 ^ o = 0) : min s (bud o s) = up o s := by
  rcases up_cases hs with ⟨h1, h2, h3⟩ | ⟨h1, h2, h3⟩ <;> rw [h3] <;> omega
/-- A block within the yard: its parent too. -/
theorem up_le {n o s : Nat} (hs : s % 2 ^ o = 0) (ho : o < n) (h : s + 2 ^ o ≤ 2 ^ n) : up o s + 2 ^ (o + 1) ≤ 2 ^ n :=
  flo_next (two_mod (s := 2 ^ n) ho (Nat.mod_self _)) (by have := two_pos o; omega) (two_pos _)
theorem bud_le {n o s : Nat} (hs : s % 2 ^ o = 0) (ho : o < n) (h : s + 2 ^ o ≤ 2 ^ n) : bud o s + 2 ^ o ≤ 2 ^ n := by
  have := up_le hs ho h
  have e2 := pow_two o
  rcases up_cases hs with ⟨h1, h2, h3⟩ | ⟨h1, h2, h3⟩ <;> rw [h3] <;> omega

/-! Which blocks are free. -/
abbrev Opn := Nat → Bool
def allB (op : Opn) (o s : Nat) : Prop := ∀ x, inB o s x → op x = true
def isF (n : Nat) (op : Opn) (o s : Nat) : Prop := o ≤ n ∧ s % 2 ^ o = 0 ∧ s + 2 ^ o ≤ 2 ^ n ∧ allB op o s ∧ (o < n → ¬ allB op (o + 1) (up o s))
theorem isF_apart {n : Nat} {op : Opn} {o o' s s' x : Nat} (h : isF n op o s) (h' : isF n op o' s') (hx : inB o s x) (hx' : inB o' s' x) : o = o' ∧ s = s' := by
  have key : ∀ {o o' s s' : Nat}, isF n op o s → isF n op o' s' → inB o s x → inB o' s' x → ¬ o < o' := by
    intro o o' s s' h h' hx hx' hlt
    obtain ⟨a1, a2, a3, a4, a5⟩ := h
    obtain ⟨b1, b2, b3, b4, b5⟩ := h'
    refine a5 (by omega) fun y hy => b4 y ?_
    exact nest_in hlt (up_mod o s) b2 (up_in a2 x hx) hx' y hy
  have e : o = o' := by
    have h1 := key h h' hx hx'
    have h2 := key h' h hx' hx
    omega
  subst e
  exact ⟨rfl, same_block h.2.1 h'.2.1 hx hx'⟩
/-- The greatest free block around an open one. -/
theorem isF_around {n : Nat} {op : Opn} : ∀ (d : Nat) {o s : Nat}, o + d = n → s % 2 ^ o = 0 → s + 2 ^ o ≤ 2 ^ n → allB op o s → ∃ o' s', o ≤ o' ∧ isF n op o' s' ∧ ∀ x, inB o s x → inB o' s' x
  | 0, o, s, hd, hs, hb, ha => ⟨o, s, Nat.le_refl _, ⟨by omega, hs, hb, ha, fun h => by omega⟩, fun x hx => hx⟩
  | d + 1, o, s, hd, hs, hb, ha => by
    by_cases hp : allB op (o + 1) (up o s)
    · obtain ⟨o', s', h1, h2, h3⟩ := isF_around d (o := o + 1) (s := up o s) (by omega) (up_mod o s) (up_le hs (by omega) hb) hp
      exact ⟨o', s', by omega, h2, fun x hx => h3 x (up_in hs x hx)⟩
    · exact ⟨o, s, Nat.le_refl _, ⟨by omega, hs, hb, ha, fun _ => hp⟩, fun x hx => hx⟩
theorem isF_some {n : Nat} {op : Opn} {x : Nat} (hx : x < 2 ^ n) (h : op x = true) : ∃ o s, isF n op o s ∧ inB o s x := by
  obtain ⟨o, s, _, h2, h3⟩ := isF_around (n := n) (op := op) n (o := 0) (s := x) (by omega) (by simp [Nat.mod_one]) (by simp; omega) (fun y hy => by
    have : y = x := by unfold inB at hy; simp at hy; omega
    rw [this]; exact h)
  exact ⟨o, s, h2, h3 x ⟨Nat.le_refl _, by simp⟩⟩
open Classical in
noncomputable def less (op : Opn) (o s : Nat) : Opn := fun x => if inB o s x then false else op x
open Classical in
noncomputable def more (op : Opn) (o s : Nat) : Opn := fun x => if inB o s x then true else op x
theorem less_in {op : Opn} {o s x : Nat} (h : inB o s x) : less op o s x = false := if_pos h
theorem less_out {op : Opn} {o s x : Nat} (h : ¬ inB o s x) : less op o s x = op x := if_neg h
theorem more_in {op : Opn} {o s x : Nat} (h : inB o s x) : more op o s x = true := if_pos h
theorem more_out {op : Opn} {o s x : Nat} (h : ¬ inB o s x) : more op o s x = op x := if_neg h
theorem less_le {op : Opn} {o s x : Nat} (h : less op o s x = true) : op x = true ∧ ¬ inB o s x := by
  by_cases hx : inB o s x
  · rw [less_in hx] at h; cases h
  · rw [less_out hx] at h; exact ⟨h, hx⟩
/-- A free block is taken away: all others stay. -/
theorem isF_less {n : Nat} {op : Opn} {o s : Nat} (h : isF n op o s) (o' s' : Nat) : isF n (less op o s) o' s' ↔ isF n op o' s' ∧ ¬ (o' = o ∧ s' = s) := by
  constructor
  · rintro ⟨b1, b2, b3, b4, b5⟩
    have hall : allB op o' s' := fun x hx => (less_le (b4 x hx)).1
    refine ⟨⟨b1, b2, b3, hall, fun hn hp => ?_⟩, fun e => ?_⟩
    · obtain ⟨a1, a2, a3, a4, a5⟩ := h
      have hex : ∃ x, inB (o' + 1) (up o' s') x ∧ inB o s x := by
        apply Classical.byContradiction
        intro hno
        exact b5 hn fun x hx => by rw [less_out fun hi => hno ⟨x, hx, hi⟩]; exact hp x hx
      obtain ⟨x, hx1, hx2⟩ := hex
      by_cases hc : o' + 1 ≤ o
      · have hin := nest_in hc (up_mod o' s') a2 hx1 hx2
        have := b4 s' (inB_self o' s')
        rw [less_in (hin s' (up_in b2 s' (inB_self o' s')))] at this
        cases this
      · refine a5 (by omega) fun y hy => hp y ?_
        exact nest_in (by omega) (up_mod o s) (up_mod o' s') (up_in a2 x hx2) hx1 y hy
    · have := b4 s' (inB_self o' s')
      rw [e.2, less_in (inB_self o s)] at this
      cases this
  · rintro ⟨hf, hne⟩
    obtain ⟨b1, b2, b3, b4, b5⟩ := hf
    refine ⟨b1, b2, b3, fun x hx => ?_, fun hn hp => b5 hn fun x hx => (less_le (hp x hx)).1⟩
    rw [less_out fun hi => hne (isF_apart ⟨b1, b2, b3, b4, b5⟩ h hx hi)]
    exact b4 x hx
theorem less_more {op : Opn} {o s : Nat} (h : ∀ x, inB o s x → op x = false) : less (more op o s) o s = op := by
  funext x
  by_cases hx : inB o s x
  · rw [less_in hx, h x hx]
  · rw [less_out hx, more_out hx]
theorem more_less {op : Opn} {o s : Nat} (h : allB op o s) : more (less op o s) o s = op := by
  funext x
  by_cases hx : inB o s x
  · rw [more_in hx, h x hx]
  · rw [more_out hx, less_out hx]
/-- A block more that does not make a greater one. -/
theorem isF_more {n : Nat} {op : Opn} {o s : Nat} (ho : o ≤ n) (hs : s % 2 ^ o = 0) (hb : s + 2 ^ o ≤ 2 ^ n) (hd : ∀ x, inB o s x → op x = false) (hn : o < n → ¬ allB op o (bud o s)) (o' s' : Nat) :
    isF n (more op o s) o' s' ↔ isF n op o' s' ∨ (o' = o ∧ s' = s) := by
  have hF : isF n (more op o s) o s := by
    refine ⟨ho, hs, hb, fun x hx => more_in hx, fun hlt hp => hn hlt fun x hx => ?_⟩
    have := hp x ((up_split hs x).2 (.inr hx))
    rwa [more_out fun hi => bud_apart hs x ⟨hi, hx⟩] at this
  have := isF_less hF o' s'
  rw [less_more hd] at this
  constructor
  · intro h
    by_cases he : o' = o ∧ s' = s
    · exact .inr he
    · exact .inl (this.2 ⟨h, he⟩)
  · rintro (h | ⟨rfl, rfl⟩)
    · exact (this.1 h).1
    · exact hF
/-- The other half is open, all of it: it is a free block. -/
theorem bud_free {n : Nat} {op : Opn} {o s : Nat} (ho : o < n) (hs : s % 2 ^ o = 0) (hb : s + 2 ^ o ≤ 2 ^ n) (hd : ∀ x, inB o s x → op x = false) (ha : allB op o (bud o s)) : isF n op o (bud o s) := by
  refine ⟨by omega, bud_mod hs, bud_le hs ho hb, ha, fun _ hp => ?_⟩
  have hbs := bud_mod hs
  have e : up o (bud o s) = up o s := by
    have h1 : inB (o + 1) (up o s) (bud o s) := (up_split hs _).2 (.inr (inB_self _ _))
    exact same_block (up_mod _ _) (up_mod _ _) (up_in hbs _ (inB_self _ _)) h1
  have := hp s (by rw [e]; exact up_in hs s (inB_self _ _))
  rw [hd s (inB_self _ _)] at this
  cases this
/-- Two halves make a whole. -/
theorem more_up {op : Opn} {o s : Nat} (hs : s % 2 ^ o = 0) (ha : allB op o (bud o s)) : more (less op o (bud o s)) (o + 1) (up o s) = more op o s := by
  funext x
  by_cases hx : inB (o + 1) (up o s) x
  · rw [more_in hx]
    rcases (up_split hs x).1 hx with h | h
    · rw [more_in h]
    · rw [more_out fun hi => bud_apart hs x ⟨hi, h⟩, ha x h]
  · have h1 : ¬ inB o s x := fun h => hx ((up_split hs x).2 (.inl h))
    have h2 : ¬ inB o (bud o s) x := fun h => hx ((up_split hs x).2 (.inr h))
    rw [more_out hx, more_out h1, less_out h2]

/-! The free blocks' starts, order by order. -/
open Classical in
noncomputable def frL (n : Nat) (op : Opn) (o : Nat) : List Nat := (List.range (2 ^ n)).filter fun s => decide (isF n op o s)
open Classical in
theorem frL_mem {n : Nat} {op : Opn} {o s : Nat} : s ∈ frL n op o ↔ isF n op o s := by
  unfold frL
  rw [List.mem_filter, List.mem_range]
  constructor
  · rintro ⟨_, h⟩; exact of_decide_eq_true h
  · intro h
    exact ⟨by have := h.2.2.1; have := two_pos o; omega, decide_eq_true h⟩
theorem frL_inc (n : Nat) (op : Opn) (o : Nat) : (frL n op o).Pairwise (· < ·) := List.Pairwise.filter _ List.pairwise_lt_range
theorem inc_uniq : ∀ {a b : List Nat}, a.Pairwise (· < ·) → b.Pairwise (· < ·) → (∀ x, x ∈ a ↔ x ∈ b) → a = b
  | [], [], _, _, _ => rfl
  | [], y :: b, _, _, h => absurd ((h y).2 (by simp)) (by simp)
  | x :: a, [], _, _, h => absurd ((h x).1 (by simp)) (by simp)
  | x :: a, y :: b, ha, hb, h => by
    rw [List.pairwise_cons] at ha hb
    have hxy : x = y := by
      rcases List.mem_cons.1 ((h x).1 (by simp)) with e | hx
      · exact e
      · rcases List.mem_cons.1 ((h y).2 (by simp)) with e | hy
        · exact e.symm
        · have := hb.1 x hx; have := ha.1 y hy; omega
    subst hxy
    rw [inc_uniq ha.2 hb.2 fun z => ?_]
    constructor
    · intro hz
      rcases List.mem_cons.1 ((h z).1 (List.mem_cons_of_mem _ hz)) with e | hz'
      · subst e; have := ha.1 z hz; omega
      · exact hz'
    · intro hz
      rcases List.mem_cons.1 ((h z).2 (List.mem_cons_of_mem _ hz)) with e | hz'
      · subst e; have := hb.1 z hz; omega
      · exact hz'
/-- A row is the free starts, if it rises and holds just these. -/
theorem frL_of {n : Nat} {op : Opn} {o : Nat} {l : List Nat} (hi : l.Pairwise (· < ·)) (hm : ∀ s, s ∈ l ↔ isF n op o s) : l = frL n op o :=
  inc_uniq hi (frL_inc n op o) fun x => by rw [hm, frL_mem]
theorem frL_less {n : Nat} {op : Opn} {o s o' : Nat} (h : isF n op o s) (hne : o' ≠ o) : frL n (less op o s) o' = frL n op o' :=
  (frL_of (frL_inc _ _ _) fun x => by rw [frL_mem, isF_less h]; exact ⟨fun q => ⟨q, fun e => hne e.1⟩, fun q => q.1⟩).symm
theorem frL_more {n : Nat} {op : Opn} {o s o' : Nat} (ho : o ≤ n) (hs : s % 2 ^ o = 0) (hb : s + 2 ^ o ≤ 2 ^ n) (hd : ∀ x, inB o s x → op x = false) (hn : o < n → ¬ allB op o (bud o s)) (hne : o' ≠ o) : frL n (more op o s) o' = frL n op o' :=
  (frL_of (frL_inc _ _ _) fun x => by rw [frL_mem, isF_more ho hs hb hd hn]; exact ⟨fun q => .inl q, fun q => q.resolve_right fun e => hne e.1⟩).symm
end Go.Proofs.Ytioeblljabohbaa
