/-
  Profiles, plainly: changed, from now on, the lesser of two. No program is imported.
-/
import Derived.Test.YtnbgipegfnpobaaPr3
namespace Go.Proofs.Ytnbgipegfnpobaa
set_option linter.unusedVariables false

theorem sorted_eq : ∀ {a b : List Int}, a.Pairwise (· < ·) → b.Pairwise (· < ·) → (∀ x, x ∈ a ↔ x ∈ b) → a = b
  | [], [], _, _, _ => rfl
  | [], y :: b, _, _, h => by have := (h y).2 List.mem_cons_self; cases this
  | x :: a, [], _, _, h => by have := (h x).1 List.mem_cons_self; cases this
  | x :: a, y :: b, ha, hb, h => by
    obtain ⟨a1, a2⟩ := List.pairwise_cons.1 ha
    obtain ⟨b1, b2⟩ := List.pairwise_cons.1 hb
    have exy : x = y := by
      rcases List.mem_cons.1 ((h x).1 List.mem_cons_self) with e | e
      · exact e
      · rcases List.mem_cons.1 ((h y).2 List.mem_cons_self) with e' | e'
        · exact e'.symm
        · have := b1 x e; have := a1 y e'; omega
    subst exy
    rw [sorted_eq a2 b2 fun z => ?_]
    constructor
    · intro hz
      rcases List.mem_cons.1 ((h z).1 (List.mem_cons_of_mem _ hz)) with e | e
      · have := a1 z hz; omega
      · exact e
    · intro hz
      rcases List.mem_cons.1 ((h z).2 (List.mem_cons_of_mem _ hz)) with e | e
      · have := b1 z hz; omega
      · exact e
theorem inc_pw : ∀ {p : List Lv}, Inc p → (ats p).Pairwise (· < ·)
  | [], _ => by simp [ats]
  | a :: r, h => by
    refine List.pairwise_cons.2 ⟨fun x hx => ?_, inc_pw h.tail⟩
    obtain ⟨y, hy, rfl⟩ := List.mem_map.1 hx
    exact Inc.head h y hy
theorem course_eq {g : Int → Int} {p : List Lv} (h : Course g p) : p = (ats p).map fun t => (t, g t) := by
  induction p with
  | nil => rfl
  | cons a r ih =>
    have e := h a List.mem_cons_self
    show a :: r = (a.1, g a.1) :: (ats r).map _
    rw [← ih fun x hx => h x (List.mem_cons_of_mem _ hx), ← e]
/-- What an index loop builds up. -/
def mapT (l : List Int) (g : Int → Int) (i : Nat) : List Lv := (l.take i).map fun t => (t, g t)
theorem vG_upto {n : Int} {p : List Lv} (hp : Inc p) {t : Int} {i : Nat} (hi : i < p.length) (h1 : (lv p i).1 ≤ t) (h2 : ∀ j, i < j → j < p.length → t < (lv p j).1) : vG n p t = (lv p i).2 := by
  have hn := (vA_at hp hi h1 h2).2
  rw [vG_num p n t hp, hn, if_neg (by omega), Nat.add_sub_cancel]
/-- Each level tells what is free at its tick. -/
theorem course_self {p : List Lv} (hp : Inc p) : Course (vA p) p := fun x hx => by
  obtain ⟨i, hi, rfl⟩ := mem_lv hx
  exact (vG_upto hp hi (Int.le_refl _) fun j h1 h2 => hp.at i j h1 h2).symm

/-! A level more. -/
def splitV (p : List Lv) (t : Int) : List Lv := if (lv p (num p t - 1)).1 = t then p else p.take (num p t) ++ (t, vA p t) :: p.drop (num p t)
theorem inc_mid : ∀ {a b : List Lv} {x : Lv}, Inc (a ++ b) → (∀ y ∈ a, y.1 < x.1) → (∀ y ∈ b, x.1 < y.1) → Inc (a ++ x :: b)
  | [], b, x, h, _, hb => by
    cases b with
    | nil => trivial
    | cons c r => exact ⟨hb c List.mem_cons_self, h⟩
  | [y], b, x, h, ha, hb => by
    refine ⟨ha y List.mem_cons_self, ?_⟩
    cases b with
    | nil => trivial
    | cons c r => exact ⟨hb c List.mem_cons_self, h.tail⟩
  | y :: z :: a, b, x, h, ha, hb => ⟨h.1, inc_mid (a := z :: a) h.2 (fun w hw => ha w (List.mem_cons_of_mem _ hw)) hb⟩
structure Split (p q : List Lv) (t : Int) : Prop where
  inc : Inc q
  mem : ∀ x, x ∈ ats q ↔ x ∈ ats p ∨ x = t
  val : ∀ s, vA q s = vA p s
  head : (lv q 0).1 = (lv p 0).1
  ne : q ≠ []
theorem split_is {p : List Lv} (hp : Inc p) (h0 : p ≠ []) {t : Int} (ht : (lv p 0).1 ≤ t) : Split p (splitV p t) t := by
  have hn0 : num p t ≠ 0 := fun e => by have := (num_pos hp h0 (t := t)).1 e; omega
  have hnl := num_le p t
  unfold splitV
  split
  · rename_i e
    have hm : t ∈ ats p := List.mem_map.2 ⟨_, lv_mem (by omega : num p t - 1 < p.length), e⟩
    exact ⟨hp, fun x => ⟨.inl, fun h => h.elim id fun h => h ▸ hm⟩, fun _ => rfl, rfl, h0⟩
  · rename_i e
    have h1 : ∀ y ∈ p.take (num p t), y.1 < t := fun y hy => by
      obtain ⟨j, hj, hjl, rfl⟩ := mem_take_lv hy
      rcases Nat.lt_or_ge j (num p t - 1) with h | h
      · have := hp.at j (num p t - 1) h (by omega)
        have := num_lt p t (num p t - 1) (by omega)
        omega
      · have ej : j = num p t - 1 := by omega
        have h3 := num_lt p t (num p t - 1) (by omega)
        rw [ej]
        omega
    have h2 : ∀ y ∈ p.drop (num p t), t < y.1 := fun y hy => by
      obtain ⟨j, hj, hjl, rfl⟩ := mem_drop_lv hy
      exact num_ge hp t j hj hjl
    have hinc : Inc (p.take (num p t) ++ (t, vA p t) :: p.drop (num p t)) := inc_mid (by rw [List.take_append_drop]; exact hp) h1 h2
    have hpt : p = p.take (num p t) ++ p.drop (num p t) := (List.take_append_drop _ _).symm
    refine ⟨hinc, fun x => ?_, fun s => ?_, ?_, by simp⟩
    · have : x ∈ ats p ↔ x ∈ ats (p.take (num p t)) ∨ x ∈ ats (p.drop (num p t)) := by
        have e2 : ats p = ats (p.take (num p t)) ++ ats (p.drop (num p t)) := by
          unfold ats; rw [← List.map_append, List.take_append_drop]
        rw [e2, List.mem_append]
      rw [this]
      simp only [ats, List.map_append, List.map_cons, List.mem_append, List.mem_cons]
      constructor
      · rintro (h | h | h)
        · exact .inl (.inl h)
        · exact .inr h
        · exact .inl (.inr h)
      · rintro ((h | h) | h)
        · exact .inl h
        · exact .inr (.inr h)
        · exact .inr (.inl h)
    · show vG 0 _ s = vG 0 p s
      rw [vG_append]
      conv => rhs; rw [hpt, vG_append]
      show vG (if t ≤ s then vA p t else vG 0 (p.take (num p t)) s) (p.drop (num p t)) s = _
      by_cases hs : t ≤ s
      · rw [if_pos hs]
        have e1 : vG 0 (p.take (num p t)) s = vA p t := by
          have hti : Inc (p.take (num p t)) := by
            have := hp; rw [hpt] at this
            clear h1 h2 hinc hpt
            revert this
            generalize p.take (num p t) = a
            generalize p.drop (num p t) = b
            intro h
            induction a with
            | nil => trivial
            | cons x a ih =>
              cases a with
              | nil => trivial
              | cons y a => exact ⟨h.1, ih h.2⟩
          have hl : (p.take (num p t)).length = num p t := by rw [List.length_take]; omega
          have hg : ∀ j, j < num p t → lv (p.take (num p t)) j = lv p j := fun j hj => by
            unfold lv; rw [List.getD_eq_getElem?_getD, List.getD_eq_getElem?_getD, List.getElem?_take, if_pos hj]
          rw [vG_upto hti (i := num p t - 1) (by omega) (by rw [hg _ (by omega)]; have := num_lt p t (num p t - 1) (by omega); omega) (fun j a b => by omega), hg _ (by omega), vA_num hp, if_neg hn0]
        rw [e1]
      · rw [if_neg hs]
    · obtain ⟨k, hk⟩ : ∃ k, num p t = k + 1 := ⟨num p t - 1, by omega⟩
      rw [hk]
      cases p with
      | nil => exact absurd rfl h0
      | cons a r => simp [lv]

/-! More, or fewer, at some ticks. -/
def badCh (p : List Lv) (f n k : Int) : Prop := f < (lv p 0).1 ∨ MaxT < f ∨ n < 1 ∨ MaxT - f < n ∨ k < -MaxT ∨ MaxT < k
def inW (f n t : Int) : Prop := f ≤ t ∧ t < f + n
instance (f n t : Int) : Decidable (inW f n t) := by unfold inW; exact inferInstance
def newG (p : List Lv) (f n k t : Int) : Int := vA p t + if inW f n t then k else 0
def endsC (p : List Lv) (f n : Int) : List Int := endsV (lv p 0).1 (ats p ++ [f, f + n])
def overT (x : Int) : Prop := x < 0 ∨ MaxT < x
open Classical in
noncomputable def changeV (p : List Lv) (f n k : Int) : List Lv × Int :=
  if ¬ okP p then ([], 50) else if badCh p f n k then ([], 2) else if ∃ t ∈ endsC p f n, overT (newG p f n k t) then ([], 5) else (cmpct ((endsC p f n).map fun t => (t, newG p f n k t)), 0)
def splits (p : List Lv) (f n : Int) : List Lv := splitV (splitV p f) (f + n)
def addL (f n k : Int) (x : Lv) : Lv := if inW f n x.1 then (x.1, x.2 + k) else x
def addV (q : List Lv) (f n k : Int) : List Lv := q.map (addL f n k)
theorem ats_add (q : List Lv) (f n k : Int) : ats (addV q f n k) = ats q := by
  unfold ats addV
  rw [List.map_map]
  apply List.map_congr_left
  intro x _
  show (addL f n k x).1 = x.1
  unfold addL; split <;> rfl
structure Splits (p q : List Lv) (f n : Int) : Prop where
  inc : Inc q
  ends : ats q = endsC p f n
  crs : Course (vA p) q
  val : ∀ s, vA q s = vA p s
  head : (lv q 0).1 = (lv p 0).1
theorem splits_is {p : List Lv} (hp : okP p) {f n : Int} (h1 : (lv p 0).1 ≤ f) (h2 : 1 ≤ n) : Splits p (splits p f n) f n := by
  have s1 := split_is hp.inc hp.1 h1
  have s2 := split_is s1.inc s1.ne (t := f + n) (by rw [s1.head]; omega)
  have hi := s2.inc
  have hv : ∀ s, vA (splits p f n) s = vA p s := fun s => (s2.val s).trans (s1.val s)
  refine ⟨hi, sorted_eq (inc_pw hi) (ends_pw _ _) fun x => ?_, ?_, hv, s2.head.trans s1.head⟩
  · rw [show splits p f n = splitV (splitV p f) (f + n) from rfl, s2.mem, s1.mem, endsC, mem_ends]
    have hm : ∀ x, x ∈ ats p → x = (lv p 0).1 ∨ (lv p 0).1 < x := fun x hx => by
      obtain ⟨y, hy, rfl⟩ := List.mem_map.1 hx
      obtain ⟨i, hi, rfl⟩ := mem_lv hy
      cases i with
      | zero => exact .inl rfl
      | succ i => exact .inr (hp.inc.at 0 (i + 1) (by omega) hi)
    have h0 : (lv p 0).1 ∈ ats p := List.mem_map.2 ⟨_, lv_mem (List.length_pos_iff.2 hp.1), rfl⟩
    simp only [List.mem_append, List.mem_cons, List.mem_nil_iff, or_false]
    constructor
    · rintro ((h | h) | h)
      · rcases hm x h with e | e
        · exact .inl e
        · exact .inr ⟨.inl h, e⟩
      · subst h
        rcases Int.lt_or_le (lv p 0).1 x with e | e
        · exact .inr ⟨.inr (.inl rfl), e⟩
        · exact .inl (by omega)
      · subst h
        exact .inr ⟨.inr (.inr rfl), by omega⟩
    · rintro (h | ⟨h | h | h, h'⟩)
      · subst h; exact .inl (.inl h0)
      · exact .inl (.inl h)
      · exact .inl (.inr h)
      · exact .inr h
  · intro x hx
    rw [← hv]; exact course_self hi x hx
theorem val_ok {p : List Lv} (hp : okP p) (t : Int) : ¬ overT (vA p t) := by
  rw [vA_num hp.inc]
  have hn := num_le p t
  split
  · unfold overT MaxT; omega
  · have := (hp.2 (num p t - 1) (by omega)).1.2
    unfold overT; omega
/-- The reference's ticks, and the program's levels: too many or too few in the one, where in the other. -/
theorem over_iff {p : List Lv} (hp : okP p) {f n k : Int} (h1 : (lv p 0).1 ≤ f) (h2 : 1 ≤ n) : (∃ t ∈ endsC p f n, overT (newG p f n k t)) ↔ ∃ x ∈ splits p f n, inW f n x.1 ∧ overT (x.2 + k) := by
  have S := splits_is hp h1 h2
  rw [← S.ends]
  constructor
  · rintro ⟨t, ht, ho⟩
    obtain ⟨x, hx, rfl⟩ := List.mem_map.1 ht
    unfold newG at ho
    split at ho
    · rename_i hw
      exact ⟨x, hx, hw, by rw [S.crs x hx]; exact ho⟩
    · rw [Int.add_zero] at ho
      exact absurd ho (val_ok hp _)
  · rintro ⟨x, hx, hw, ho⟩
    exact ⟨x.1, List.mem_map.2 ⟨x, hx, rfl⟩, by unfold newG; rw [if_pos hw, ← S.crs x hx]; exact ho⟩
theorem add_is {p : List Lv} (hp : okP p) {f n k : Int} (h1 : (lv p 0).1 ≤ f) (h2 : 1 ≤ n) : addV (splits p f n) f n k = (endsC p f n).map fun t => (t, newG p f n k t) := by
  have S := splits_is hp h1 h2
  have hc : Course (newG p f n k) (addV (splits p f n) f n k) := fun x hx => by
    obtain ⟨y, hy, rfl⟩ := List.mem_map.1 hx
    have := S.crs y hy
    unfold addL newG
    split
    · show y.2 + k = vA p y.1 + k
      rw [this]
    · show y.2 = vA p y.1 + 0
      rw [this, Int.add_zero]
  rw [course_eq hc, ats_add, S.ends]
theorem change_no {p : List Lv} (h : ¬ okP p) (f n k : Int) : changeV p f n k = ([], 50) := by unfold changeV; rw [if_pos h]
theorem change_bad {p : List Lv} (h : okP p) {f n k : Int} (hb : badCh p f n k) : changeV p f n k = ([], 2) := by unfold changeV; rw [if_neg (by simpa using h), if_pos hb]
theorem change_full {p : List Lv} (h : okP p) {f n k : Int} (hb : ¬ badCh p f n k) (ho : ∃ t ∈ endsC p f n, overT (newG p f n k t)) : changeV p f n k = ([], 5) := by
  unfold changeV; rw [if_neg (by simpa using h), if_neg hb, if_pos ho]
theorem change_ok {p : List Lv} (h : okP p) {f n k : Int} (hb : ¬ badCh p f n k) (ho : ¬ ∃ t ∈ endsC p f n, overT (newG p f n k t)) : changeV p f n k = (cmpct ((endsC p f n).map fun t => (t, newG p f n k t)), 0) := by
  unfold changeV; rw [if_neg (by simpa using h), if_neg hb, if_neg ho]

/-! From now on. -/
def badTr (p : List Lv) (t : Int) : Prop := t < (lv p 0).1 ∨ MaxT < t
open Classical in
noncomputable def trimV (p : List Lv) (t : Int) : List Lv × Int :=
  if ¬ okP p then ([], 50) else if badTr p t then ([], 2) else (cmpct ((endsV t (ats p)).map fun s => (s, vA p s)), 0)
def trimL (p : List Lv) (t : Int) : List Lv := (t, vA p t) :: p.drop (num p t)
theorem trim_chain {p : List Lv} (hp : okP p) {t : Int} (h : (lv p 0).1 ≤ t) : Chain (trimL p t) := by
  have hn0 : num p t ≠ 0 := fun e => by have := (num_pos hp.inc hp.1 (t := t)).1 e; omega
  have hl := num_le p t
  have hlen : (trimL p t).length = p.length - num p t + 1 := by simp [trimL]
  have hg : ∀ i, lv (trimL p t) (i + 1) = lv p (num p t + i) := fun i => by
    unfold trimL; rw [lv_cons_succ]; unfold lv; rw [List.getD_eq_getElem?_getD, List.getD_eq_getElem?_getD, List.getElem?_drop]
  refine chain_of fun i hi => ?_
  cases i with
  | zero =>
    rw [hg, show lv (trimL p t) 0 = (t, vA p t) from rfl]
    have h1 := num_ge hp.inc t (num p t) (Nat.le_refl _) (by omega)
    have h2 := hp.chain.at (num p t - 1) (by omega)
    rw [show num p t - 1 + 1 = num p t by omega] at h2
    refine ⟨h1, ?_⟩
    show vA p t ≠ _
    rw [vA_num hp.inc, if_neg hn0]; exact h2.2
  | succ i =>
    rw [hg, hg]
    exact hp.chain.at (num p t + i) (by omega)
theorem trim_is {p : List Lv} (hp : okP p) {t : Int} (hb : ¬ badTr p t) : trimV p t = (trimL p t, 0) := by
  have hb' : ¬ (t < (lv p 0).1 ∨ MaxT < t) := hb
  have hc := trim_chain hp (t := t) (by omega)
  have hcrs : Course (vA p) (trimL p t) := fun x hx => by
    rcases List.mem_cons.1 hx with rfl | hx
    · rfl
    · exact course_self hp.inc x (List.mem_of_mem_drop hx)
  have hats : ats (trimL p t) = endsV t (ats p) := sorted_eq (inc_pw hc.inc) (ends_pw _ _) fun x => by
    rw [mem_ends]
    simp only [trimL, ats, List.map_cons, List.mem_cons]
    constructor
    · rintro (h | h)
      · exact .inl h
      · obtain ⟨y, hy, rfl⟩ := List.mem_map.1 h
        obtain ⟨j, h1, h2, rfl⟩ := mem_drop_lv hy
        exact .inr ⟨List.mem_map.2 ⟨_, lv_mem h2, rfl⟩, num_ge hp.inc t j h1 h2⟩
    · rintro (h | ⟨h, h'⟩)
      · exact .inl h
      · obtain ⟨y, hy, rfl⟩ := List.mem_map.1 h
        obtain ⟨j, h2, rfl⟩ := mem_lv hy
        refine .inr (List.mem_map.2 ⟨lv p j, ?_, rfl⟩)
        have hj : num p t ≤ j := by
          rcases Nat.lt_or_ge j (num p t) with e | e
          · have := num_lt p t j e; omega
          · exact e
        rw [List.mem_iff_getElem?]
        exact ⟨j - num p t, by rw [List.getElem?_drop, show num p t + (j - num p t) = j by omega]; exact lv_get h2⟩
  unfold trimV
  rw [if_neg (by simpa using hp), if_neg hb, ← hats, ← course_eq hcrs, cmpct_self hc]
theorem trim_no {p : List Lv} (h : ¬ okP p) (t : Int) : trimV p t = ([], 50) := by unfold trimV; rw [if_pos h]
theorem trim_bad {p : List Lv} (h : okP p) {t : Int} (hb : badTr p t) : trimV p t = ([], 2) := by unfold trimV; rw [if_neg (by simpa using h), if_pos hb]
end Go.Proofs.Ytnbgipegfnpobaa
