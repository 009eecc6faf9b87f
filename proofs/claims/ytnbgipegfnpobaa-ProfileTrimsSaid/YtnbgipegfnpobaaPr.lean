/-
  Profiles, plainly: levels, what is free at a tick, one course one profile. No program is imported.
-/
namespace Go.Proofs.Ytnbgipegfnpobaa
set_option linter.unusedVariables false

abbrev Lv := Int × Int
def MaxT : Int := 1099511627776
/-- What is free at a tick: of the last level that has begun; n, if none has. -/
def vG (n : Int) : List Lv → Int → Int
  | [], _ => n
  | a :: r, t => vG (if a.1 ≤ t then a.2 else n) r t
abbrev vA (p : List Lv) (t : Int) : Int := vG 0 p t
/-- Each begins behind the one ahead, and has another number free. -/
def Chain : List Lv → Prop
  | [] => True
  | [_] => True
  | a :: b :: r => (a.1 < b.1 ∧ a.2 ≠ b.2) ∧ Chain (b :: r)
def Inc : List Lv → Prop
  | [] => True
  | [_] => True
  | a :: b :: r => a.1 < b.1 ∧ Inc (b :: r)
/-- Each begins no earlier than the one ahead. -/
def Weak : List Lv → Prop
  | [] => True
  | [_] => True
  | a :: b :: r => a.1 ≤ b.1 ∧ Weak (b :: r)
theorem Chain.inc : ∀ {p : List Lv}, Chain p → Inc p
  | [], _ => trivial
  | [_], _ => trivial
  | _ :: _ :: _, h => ⟨h.1.1, Chain.inc h.2⟩
theorem Inc.weak : ∀ {p : List Lv}, Inc p → Weak p
  | [], _ => trivial
  | [_], _ => trivial
  | _ :: _ :: _, h => ⟨Int.le_of_lt h.1, Inc.weak h.2⟩
theorem Inc.tail {a : Lv} {r : List Lv} (h : Inc (a :: r)) : Inc r := by cases r with | nil => trivial | cons b r => exact h.2
theorem Weak.tail {a : Lv} {r : List Lv} (h : Weak (a :: r)) : Weak r := by cases r with | nil => trivial | cons b r => exact h.2
theorem Chain.tail {a : Lv} {r : List Lv} (h : Chain (a :: r)) : Chain r := by cases r with | nil => trivial | cons b r => exact h.2
theorem Weak.head : ∀ {r : List Lv} {a : Lv}, Weak (a :: r) → ∀ x ∈ r, a.1 ≤ x.1
  | [], _, _, x, hx => nomatch hx
  | b :: r, a, h, x, hx => by
    rcases List.mem_cons.1 hx with rfl | hx
    · exact h.1
    · exact Int.le_trans h.1 (Weak.head h.2 x hx)
theorem Inc.head : ∀ {r : List Lv} {a : Lv}, Inc (a :: r) → ∀ x ∈ r, a.1 < x.1
  | [], _, _, x, hx => nomatch hx
  | b :: r, a, h, x, hx => by
    rcases List.mem_cons.1 hx with rfl | hx
    · exact h.1
    · exact Int.lt_trans h.1 (Inc.head h.2 x hx)
/-- No level has begun. -/
theorem vG_none {n : Int} {p : List Lv} {t : Int} (h : ∀ x ∈ p, t < x.1) : vG n p t = n := by
  induction p generalizing n with
  | nil => rfl
  | cons a r ih =>
    have ha := h a List.mem_cons_self
    show vG (if a.1 ≤ t then a.2 else n) r t = n
    rw [if_neg (by omega)]
    exact ih fun x hx => h x (List.mem_cons_of_mem _ hx)
/-- Once one has begun, what was free ahead does not count. -/
theorem vG_some {n m : Int} {p : List Lv} {t : Int} (h : ∃ x ∈ p, x.1 ≤ t) : vG n p t = vG m p t := by
  induction p generalizing n m with
  | nil => obtain ⟨x, hx, _⟩ := h; cases hx
  | cons a r ih =>
    show vG (if a.1 ≤ t then a.2 else n) r t = vG (if a.1 ≤ t then a.2 else m) r t
    by_cases ha : a.1 ≤ t
    · rw [if_pos ha, if_pos ha]
    · rw [if_neg ha, if_neg ha]
      obtain ⟨x, hx, hxt⟩ := h
      rcases List.mem_cons.1 hx with rfl | hx
      · exact absurd hxt ha
      · exact ih ⟨x, hx, hxt⟩
theorem vG_cons {n : Int} {a : Lv} {r : List Lv} {t : Int} (h : a.1 ≤ t) : vG n (a :: r) t = vG a.2 r t := by show vG (if a.1 ≤ t then a.2 else n) r t = _; rw [if_pos h]
theorem vG_append (n : Int) (p q : List Lv) (t : Int) : vG n (p ++ q) t = vG (vG n p t) q t := by
  induction p generalizing n with
  | nil => rfl
  | cons a r ih => exact ih _
/-- One course, one profile. -/
theorem uniq : ∀ {p q : List Lv} {a b : Lv} {n m : Int}, Chain (a :: p) → Chain (b :: q) → a.1 = b.1 → (∀ t, a.1 ≤ t → vG n (a :: p) t = vG m (b :: q) t) → a :: p = b :: q
  | p, q, a, b, n, m, hp, hq, hab, h => by
    have e2 : a.2 = b.2 := by
      have := h a.1 (Int.le_refl _)
      rw [vG_cons (Int.le_refl _), vG_cons (by omega), vG_none (fun x hx => (Inc.head hp.inc x hx)), vG_none (fun x hx => by have := Inc.head hq.inc x hx; omega)] at this
      exact this
    have eab : a = b := Prod.ext hab e2
    subst eab
    match p, q, hp, hq, h with
    | [], [], _, _, _ => rfl
    | [], c :: q', hp, hq, h => exfalso
                                have hc := hq.1
                                have := h c.1 (by omega)
                                rw [vG_cons (by omega), vG_cons (by omega), vG_cons (Int.le_refl _), vG_none (fun x hx => (Inc.head hq.tail.inc x hx))] at this
                                exact hc.2 this
    | c :: p', [], hp, hq, h => exfalso
                                have hc := hp.1
                                have := h c.1 (by omega)
                                rw [vG_cons (by omega), vG_cons (Int.le_refl _), vG_cons (by omega), vG_none (fun x hx => (Inc.head hp.tail.inc x hx))] at this
                                exact hc.2 this.symm
    | c :: p', d :: q', hp, hq, h =>
      have hc := hp.1
      have hd := hq.1
      have ecd : c.1 = d.1 := by
        rcases Int.lt_trichotomy c.1 d.1 with hlt | he | hgt
        · exfalso
          have := h c.1 (by omega)
          rw [vG_cons (by omega), vG_cons (Int.le_refl _), vG_none (fun x hx => (Inc.head hp.tail.inc x hx)), vG_cons (by omega), vG_none] at this
          · exact hc.2 this.symm
          · intro x hx
            rcases List.mem_cons.1 hx with rfl | hx
            · exact hlt
            · have := Inc.head hq.tail.inc x hx; omega
        · exact he
        · exfalso
          have := h d.1 (by omega)
          rw [vG_cons (by omega), vG_none, vG_cons (by omega), vG_cons (Int.le_refl _), vG_none (fun x hx => (Inc.head hq.tail.inc x hx))] at this
          · exact hd.2 this
          · intro x hx
            rcases List.mem_cons.1 hx with rfl | hx
            · exact hgt
            · have := Inc.head hp.tail.inc x hx; omega
      have := uniq (p := p') (q := q') (a := c) (b := d) (n := a.2) (m := a.2) hp.tail hq.tail ecd fun t ht => by
        have := h t (by omega)
        rw [vG_cons (n := n) (a := a) (by omega), vG_cons (n := m) (a := a) (by omega)] at this
        exact this
      rw [this]

/-! Levels that tell what the one ahead tells, left out. -/
def cmpR (f : Int) : List Lv → List Lv
  | [] => []
  | b :: r => if b.2 = f then cmpR f r else b :: cmpR b.2 r
def cmpct : List Lv → List Lv
  | [] => []
  | a :: r => a :: cmpR a.2 r
theorem cmpR_sub (f : Int) (p : List Lv) : ∀ x ∈ cmpR f p, x ∈ p := by
  induction p generalizing f with
  | nil => intro x hx; cases hx
  | cons b r ih =>
    intro x hx
    unfold cmpR at hx
    split at hx
    · exact List.mem_cons_of_mem _ (ih f x hx)
    · rcases List.mem_cons.1 hx with rfl | hx
      · exact List.mem_cons_self
      · exact List.mem_cons_of_mem _ (ih _ x hx)
theorem cmpR_val (f : Int) (p : List Lv) (hp : Weak p) (t : Int) : vG f (cmpR f p) t = vG f p t := by
  induction p generalizing f with
  | nil => rfl
  | cons b r ih =>
    unfold cmpR
    split
    · rename_i e
      show _ = vG (if b.1 ≤ t then b.2 else f) r t
      rw [ih f hp.tail, e]; split <;> rfl
    · show vG (if b.1 ≤ t then b.2 else f) (cmpR b.2 r) t = vG (if b.1 ≤ t then b.2 else f) r t
      by_cases hb : b.1 ≤ t
      · rw [if_pos hb, ih b.2 hp.tail]
      · have k1 : ∀ x ∈ cmpR b.2 r, t < x.1 := fun x hx => by have := Weak.head hp x (cmpR_sub _ _ x hx); omega
        have k2 : ∀ x ∈ r, t < x.1 := fun x hx => by have := Weak.head hp x hx; omega
        rw [if_neg hb, vG_none k1, vG_none k2]
theorem cmpct_val (n : Int) (p : List Lv) (hp : Weak p) (t : Int) : vG n (cmpct p) t = vG n p t := by
  cases p with
  | nil => rfl
  | cons a r =>
    show vG (if a.1 ≤ t then a.2 else n) (cmpR a.2 r) t = vG (if a.1 ≤ t then a.2 else n) r t
    by_cases ha : a.1 ≤ t
    · rw [if_pos ha, cmpR_val _ _ hp.tail]
    · have k1 : ∀ x ∈ cmpR a.2 r, t < x.1 := fun x hx => by have := Weak.head hp x (cmpR_sub _ _ x hx); omega
      have k2 : ∀ x ∈ r, t < x.1 := fun x hx => by have := Weak.head hp x hx; omega
      rw [if_neg ha, vG_none k1, vG_none k2]
/-- Levels of one course: at one tick one number. -/
def Course (g : Int → Int) (p : List Lv) : Prop := ∀ x ∈ p, x.2 = g x.1
theorem cmpR_chain (g : Int → Int) : ∀ (p : List Lv) (a : Lv), Weak (a :: p) → Course g (a :: p) → Chain (a :: cmpR a.2 p)
  | [], a, _, _ => trivial
  | b :: r, a, hw, hc => by
    unfold cmpR
    split
    · rename_i e
      refine cmpR_chain g r a ?_ fun x hx => hc x ?_
      · cases r with
        | nil => trivial
        | cons c r => exact ⟨Int.le_trans hw.1 hw.2.1, hw.2.2⟩
      · rcases List.mem_cons.1 hx with rfl | hx
        · exact List.mem_cons_self
        · exact List.mem_cons_of_mem _ (List.mem_cons_of_mem _ hx)
    · rename_i e
      have ih := cmpR_chain g r b hw.tail fun x hx => hc x (List.mem_cons_of_mem _ hx)
      have hab : a.1 < b.1 := by
        rcases Int.lt_or_le a.1 b.1 with h | h
        · exact h
        · exfalso
          have h1 := hw.1
          have ea := hc a List.mem_cons_self
          have eb := hc b (List.mem_cons_of_mem _ List.mem_cons_self)
          rw [show b.1 = a.1 by omega] at eb
          exact e (eb.trans ea.symm)
      exact ⟨⟨hab, fun h => e h.symm⟩, ih⟩
theorem cmpct_chain (g : Int → Int) {p : List Lv} (hw : Weak p) (hc : Course g p) : Chain (cmpct p) := by
  cases p with
  | nil => trivial
  | cons a r => exact cmpR_chain g r a hw hc
/-- Two rows of levels of one course each, which tell the same from one first tick on, are the same when they are compacted. -/
theorem cmpct_uniq {g h : Int → Int} {a b : Lv} {p q : List Lv} (hp : Weak (a :: p)) (hq : Weak (b :: q)) (gp : Course g (a :: p)) (gq : Course h (b :: q)) (hab : a.1 = b.1)
    (hv : ∀ t, a.1 ≤ t → vA (a :: p) t = vA (b :: q) t) : cmpct (a :: p) = cmpct (b :: q) := by
  refine uniq (n := 0) (m := 0) (cmpct_chain g hp gp) (cmpct_chain h hq gq) hab fun t ht => ?_
  have e1 := cmpct_val 0 (a :: p) hp t
  have e2 := cmpct_val 0 (b :: q) hq t
  show vG 0 (cmpct (a :: p)) t = vG 0 (cmpct (b :: q)) t
  rw [e1, e2]; exact hv t ht
theorem cmpct_self : ∀ {p : List Lv}, Chain p → cmpct p = p := by
  have key : ∀ (p : List Lv) (a : Lv), Chain (a :: p) → cmpR a.2 p = p := by
    intro p
    induction p with
    | nil => intro a _; rfl
    | cons b r ih =>
      intro a h
      unfold cmpR
      rw [if_neg fun e => h.1.2 e.symm, ih b h.2]
  intro p h
  cases p with
  | nil => rfl
  | cons a r => show a :: cmpR a.2 r = _; rw [key r a h]
end Go.Proofs.Ytnbgipegfnpobaa
