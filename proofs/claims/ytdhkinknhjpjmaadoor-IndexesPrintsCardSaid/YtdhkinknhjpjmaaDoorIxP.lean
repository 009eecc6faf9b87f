/-
  Indexes, plainly: the machine that reads a text sign by sign, and the reference's way, item by item: they agree at every text. No program is imported.
-/
import Derived.Test.YtdhkinknhjpjmaaDoorClkL
namespace Go.Proofs.YtdhkinknhjpjmaaDoor
set_option linter.unusedVariables false

structure St where
  bg : Nat
  part : Nat
  dg : Nat
  num : Nat → Nat
  marks : Nat → Bool
  fault : Option Nat
def upd (f : Nat → Nat) (p v : Nat) : Nat → Nat := fun q => if q = p then v else f q
theorem upd_at (f : Nat → Nat) (p v : Nat) : upd f p v p = v := if_pos rfl
theorem upd_ne {f : Nat → Nat} {p v q : Nat} (h : q ≠ p) : upd f p v q = f q := if_neg h
theorem upd_upd (f : Nat → Nat) (p v u : Nat) : upd (upd f p v) p u = upd f p u := by
  funext q; unfold upd; split <;> rfl
theorem upd_self (f : Nat → Nat) (p : Nat) : upd f p (f p) = f := by
  funext q; unfold upd; split
  · rename_i h; rw [h]
  · rfl
def St.number (s : St) (p : Nat) : St := { s with part := p, dg := 0, num := upd s.num p 0 }
def St.item (s : St) (t p : Nat) : St := { s with bg := t, part := p, dg := 0, num := upd s.num p 0 }
def St.fill1 (s : St) : Nat → Nat := if s.part < 1 then upd s.num 1 (s.num 0) else s.num
def St.fill (s : St) : Nat → Nat := if s.part < 2 then upd s.fill1 2 1 else s.fill1
def badItem (a b c : Nat) : Bool := decide (1000 < a ∨ 1000 < b ∨ 1000 < c ∨ b < a ∨ c = 0)
def badMost (n : Nat) : Bool := decide (n = 0 ∨ 1000 < n)
def inRun (a b c i : Nat) : Bool := decide (a ≤ i ∧ i ≤ b ∧ (i - a) % c = 0)
def isFault (part : Nat) (num : Nat → Nat) : Bool := if part = 3 then badMost (num 3) else badItem (num 0) (num 1) (num 2)
def St.fin (s : St) : St :=
  if isFault s.part s.fill = true then { s with num := s.fill, fault := some (s.fault.getD s.bg) }
  else if s.part = 3 then { s with num := s.fill }
  else { s with num := s.fill, marks := fun i => s.marks i || inRun (s.fill 0) (s.fill 1) (s.fill 2) i }
def St.digit (s : St) (d : Nat) : Option St :=
  if (0 < s.dg ∧ s.num s.part = 0) ∨ s.dg = 4 then none else some { s with num := upd s.num s.part (s.num s.part * 10 + d), dg := s.dg + 1 }
def St.step (s : St) (t c : Nat) : Option St :=
  if 48 ≤ c ∧ c ≤ 57 then s.digit (c - 48)
  else if s.dg = 0 then none
  else if c = 45 ∧ s.part = 0 then some (s.number 1)
  else if c = 58 ∧ s.part = 1 then some (s.number 2)
  else if c = 44 ∧ s.part ≠ 3 then some (s.fin.item (t + 1) 0)
  else if c = 37 ∧ s.part ≠ 3 then some (s.fin.item t 3)
  else none
def run (s : St) (t : Nat) : Bs → Nat ⊕ St
  | [] => .inr s
  | c :: r => match s.step t c.toNat with | none => .inl t | some s' => run s' (t + 1) r
inductive Out where
  | txt (p : Nat)
  | arg (p : Nat)
  | ok (marks : Nat → Bool) (most : Nat)
def endV (s : St) : Out := match s.fin.fault with | some p => .arg p | none => .ok s.fin.marks (s.fin.num 3)
def outV (n : Nat) : Nat ⊕ St → Out
  | .inl p => .txt p
  | .inr s => if s.dg = 0 then .txt n else endV s
def St.init : St := ⟨0, 0, 0, fun _ => 0, fun _ => false, none⟩
def parseM (l : Bs) : Out := outV l.length (run St.init 0 l)

/-! The reference's way. -/
/-- A number: k digits of it have been read, and are n; what it is, and how many digits it has. -/
def numR : Nat → Nat → Bs → Nat × Nat
  | k, n, [] => (n, k)
  | k, n, c :: r => if k < 4 ∧ isDig c = true ∧ ¬ (0 < k ∧ n = 0) then numR (k + 1) (n * 10 + (c.toNat - 48)) r else (n, k)
inductive One where
  | wrong (k : Nat)
  | item (a b c k : Nat)
def oneC (a b k : Nat) (r : Bs) : One :=
  if r.head? = some 58 then
    if (numR 0 0 r.tail).2 = 0 then .wrong (k + 1) else .item a b (numR 0 0 r.tail).1 (k + 1 + (numR 0 0 r.tail).2)
  else .item a b 1 k
def oneB (a k : Nat) (r : Bs) : One :=
  if r.head? = some 45 then
    if (numR 0 0 r.tail).2 = 0 then .wrong (k + 1) else oneC a (numR 0 0 r.tail).1 (k + 1 + (numR 0 0 r.tail).2) (r.tail.drop (numR 0 0 r.tail).2)
  else .item a a 1 k
def oneV (r : Bs) : One := if (numR 0 0 r).2 = 0 then .wrong 0 else oneB (numR 0 0 r).1 (numR 0 0 r).2 (r.drop (numR 0 0 r).2)
def marksV (m : Nat → Bool) (a b c : Nat) : Nat → Bool := if badItem a b c = true then m else fun i => m i || inRun a b c i
def faultV (f : Option Nat) (a b c t : Nat) : Option Nat := if badItem a b c = true then some (f.getD t) else f
def doneV (m : Nat → Bool) (f : Option Nat) (most : Nat) : Out := match f with | some p => .arg p | none => .ok m most
/-- Behind the percent sign at t. -/
def mostV (m : Nat → Bool) (f : Option Nat) (t : Nat) (r : Bs) : Out :=
  if (numR 0 0 r).2 = 0 then .txt (t + 1)
  else if r.drop (numR 0 0 r).2 ≠ [] then .txt (t + 1 + (numR 0 0 r).2)
  else doneV m (if badMost (numR 0 0 r).1 = true then some (f.getD t) else f) (numR 0 0 r).1
/-- Behind an item. -/
def tailV (m : Nat → Bool) (f : Option Nat) (t : Nat) (r : Bs) : Out :=
  if r.head? = some 37 then mostV m f t r.tail
  else if r ≠ [] then .txt t else doneV m f 0
def refV : Nat → (Nat → Bool) → Option Nat → Nat → Bs → Out
  | 0, _, _, _, _ => .txt 0
  | q + 1, m, f, t, r => match oneV r with
    | .wrong k => .txt (t + k)
    | .item a b c k =>
      if (r.drop k).head? = some 44 then refV q (marksV m a b c) (faultV f a b c t) (t + k + 1) (r.drop k).tail
      else tailV (marksV m a b c) (faultV f a b c t) (t + k) (r.drop k)

theorem isDig_iff (c : UInt8) : isDig c = true ↔ 48 ≤ c.toNat ∧ c.toNat ≤ 57 := by unfold isDig; simp
/-- The next sign does not go on with the number. -/
def Stops (k n : Nat) (r : Bs) : Prop := ∀ c, r.head? = some c → isDig c = true → 4 ≤ k ∨ (0 < k ∧ n = 0)
def St.setN (s : St) (n k : Nat) : St := { s with num := upd s.num s.part n, dg := k }
theorem setN_self (s : St) : s = s.setN (s.num s.part) s.dg := by
  unfold St.setN; rw [upd_self]
theorem setN_num (s : St) (n k : Nat) : (s.setN n k).num s.part = n := upd_at _ _ _
theorem step_dig {s : St} {n k t : Nat} {c : UInt8} (h : k < 4 ∧ isDig c = true ∧ ¬ (0 < k ∧ n = 0)) : (s.setN n k).step t c.toNat = some (s.setN (n * 10 + (c.toNat - 48)) (k + 1)) := by
  have hd := (isDig_iff c).1 h.2.1
  unfold St.step
  rw [if_pos hd]
  unfold St.digit
  have e1 : (s.setN n k).dg = k := rfl
  have e2 : (s.setN n k).num (s.setN n k).part = n := setN_num s n k
  rw [e1, e2, if_neg (by omega)]
  unfold St.setN
  simp only [upd_upd]
theorem num_run (s : St) : ∀ (r : Bs) (n k t : Nat), k ≤ 4 →
    k ≤ (numR k n r).2 ∧ (numR k n r).2 ≤ 4 ∧ (numR k n r).2 - k ≤ r.length ∧ Stops (numR k n r).2 (numR k n r).1 (r.drop ((numR k n r).2 - k)) ∧
    run (s.setN n k) t r = run (s.setN (numR k n r).1 (numR k n r).2) (t + ((numR k n r).2 - k)) (r.drop ((numR k n r).2 - k))
  | [], n, k, t, hk => by
    refine ⟨Nat.le_refl _, hk, by simp [numR], fun c h => ?_, ?_⟩
    · simp at h
    · simp [numR]
  | c :: r, n, k, t, hk => by
    by_cases h : k < 4 ∧ isDig c = true ∧ ¬ (0 < k ∧ n = 0)
    · have e : numR k n (c :: r) = numR (k + 1) (n * 10 + (c.toNat - 48)) r := by rw [numR, if_pos h]
      obtain ⟨i1, i2, i3, i4, i5⟩ := num_run s r (n * 10 + (c.toNat - 48)) (k + 1) (t + 1) (by omega)
      rw [e]
      generalize numR (k + 1) (n * 10 + (c.toNat - 48)) r = x at *
      obtain ⟨n', k'⟩ := x
      dsimp only at *
      have ek : k' - k = (k' - (k + 1)) + 1 := by omega
      refine ⟨by omega, i2, by simp; omega, ?_, ?_⟩
      · rw [ek, List.drop_succ_cons]; exact i4
      · have e2 : run (s.setN n k) t (c :: r) = run (s.setN (n * 10 + (c.toNat - 48)) (k + 1)) (t + 1) r := by
          show (match (s.setN n k).step t c.toNat with | none => Sum.inl t | some s' => run s' (t + 1) r) = _
          rw [step_dig h]
        rw [e2, i5, ek, List.drop_succ_cons]
        congr 1; omega
    · have e : numR k n (c :: r) = (n, k) := by rw [numR, if_neg h]
      rw [e]
      refine ⟨Nat.le_refl _, hk, by simp, fun c' h' hd => ?_, by simp⟩
      have : c = c' := by simpa using h'
      subst this
      dsimp only
      have : ¬ (k < 4 ∧ ¬ (0 < k ∧ n = 0)) := fun hh => h ⟨hh.1, hd, hh.2⟩
      omega
/-- A number at a place where one begins. -/
theorem num_run0 (s : St) (h1 : s.dg = 0) (h2 : s.num s.part = 0) (r : Bs) (t : Nat) :
    (numR 0 0 r).2 ≤ 4 ∧ (numR 0 0 r).2 ≤ r.length ∧ Stops (numR 0 0 r).2 (numR 0 0 r).1 (r.drop (numR 0 0 r).2) ∧
    run s t r = run (s.setN (numR 0 0 r).1 (numR 0 0 r).2) (t + (numR 0 0 r).2) (r.drop (numR 0 0 r).2) := by
  have h := num_run s r 0 0 t (Nat.zero_le _)
  have e : s.setN 0 0 = s := by have := (setN_self s).symm; rw [h1, h2] at this; exact this
  rw [e] at h
  simpa using h.2
/-- A sign that no number goes on with, and that ends none here. -/
theorem step_none {s : St} {t : Nat} {c : UInt8} (hs : isDig c = true → 4 ≤ s.dg ∨ (0 < s.dg ∧ s.num s.part = 0)) (h4 : s.dg ≤ 4)
    (ho : isDig c = false → s.dg = 0 ∨ ((c = 45 → s.part ≠ 0) ∧ (c = 58 → s.part ≠ 1) ∧ (c = 44 → s.part = 3) ∧ (c = 37 → s.part = 3))) : s.step t c.toNat = none := by
  unfold St.step
  by_cases hd : isDig c = true
  · rw [if_pos ((isDig_iff c).1 hd)]
    unfold St.digit
    rw [if_pos (by have := hs hd; omega)]
  · have hd' : isDig c = false := by simpa using hd
    rw [if_neg fun h => hd ((isDig_iff c).2 h)]
    rcases ho hd' with h | ⟨h1, h2, h3, h4⟩
    · rw [if_pos h]
    · have e : ∀ k : Nat, k < 256 → c.toNat = k → c = UInt8.ofNat k := fun k hk h => by
        rw [← h]; simp
      split
      · rfl
      · rw [if_neg fun h => h1 (e 45 (by omega) h.1) h.2, if_neg fun h => h2 (e 58 (by omega) h.1) h.2, if_neg fun h => h.2 (h3 (e 44 (by omega) h.1)), if_neg fun h => h.2 (h4 (e 37 (by omega) h.1))]
theorem run_none {s : St} {t : Nat} {c : UInt8} {r : Bs} (h : s.step t c.toNat = none) : run s t (c :: r) = .inl t := by
  show (match s.step t c.toNat with | none => Sum.inl t | some s' => run s' (t + 1) r) = _
  rw [h]
theorem run_some {s s' : St} {t : Nat} {c : UInt8} {r : Bs} (h : s.step t c.toNat = some s') : run s t (c :: r) = run s' (t + 1) r := by
  show (match s.step t c.toNat with | none => Sum.inl t | some s' => run s' (t + 1) r) = _
  rw [h]
/-- No number where one must stand. -/
theorem run_wrong {s : St} (h1 : s.dg = 0) (h2 : s.num s.part = 0) {r : Bs} {t : Nat} (h : (numR 0 0 r).2 = 0) : outV (t + r.length) (run s t r) = .txt t := by
  obtain ⟨_, _, h3, _⟩ := num_run0 s h1 h2 r t
  rw [h] at h3
  cases r with
  | nil => show (if s.dg = 0 then Out.txt (t + 0) else endV s) = _; rw [if_pos h1]; rfl
  | cons c r =>
    have hs := h3 c (by simp)
    rw [run_none (step_none (fun hd => by have := hs hd; omega) (by omega) fun _ => .inl h1)]
    rfl
theorem tail_of {r : Bs} {c : UInt8} (h : r.head? = some c) : r = c :: r.tail := by
  cases r with
  | nil => simp at h
  | cons a r => simp at h; rw [h]; rfl
theorem tail_len {r : Bs} {c : UInt8} (h : r.head? = some c) : r.length = r.tail.length + 1 := by
  cases r with
  | nil => simp at h
  | cons a r => rfl
/-- At the end of an item. -/
structure AtEnd (s : St) (t a b c : Nat) (m : Nat → Bool) (f : Option Nat) (r : Bs) : Prop where
  part : s.part ≤ 2
  dg0 : 0 < s.dg
  dg4 : s.dg ≤ 4
  n0 : s.fill 0 = a
  n1 : s.fill 1 = b
  n2 : s.fill 2 = c
  n3 : s.fill 3 = 0
  bg : s.bg = t
  marks : s.marks = m
  fault : s.fault = f
  stops : ∀ x, r.head? = some x → isDig x = true → 4 ≤ s.dg ∨ (0 < s.dg ∧ s.num s.part = 0)
  no1 : r.head? = some 45 → s.part ≠ 0
  no2 : r.head? = some 58 → s.part ≠ 1
theorem AtEnd.fin {s : St} {t a b c : Nat} {m : Nat → Bool} {f : Option Nat} {r : Bs} (h : AtEnd s t a b c m f r) :
    s.fin.marks = marksV m a b c ∧ s.fin.fault = faultV f a b c t ∧ s.fin.num 3 = 0 ∧ s.fin.num = s.fill := by
  have h3 : s.part ≠ 3 := by have := h.part; omega
  unfold St.fin isFault marksV faultV
  rw [if_neg h3, h.n0, h.n1, h.n2]
  by_cases hb : badItem a b c = true
  · rw [if_pos hb, if_pos hb, if_pos hb]; exact ⟨h.marks, by rw [h.fault, h.bg], h.n3, rfl⟩
  · rw [if_neg hb, if_neg h3, if_neg hb, if_neg hb]; exact ⟨by rw [h.marks], h.fault, h.n3, rfl⟩
theorem step_sign {s : St} {t : Nat} (h0 : 0 < s.dg) (h3 : s.part ≠ 3) : s.step t 44 = some (s.fin.item (t + 1) 0) ∧ s.step t 37 = some (s.fin.item t 3) := by
  unfold St.step
  constructor
  · rw [if_neg (by omega), if_neg (by omega), if_neg (by omega), if_neg (by omega), if_pos ⟨rfl, h3⟩]
  · rw [if_neg (by omega), if_neg (by omega), if_neg (by omega), if_neg (by omega), if_neg (by omega), if_pos ⟨rfl, h3⟩]
theorem fin3 {u : St} (h : u.part = 3) : doneV u.fin.marks u.fin.fault (u.fin.num 3) = doneV u.marks (if badMost (u.num 3) = true then some (u.fault.getD u.bg) else u.fault) (u.num 3) := by
  have e : u.fill = u.num := by unfold St.fill St.fill1; rw [if_neg (by omega), if_neg (by omega)]
  unfold St.fin isFault
  rw [if_pos h, e]
  by_cases hb : badMost (u.num 3) = true
  · rw [if_pos hb, if_pos hb]
  · rw [if_neg hb, if_pos h, if_neg hb]
theorem doneV_eq (s : St) : endV s = doneV s.fin.marks s.fin.fault (s.fin.num 3) := rfl
/-- Behind an item, no further one. -/
theorem end_tail {s : St} {t a b c : Nat} {m : Nat → Bool} {f : Option Nat} {r : Bs} (h : AtEnd s t a b c m f r) (h44 : r.head? ≠ some 44) (t' : Nat) :
    outV (t' + r.length) (run s t' r) = tailV (marksV m a b c) (faultV f a b c t) t' r := by
  obtain ⟨e1, e2, e3, e4⟩ := h.fin
  have h3 : s.part ≠ 3 := by have := h.part; omega
  unfold tailV
  by_cases h37 : r.head? = some 37
  · rw [if_pos h37]
    have e5 := run_some (r := r.tail) (s' := s.fin.item t' 3) (c := 37) (step_sign (t := t') h.dg0 h3).2
    rw [← tail_of h37] at e5
    have hl : r.length = r.tail.length + 1 := tail_len h37
    rw [e5, hl]
    clear hl e5
    generalize r.tail = r1
    have hm : (s.fin.item t' 3).dg = 0 := rfl
    have hm2 : (s.fin.item t' 3).num (s.fin.item t' 3).part = 0 := upd_at s.fin.num 3 0
    unfold mostV
    by_cases hk : (numR 0 0 r1).2 = 0
    · rw [if_pos hk, show t' + (r1.length + 1) = (t' + 1) + r1.length by omega]
      exact run_wrong hm hm2 hk
    · rw [if_neg hk]
      obtain ⟨k1, k2, k3, k4⟩ := num_run0 _ hm hm2 r1 (t' + 1)
      rw [k4]
      have el : t' + (r1.length + 1) = (t' + 1 + (numR 0 0 r1).2) + (r1.drop (numR 0 0 r1).2).length := by rw [List.length_drop]; omega
      rw [el]
      generalize r1.drop (numR 0 0 r1).2 = r2 at *
      generalize numR 0 0 r1 = x at *
      obtain ⟨n, k⟩ := x
      dsimp only at *
      cases r2 with
      | nil =>
        rw [if_neg (by simp)]
        show (if k = 0 then Out.txt _ else endV ((s.fin.item t' 3).setN n k)) = _
        rw [if_neg hk, doneV_eq, fin3 (show ((s.fin.item t' 3).setN n k).part = 3 from rfl)]
        rw [show ((s.fin.item t' 3).setN n k).num 3 = n from upd_at (upd s.fin.num 3 0) 3 n, ← e1, ← e2]
        rfl
      | cons x r2 =>
        rw [if_pos (by simp)]
        have hs := k3 x (by simp)
        rw [run_none (step_none (fun hd => by
          have := hs hd
          have e5 : ((s.fin.item t' 3).setN n k).num ((s.fin.item t' 3).setN n k).part = n := setN_num _ n k
          rw [e5]; exact this) k1 fun _ => .inr ⟨(fun _ => show (3 : Nat) ≠ 0 by omega), (fun _ => show (3 : Nat) ≠ 1 by omega), (fun _ => rfl), (fun _ => rfl)⟩)]
        rfl
  · rw [if_neg h37]
    cases r with
    | nil =>
      rw [if_neg (by simp)]
      show (if s.dg = 0 then Out.txt _ else endV s) = _
      rw [if_neg (by have := h.dg0; omega), doneV_eq, e1, e2, e3]
    | cons x r =>
      rw [if_pos (by simp)]
      rw [run_none (step_none (fun hd => h.stops x (by simp) hd) h.dg4 fun _ => .inr ⟨fun e => h.no1 (by rw [e]; rfl), fun e => h.no2 (by rw [e]; rfl), fun e => absurd (by rw [e]; rfl) h44, fun e => absurd (by rw [e]; rfl) h37⟩)]
      rfl
/-- One item, from its begin on. -/
structure Begin (s : St) (t : Nat) : Prop where
  part : s.part = 0
  dg : s.dg = 0
  n0 : s.num 0 = 0
  n3 : s.num 3 = 0
  bg : s.bg = t
theorem step_part {s : St} {t : Nat} (h0 : 0 < s.dg) : (s.part = 0 → s.step t 45 = some (s.number 1)) ∧ (s.part = 1 → s.step t 58 = some (s.number 2)) := by
  unfold St.step
  constructor
  · intro h; rw [if_neg (by omega), if_neg (by omega), if_pos ⟨rfl, h⟩]
  · intro h; rw [if_neg (by omega), if_neg (by omega), if_neg (by omega), if_pos ⟨rfl, h⟩]
theorem one_run {s : St} {t : Nat} (h : Begin s t) (r : Bs) : match oneV r with
    | .wrong k => outV (t + r.length) (run s t r) = .txt (t + k)
    | .item a b c k => 0 < k ∧ k ≤ r.length ∧ ∃ s', AtEnd s' t a b c s.marks s.fault (r.drop k) ∧ run s t r = run s' (t + k) (r.drop k) := by
  have hp : s.num s.part = 0 := by rw [h.part]; exact h.n0
  unfold oneV
  by_cases hk : (numR 0 0 r).2 = 0
  · rw [if_pos hk]; exact run_wrong h.dg hp hk
  rw [if_neg hk]
  obtain ⟨k1, k2, k3, k4⟩ := num_run0 s h.dg hp r t
  rw [k4]
  have el : t + r.length = (t + (numR 0 0 r).2) + (r.drop (numR 0 0 r).2).length := by rw [List.length_drop]; omega
  rw [el]
  obtain ⟨r1, hr1⟩ : ∃ r1, r1 = r.drop (numR 0 0 r).2 := ⟨_, rfl⟩
  rw [← hr1] at k3 k4 ⊢
  have hdrop : ∀ j, r.drop ((numR 0 0 r).2 + j) = r1.drop j := fun j => by rw [hr1, List.drop_drop]
  have hlen : r.length = (numR 0 0 r).2 + r1.length := by rw [hr1, List.length_drop]; omega
  generalize numR 0 0 r = x at *
  obtain ⟨a, k⟩ := x
  dsimp only at *
  clear k4 el hr1
  have sp : (s.setN a k).part = 0 := h.part
  have sn : (s.setN a k).num = upd s.num 0 a := by show upd s.num s.part a = _; rw [h.part]
  unfold oneB
  by_cases h45 : r1.head? = some 45
  · rw [if_pos h45]
    have e1 := run_some (r := r1.tail) (s' := (s.setN a k).number 1) (c := 45) (((step_part (s := s.setN a k) (t := t + k) (show 0 < k by omega)).1 sp))
    rw [← tail_of h45] at e1
    rw [e1]
    have hl1 : r1.length = r1.tail.length + 1 := tail_len h45
    have hd1 : ∀ j, r1.drop (j + 1) = r1.tail.drop j := fun j => by rw [List.drop_tail]
    obtain ⟨r2, hr2⟩ : ∃ r2, r2 = r1.tail := ⟨_, rfl⟩
    rw [← hr2] at hl1 hd1 ⊢
    have s2d : ((s.setN a k).number 1).dg = 0 := rfl
    have s2n : ((s.setN a k).number 1).num ((s.setN a k).number 1).part = 0 := upd_at (s.setN a k).num 1 0
    by_cases hk1 : (numR 0 0 r2).2 = 0
    · rw [if_pos hk1]
      have := run_wrong s2d s2n (t := t + k + 1) hk1
      dsimp only
      rw [show t + k + r1.length = t + k + 1 + r2.length by omega, this, Nat.add_assoc]
    · rw [if_neg hk1]
      obtain ⟨q1, q2, q3, q4⟩ := num_run0 _ s2d s2n r2 (t + k + 1)
      rw [q4]
      obtain ⟨r3, hr3⟩ : ∃ r3, r3 = r2.drop (numR 0 0 r2).2 := ⟨_, rfl⟩
      rw [← hr3] at q3 q4 ⊢
      have hd2 : ∀ j, r2.drop ((numR 0 0 r2).2 + j) = r3.drop j := fun j => by rw [hr3, List.drop_drop]
      have hl2 : r2.length = (numR 0 0 r2).2 + r3.length := by rw [hr3, List.length_drop]; omega
      generalize numR 0 0 r2 = x at *
      obtain ⟨b, k1'⟩ := x
      dsimp only at *
      clear q4 e1 hr3 hr2
      obtain ⟨s2, hs2⟩ : ∃ s2, s2 = ((s.setN a k).number 1).setN b k1' := ⟨_, rfl⟩
      have s2p : s2.part = 1 := by rw [hs2]; rfl
      have s2N : s2.num = upd (upd (upd s.num 0 a) 1 0) 1 b := by rw [hs2]; show upd (upd (s.setN a k).num 1 0) 1 b = _; rw [sn]
      have s2g : s2.dg = k1' := by rw [hs2]; rfl
      have s2o : s2.bg = t ∧ s2.marks = s.marks ∧ s2.fault = s.fault := by rw [hs2]; exact ⟨h.bg, rfl, rfl⟩
      rw [← hs2]
      clear hs2 s2d s2n
      unfold oneC
      by_cases h58 : r3.head? = some 58
      · rw [if_pos h58]
        have e1 := run_some (r := r3.tail) (s' := s2.number 2) (c := 58) (((step_part (s := s2) (t := t + k + 1 + k1') (by omega)).2 s2p))
        rw [← tail_of h58] at e1
        rw [e1]
        have hl3 : r3.length = r3.tail.length + 1 := tail_len h58
        have hd3 : ∀ j, r3.drop (j + 1) = r3.tail.drop j := fun j => by rw [List.drop_tail]
        obtain ⟨r4, hr4⟩ : ∃ r4, r4 = r3.tail := ⟨_, rfl⟩
        rw [← hr4] at hl3 hd3 ⊢
        have s3d : (s2.number 2).dg = 0 := rfl
        have s3n : (s2.number 2).num (s2.number 2).part = 0 := upd_at s2.num 2 0
        by_cases hk2 : (numR 0 0 r4).2 = 0
        · rw [if_pos hk2]
          have := run_wrong s3d s3n (t := t + k + 1 + k1' + 1) hk2
          dsimp only
          rw [show t + k + r1.length = t + k + 1 + k1' + 1 + r4.length by omega, this]
          congr 1; omega
        · rw [if_neg hk2]
          obtain ⟨p1, p2, p3, p4⟩ := num_run0 _ s3d s3n r4 (t + k + 1 + k1' + 1)
          dsimp only
          rw [p4]
          have hd4 : r.drop (k + 1 + k1' + 1 + (numR 0 0 r4).2) = r4.drop (numR 0 0 r4).2 := by
            rw [show k + 1 + k1' + 1 + (numR 0 0 r4).2 = k + ((k1' + ((numR 0 0 r4).2 + 1)) + 1) by omega, hdrop, hd1, hd2, hd3]
          rw [hd4]
          generalize hx : numR 0 0 r4 = x at *
          obtain ⟨c, k2'⟩ := x
          dsimp only at *
          refine ⟨by omega, by omega, (s2.number 2).setN c k2', ⟨by show 2 ≤ 2; omega, by show 0 < k2'; omega, p1, ?_, ?_, ?_, ?_, s2o.1, s2o.2.1, s2o.2.2, fun y hy hd => ?_, fun _ => by show (2 : Nat) ≠ 0; omega, fun _ => by show (2 : Nat) ≠ 1; omega⟩, by congr 1; omega⟩
          · show upd (upd s2.num 2 0) 2 c 0 = a; rw [upd_ne (by omega), upd_ne (by omega), s2N, upd_ne (by omega), upd_ne (by omega), upd_at]
          · show upd (upd s2.num 2 0) 2 c 1 = b; rw [upd_ne (by omega), upd_ne (by omega), s2N, upd_at]
          · show upd (upd s2.num 2 0) 2 c 2 = c; rw [upd_at]
          · show upd (upd s2.num 2 0) 2 c 3 = 0; rw [upd_ne (by omega), upd_ne (by omega), s2N, upd_ne (by omega), upd_ne (by omega), upd_ne (by omega), h.n3]
          · have := p3 y hy hd
            have e6 : ((s2.number 2).setN c k2').num ((s2.number 2).setN c k2').part = c := setN_num (s2.number 2) c k2'
            rw [e6]; exact this
      · rw [if_neg h58]
        dsimp only
        have hd4 : r.drop (k + 1 + k1') = r3 := by
          have := hd2 0
          rw [List.drop_zero, Nat.add_zero] at this
          rw [show k + 1 + k1' = k + (k1' + 1) by omega, hdrop, hd1, this]
        rw [hd4]
        refine ⟨by omega, by omega, s2, ⟨by omega, by omega, by omega, ?_, ?_, ?_, ?_, s2o.1, s2o.2.1, s2o.2.2, fun y hy hd => ?_, fun _ => by omega, fun e => absurd e h58⟩, by congr 1; omega⟩
        · unfold St.fill St.fill1; rw [if_pos (by omega), if_neg (by omega), upd_ne (by omega), s2N, upd_ne (by omega), upd_ne (by omega), upd_at]
        · unfold St.fill St.fill1; rw [if_pos (by omega), if_neg (by omega), upd_ne (by omega), s2N, upd_at]
        · unfold St.fill St.fill1; rw [if_pos (by omega), upd_at]
        · unfold St.fill St.fill1; rw [if_pos (by omega), if_neg (by omega), upd_ne (by omega), s2N, upd_ne (by omega), upd_ne (by omega), upd_ne (by omega), h.n3]
        · have := q3 y hy hd
          rw [s2g, s2p, s2N, upd_at]; exact this
  · rw [if_neg h45]
    dsimp only
    have hd4 : r.drop k = r1 := by have := hdrop 0; rwa [List.drop_zero, Nat.add_zero] at this
    rw [hd4]
    refine ⟨by omega, by omega, s.setN a k, ⟨by omega, by show 0 < k; omega, k1, ?_, ?_, ?_, ?_, h.bg, rfl, rfl, fun y hy hd => ?_, fun e => absurd e h45, fun _ => by omega⟩, by congr 1⟩
    · unfold St.fill St.fill1; rw [if_pos (by omega), if_pos (by omega), upd_ne (by omega), upd_ne (by omega), sn, upd_at]
    · unfold St.fill St.fill1; rw [if_pos (by omega), if_pos (by omega), upd_ne (by omega), upd_at, sn, upd_at]
    · unfold St.fill St.fill1; rw [if_pos (by omega), upd_at]
    · unfold St.fill St.fill1; rw [if_pos (by omega), if_pos (by omega), upd_ne (by omega), upd_ne (by omega), sn, upd_ne (by omega), h.n3]
    · have := k3 y hy hd
      rw [sp, sn, upd_at]; exact this
/-- The machine and the reference's way, from an item's begin on. -/
theorem run_ref : ∀ (q : Nat) (s : St) (t : Nat) (r : Bs), Begin s t → r.length < q → outV (t + r.length) (run s t r) = refV q s.marks s.fault t r
  | 0, s, t, r, _, hq => by omega
  | q + 1, s, t, r, h, hq => by
    have ho := one_run h r
    rw [refV]
    cases hx : oneV r with
    | wrong k => rw [hx] at ho; exact ho
    | item a b c k =>
      rw [hx] at ho
      obtain ⟨h0, hl, s', he, hr⟩ := ho
      dsimp only
      rw [hr]
      have el : t + r.length = (t + k) + (r.drop k).length := by rw [List.length_drop]; omega
      by_cases h44 : (r.drop k).head? = some 44
      · rw [if_pos h44]
        obtain ⟨e1, e2, e3, e4⟩ := he.fin
        have h3 : s'.part ≠ 3 := by have := he.part; omega
        have e5 := run_some (r := (r.drop k).tail) (s' := s'.fin.item (t + k + 1) 0) (c := 44) (step_sign (t := t + k) he.dg0 h3).1
        rw [← tail_of h44] at e5
        rw [e5, ← e1, ← e2]
        have hl2 : (r.drop k).length = (r.drop k).tail.length + 1 := tail_len h44
        rw [el, show t + k + (r.drop k).length = t + k + 1 + (r.drop k).tail.length by omega]
        refine run_ref q (s'.fin.item (t + k + 1) 0) (t + k + 1) (r.drop k).tail ⟨rfl, rfl, upd_at s'.fin.num 0 0, ?_, rfl⟩ (by rw [List.length_drop] at hl2; omega)
        show upd s'.fin.num 0 0 3 = 0
        rw [upd_ne (by omega), e3]
      · rw [if_neg h44, el]
        exact end_tail he h44 (t + k)
theorem parse_ref (l : Bs) : parseM l = refV (l.length + 1) (fun _ => false) none 0 l := by
  have := run_ref (l.length + 1) St.init 0 l ⟨rfl, rfl, rfl, rfl, rfl⟩ (by omega)
  rw [Nat.zero_add] at this
  exact this
end Go.Proofs.YtdhkinknhjpjmaaDoor
