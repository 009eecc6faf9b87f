/-
  Dependencies, plainly: what may be, the text, and its two ways of being read: they agree at every text. No program is imported.
  Dependencies, plainly: what was printed is read again as it was, what was read is printed as it was. No program is imported.
  Stable sorting, plainly: places and marks; what moves, what is swapped, what is merged. No program is imported.
  Stable sorting by blocks, plainly. No program is imported.
  What a dependency says, plainly. No program is imported.
  What the chapter's example of dependencies says, plainly. No program is imported.
-/
import Derived.Test.YtfabjlhepadkpaaDgP
import Derived.Lib.Hide
namespace Go.Proofs.Ytfabjlhepadkpaa
set_option linter.unusedVariables false

section
open Go Go.Lib
/-- A need: its kind, its jobs. -/
abbrev Nd := Int × List Nat
def okN (n : Nd) : Prop := (1 ≤ n.1 ∧ n.1 ≤ 4 ∧ 1 ≤ n.2.length ∧ n.2.length ≤ 20 ∧ 0 ∉ n.2) ∨ (n.1 = 5 ∧ n.2.length = 0)
instance (n : Nd) : Decidable (okN n) := by unfold okN; infer_instance
def okD (any : Bool) (l : List Nd) : Prop := l.length ≤ 20 ∧ (any = true → 2 ≤ l.length) ∧ ∀ n ∈ l, okN n
instance (any : Bool) (l : List Nd) : Decidable (okD any l) := by unfold okD; infer_instance
def chkD (any : Bool) (l : List Nd) : Int := if okD any l then 0 else 2

def kindT (k : Int) : Bs :=
  if k = 1 then [97, 102, 116, 101, 114] else if k = 2 then [97, 102, 116, 101, 114, 111, 107] else if k = 3 then [97, 102, 116, 101, 114, 110, 111, 116, 111, 107]
  else if k = 4 then [97, 102, 116, 101, 114, 97, 110, 121] else [115, 105, 110, 103, 108, 101, 116, 111, 110]
def kindW (s : Bs) : Int := if s = kindT 1 then 1 else if s = kindT 2 then 2 else if s = kindT 3 then 3 else if s = kindT 4 then 4 else if s = kindT 5 then 5 else 0
theorem kindW_T {k : Int} (h : 1 ≤ k ∧ k ≤ 5) : kindW (kindT k) = k := by
  have : k = 1 ∨ k = 2 ∨ k = 3 ∨ k = 4 ∨ k = 5 := by omega
  rcases this with rfl | rfl | rfl | rfl | rfl <;> decide
theorem kindW_some {s : Bs} (h : kindW s ≠ 0) : kindT (kindW s) = s ∧ 1 ≤ kindW s ∧ kindW s ≤ 5 := by
  unfold kindW at *
  repeat' split at h
  all_goals first | (exact absurd rfl h) | skip
  all_goals (subst_vars; simp_all (config := {decide := true}))
theorem kindW_le (s : Bs) : 0 ≤ kindW s ∧ kindW s ≤ 5 := by
  unfold kindW
  repeat' split
  all_goals omega
theorem kindT_no (k : Int) : ∀ c ∈ kindT k, c ≠ 58 ∧ c ≠ 44 ∧ c ≠ 63 := by
  unfold kindT
  repeat' split
  all_goals decide
theorem kindT_ne (k : Int) : kindT k ≠ [] := by
  unfold kindT
  repeat' split
  all_goals decide
theorem kindT_len (k : Int) : (kindT k).length ≤ 10 := by
  unfold kindT
  repeat' split
  all_goals decide
def numJ (s : Bs) : Option Nat := match plainG 10 s with | some n => if n ≤ 4294967295 then some n else none | none => none
theorem numJ_some {s : Bs} {n : Nat} (h : numJ s = some n) : Lib.decDigits n = s ∧ n < 4294967296 := by
  unfold numJ at h
  split at h
  · rename_i m hm
    split at h
    · cases h; exact ⟨(plainG_some hm).1, by omega⟩
    · cases h
  · cases h
theorem numJ_D {n : Nat} (h : n < 4294967296) : numJ (Lib.decDigits n) = some n := by
  unfold numJ
  rw [plainG_D (k := 9) (by omega) (by omega)]
  dsimp only
  rw [if_pos (by omega)]
theorem cut1_short {sep : UInt8} {s a b : Bs} (h : cut1 sep s = some (a, b)) : b.length < s.length := by
  obtain ⟨rfl, _⟩ := cut1_some h
  simp; omega
/-! The program's way. -/
def jobsA (s : Bs) : Option (List Nat) :=
  match h : cut1 58 s with
  | none => (numJ s).map fun n => [n]
  | some (a, r) => match numJ a with
    | none => none
    | some n => (jobsA r).map fun l => n :: l
termination_by s.length
decreasing_by exact cut1_short h
theorem jobsA_none {s : Bs} (h : cut1 58 s = none) : jobsA s = (numJ s).map fun n => [n] := by
  rw [jobsA]; split
  · rfl
  · rename_i h2; rw [h] at h2; cases h2
theorem jobsA_some {s a r : Bs} (h : cut1 58 s = some (a, r)) : jobsA s = match numJ a with | none => none | some n => (jobsA r).map fun l => n :: l := by
  rw [jobsA]; split
  · rename_i h2; rw [h] at h2; cases h2
  · rename_i a' r' h2; rw [h] at h2; cases h2; rfl
theorem jobsA_ne : ∀ (k : Nat) (s : Bs) (l : List Nat), s.length ≤ k → jobsA s = some l → l ≠ [] := by
  intro k
  induction k with
  | zero =>
    intro s l hk h
    cases s with
    | nil => rw [jobsA_none (by rfl)] at h; cases hn : numJ [] with
      | none => rw [hn] at h; cases h
      | some n => rw [hn] at h; cases h; simp
    | cons => simp at hk
  | succ k ih =>
    intro s l hk h
    cases hc : cut1 58 s with
    | none =>
      rw [jobsA_none hc] at h
      cases hn : numJ s with
      | none => rw [hn] at h; cases h
      | some n => rw [hn] at h; cases h; simp
    | some p =>
      obtain ⟨a, r⟩ := p
      rw [jobsA_some hc] at h
      cases hn : numJ a with
      | none => rw [hn] at h; cases h
      | some n =>
        rw [hn] at h
        dsimp only at h
        cases hr : jobsA r with
        | none => rw [hr] at h; cases h
        | some l' => rw [hr] at h; cases h; simp
def needA (s : Bs) : Option Nd :=
  match cut1 58 s with
  | none => if kindW s = 5 then some (5, []) else none
  | some (a, r) => if kindW a = 0 ∨ kindW a = 5 then none else (jobsA r).map fun l => (kindW a, l)
def needsA (c : UInt8) (s : Bs) : Option (List Nd) :=
  match h : cut1 c s with
  | none => (needA s).map fun n => [n]
  | some (a, r) => match needA a with
    | none => none
    | some n => (needsA c r).map fun l => n :: l
termination_by s.length
decreasing_by exact cut1_short h
theorem needsA_none {c : UInt8} {s : Bs} (h : cut1 c s = none) : needsA c s = (needA s).map fun n => [n] := by
  rw [needsA]; split
  · rfl
  · rename_i h2; rw [h] at h2; cases h2
theorem needsA_some {c : UInt8} {s a r : Bs} (h : cut1 c s = some (a, r)) : needsA c s = match needA a with | none => none | some n => (needsA c r).map fun l => n :: l := by
  rw [needsA]; split
  · rename_i h2; rw [h] at h2; cases h2
  · rename_i a' r' h2; rw [h] at h2; cases h2; rfl
def sepA (any : Bool) : UInt8 := if any = true then 63 else 44
def endD (any : Bool) (l : List Nd) : Bool × List Nd × Int := if okD any l then (any, l, 0) else (false, [], 2)
def parseA8 (s : Bs) : Bool × List Nd × Int :=
  if s = [] then (false, [], 0)
  else if 63 ∈ s ∧ 44 ∈ s then (false, [], 60)
  else match needsA (sepA (decide (63 ∈ s))) s with
    | none => (false, [], 60)
    | some l => endD (decide (63 ∈ s)) l
/-! The document's way: from the left. -/
def isS (c : UInt8) : Bool := c == 44 || c == 63 || c == 58
theorem isS_iff {c : UInt8} : isS c = false ↔ c ≠ 44 ∧ c ≠ 63 ∧ c ≠ 58 := by simp [isS, and_assoc]
def nextB (s : Bs) : Bs × Bs := (s.takeWhile fun c => !isS c, s.dropWhile fun c => !isS c)
theorem nextB_len (s : Bs) : (nextB s).2.length ≤ s.length := (List.dropWhile_sublist _).length_le
def jobsB (s : Bs) : Option (List Nat × Bs) :=
  match s with
  | 58 :: r => match numJ (nextB r).1 with
    | none => none
    | some n => (jobsB (nextB r).2).map fun p => (n :: p.1, p.2)
  | s => some ([], s)
termination_by s.length
decreasing_by have := nextB_len r; simp; omega
def needB (s : Bs) : Option (Nd × Bs) :=
  match jobsB (nextB s).2 with
  | none => none
  | some (js, r) => if kindW (nextB s).1 = 0 ∨ (kindW (nextB s).1 = 5 ∧ js ≠ []) ∨ (kindW (nextB s).1 < 5 ∧ js = []) then none else some ((kindW (nextB s).1, js), r)
theorem next_app {w r : Bs} (hw : ∀ c ∈ w, isS c = false) (hr : r = [] ∨ ∃ c t, r = c :: t ∧ isS c = true) : nextB (w ++ r) = (w, r) := by
  induction w with
  | nil =>
    rcases hr with rfl | ⟨c, t, rfl, hc⟩
    · rfl
    · simp [nextB, hc]
  | cons a w ih =>
    have h := ih (fun c hc => hw c (List.mem_cons_of_mem _ hc))
    have ha := hw a (List.mem_cons_self)
    unfold nextB at *
    simp only [Prod.mk.injEq] at h
    simp [ha, h.1, h.2]
theorem jobsB_stop {r : Bs} (h : ∀ t, r ≠ 58 :: t) : jobsB r = some ([], r) := by
  rw [jobsB]
  exact fun t e => absurd e (h t)
theorem jobsB_go (r : Bs) : jobsB (58 :: r) = match numJ (nextB r).1 with | none => none | some n => (jobsB (nextB r).2).map fun p => (n :: p.1, p.2) := by
  conv => lhs; rw [jobsB]
def Ends (r : Bs) : Prop := r = [] ∨ ∃ c t, r = c :: t ∧ (c = 44 ∨ c = 63)
theorem Ends.s {r : Bs} (h : Ends r) : r = [] ∨ ∃ c t, r = c :: t ∧ isS c = true := by
  rcases h with rfl | ⟨c, t, rfl, h | h⟩
  · exact .inl rfl
  · exact .inr ⟨c, t, rfl, by rw [h]; rfl⟩
  · exact .inr ⟨c, t, rfl, by rw [h]; rfl⟩
theorem Ends.no {r : Bs} (h : Ends r) : ∀ t, r ≠ 58 :: t := by
  rintro t rfl
  rcases h with h | ⟨c, t', h, h2⟩
  · cases h
  · cases h; rcases h2 with h | h <;> cases h
theorem jobs_eq : ∀ (k : Nat) (w r : Bs), w.length ≤ k → (∀ c ∈ w, c ≠ 44 ∧ c ≠ 63) → Ends r → jobsB (58 :: (w ++ r)) = (jobsA w).map fun l => (l, r) := by
  intro k
  induction k with
  | zero =>
    intro w r hk hw hr
    obtain rfl : w = [] := by cases w with
      | nil => rfl
      | cons => simp at hk
    rw [jobsB_go, next_app (fun c h => by cases h) hr.s, jobsA_none (by rfl)]
    dsimp only
    cases numJ [] with
    | none => rfl
    | some n => dsimp only; rw [jobsB_stop hr.no]; rfl
  | succ k ih =>
    intro w r hk hw hr
    cases hc : cut1 58 w with
    | none =>
      have hn := cut1_none.1 hc
      rw [jobsB_go, next_app (fun c h => isS_iff.2 ⟨(hw c h).1, (hw c h).2, hn c h⟩) hr.s, jobsA_none hc]
      dsimp only
      cases numJ w with
      | none => rfl
      | some n => dsimp only; rw [jobsB_stop hr.no]; rfl
    | some p =>
      obtain ⟨a, b⟩ := p
      have hlt := cut1_short hc
      rw [jobsA_some hc]
      obtain ⟨rfl, ha⟩ := cut1_some hc
      rw [show a ++ 58 :: b ++ r = a ++ (58 :: (b ++ r)) by simp, jobsB_go, next_app (fun c h => isS_iff.2 ⟨(hw c (by simp [h])).1, (hw c (by simp [h])).2, ha c h⟩) (.inr ⟨58, _, rfl, rfl⟩)]
      dsimp only
      cases numJ a with
      | none => rfl
      | some n =>
        dsimp only
        rw [ih b r (by omega) (fun c h => hw c (by simp [h])) hr]
        cases jobsA b <;> rfl
theorem need_eq {w r : Bs} (hw : ∀ c ∈ w, c ≠ 44 ∧ c ≠ 63) (hr : Ends r) : needB (w ++ r) = (needA w).map fun n => (n, r) := by
  unfold needB needA
  cases hc : cut1 58 w with
  | none =>
    have hn := cut1_none.1 hc
    rw [next_app (fun c h => isS_iff.2 ⟨(hw c h).1, (hw c h).2, hn c h⟩) hr.s, jobsB_stop hr.no]
    dsimp only
    have hk := kindW_le w
    by_cases h5 : kindW w = 5
    · rw [if_neg (by rw [h5]; simp), if_pos h5, h5]; rfl
    · rw [if_pos (by have : kindW w < 5 := by omega
                     exact .inr (.inr ⟨this, rfl⟩)), if_neg h5]; rfl
  | some p =>
    obtain ⟨a, b⟩ := p
    obtain ⟨rfl, ha⟩ := cut1_some hc
    rw [show a ++ 58 :: b ++ r = a ++ (58 :: (b ++ r)) by simp, next_app (fun c h => isS_iff.2 ⟨(hw c (by simp [h])).1, (hw c (by simp [h])).2, ha c h⟩) (.inr ⟨58, _, rfl, rfl⟩)]
    dsimp only
    rw [jobs_eq _ b r (Nat.le_refl _) (fun c h => hw c (by simp [h])) hr]
    cases hj : jobsA b with
    | none =>
      dsimp only [Option.map]
      by_cases h : kindW a = 0 ∨ kindW a = 5
      · rw [if_pos h]
      · rw [if_neg h]
    | some l =>
      have hne := jobsA_ne _ b l (Nat.le_refl _) hj
      dsimp only [Option.map]
      by_cases h : kindW a = 0 ∨ kindW a = 5
      · rw [if_pos h, if_pos (by rcases h with h | h; exact .inl h; exact .inr (.inl ⟨h, hne⟩))]
      · rw [if_neg h, if_neg (by rintro (h1 | ⟨h1, _⟩ | ⟨_, h1⟩); exact h (.inl h1); exact h (.inr h1); exact hne h1)]
theorem jobsB_len : ∀ (k : Nat) (s : Bs) (p : List Nat × Bs), s.length ≤ k → jobsB s = some p → p.2.length ≤ s.length := by
  intro k
  induction k with
  | zero =>
    intro s p hk h
    obtain rfl : s = [] := by cases s with
      | nil => rfl
      | cons => simp at hk
    rw [jobsB_stop (fun t => by simp)] at h; cases h; simp
  | succ k ih =>
    intro s p hk h
    by_cases hs : ∃ t, s = 58 :: t
    · obtain ⟨t, rfl⟩ := hs
      rw [jobsB_go] at h
      have hn := nextB_len t
      cases hj : numJ (nextB t).1 with
      | none => rw [hj] at h; cases h
      | some n =>
        rw [hj] at h
        dsimp only at h
        cases hb : jobsB (nextB t).2 with
        | none => rw [hb] at h; cases h
        | some q =>
          rw [hb] at h; cases h
          have := ih _ q (by simp at hk; omega) hb
          simp at this ⊢; omega
    · rw [jobsB_stop (fun t e => hs ⟨t, e⟩)] at h; cases h; simp
theorem needB_len {s : Bs} {p : Nd × Bs} (h : needB s = some p) : p.2.length ≤ s.length := by
  unfold needB at h
  cases hj : jobsB (nextB s).2 with
  | none => rw [hj] at h; cases h
  | some q =>
    rw [hj] at h
    dsimp only at h
    split at h
    · cases h
    · cases h
      exact Nat.le_trans (jobsB_len _ _ _ (Nat.le_refl _) hj) (nextB_len s)
def needsB (sign : UInt8) (s : Bs) : Option (List Nd × UInt8) :=
  match h : needB s with
  | none => none
  | some (n, []) => some ([n], sign)
  | some (n, c :: r) => if sign ≠ 0 ∧ sign ≠ c then none else (needsB c r).map fun p => (n :: p.1, p.2)
termination_by s.length
decreasing_by have := needB_len h; simp at this; omega
theorem needsB_none {sign : UInt8} {s : Bs} (h : needB s = none) : needsB sign s = none := by
  rw [needsB]; split
  · rfl
  · rename_i h2; rw [h] at h2; cases h2
  · rename_i h2; rw [h] at h2; cases h2
theorem needsB_end {sign : UInt8} {s : Bs} {n : Nd} (h : needB s = some (n, [])) : needsB sign s = some ([n], sign) := by
  rw [needsB]; split
  · rename_i h2; rw [h] at h2; cases h2
  · rename_i h2; rw [h] at h2; cases h2; rfl
  · rename_i h2; rw [h] at h2; cases h2
theorem needsB_go {sign c : UInt8} {s r : Bs} {n : Nd} (h : needB s = some (n, c :: r)) : needsB sign s = if sign ≠ 0 ∧ sign ≠ c then none else (needsB c r).map fun p => (n :: p.1, p.2) := by
  rw [needsB]; split
  · rename_i h2; rw [h] at h2; cases h2
  · rename_i h2; rw [h] at h2; cases h2
  · rename_i h2; rw [h] at h2; cases h2; rfl
theorem needs_eq (c : UInt8) (hc : c = 44 ∨ c = 63) : ∀ (k : Nat) (s : Bs) (sign : UInt8), s.length ≤ k → (∀ x ∈ s, x = 44 ∨ x = 63 → x = c) → (sign = 0 ∨ sign = c) →
    needsB sign s = (needsA c s).map fun l => (l, if c ∈ s then c else sign) := by
  intro k
  induction k with
  | zero =>
    intro s sign hk hs hg
    obtain rfl : s = [] := by cases s with
      | nil => rfl
      | cons => simp at hk
    have h : needB [] = (needA []).map fun n => (n, []) := need_eq (w := []) (r := []) (fun c h => by cases h) (.inl rfl)
    rw [needsA_none (by rfl)]
    cases hn : needA [] with
    | none => rw [hn] at h; rw [needsB_none h]; rfl
    | some n => rw [hn] at h; rw [needsB_end h]; simp
  | succ k ih =>
    intro s sign hk hs hg
    cases hcc : cut1 c s with
    | none =>
      have hno := cut1_none.1 hcc
      have hw : ∀ x ∈ s, x ≠ 44 ∧ x ≠ 63 := fun x hx => ⟨fun e => hno x hx (hs x hx (.inl e)), fun e => hno x hx (hs x hx (.inr e))⟩
      have h := need_eq hw (r := []) (.inl rfl)
      rw [List.append_nil] at h
      rw [needsA_none hcc]
      have hni : c ∉ s := fun h => hno c h rfl
      cases hn : needA s with
      | none => rw [hn] at h; rw [needsB_none h]; rfl
      | some n => rw [hn] at h; rw [needsB_end h]; simp [hni]
    | some p =>
      obtain ⟨a, r⟩ := p
      have hlt := cut1_short hcc
      rw [needsA_some hcc]
      obtain ⟨rfl, ha⟩ := cut1_some hcc
      have hw : ∀ x ∈ a, x ≠ 44 ∧ x ≠ 63 := fun x hx => ⟨fun e => ha x hx (hs x (by simp [hx]) (.inl e)), fun e => ha x hx (hs x (by simp [hx]) (.inr e))⟩
      have h := need_eq hw (r := c :: r) (.inr ⟨c, r, rfl, hc⟩)
      cases hn : needA a with
      | none => rw [hn] at h; rw [needsB_none h]; rfl
      | some n =>
        rw [hn] at h
        rw [needsB_go h, if_neg (by rcases hg with e | e <;> simp [e]), ih r c (by omega) (fun x hx => hs x (by simp [hx])) (.inr rfl)]
        dsimp only
        cases needsA c r <;> simp
theorem word_split (s : Bs) : ∃ w r, s = w ++ r ∧ (∀ c ∈ w, c ≠ 44 ∧ c ≠ 63) ∧ Ends r := by
  induction s with
  | nil => exact ⟨[], [], rfl, (fun c h => by cases h), .inl rfl⟩
  | cons a s ih =>
    by_cases ha : a = 44 ∨ a = 63
    · exact ⟨[], a :: s, rfl, (fun c h => by cases h), .inr ⟨a, s, rfl, ha⟩⟩
    · obtain ⟨w, r, rfl, hw, hr⟩ := ih
      refine ⟨a :: w, r, rfl, fun c hc => ?_, hr⟩
      rcases List.mem_cons.1 hc with rfl | hc
      · exact ⟨fun e => ha (.inl e), fun e => ha (.inr e)⟩
      · exact hw c hc
theorem needs_one : ∀ (k : Nat) (s : Bs) (sign : UInt8) (l : List Nd) (sg : UInt8), s.length ≤ k → needsB sign s = some (l, sg) → (∀ x ∈ s, x = 44 ∨ x = 63 → x = sg) ∧ (sign ≠ 0 → sg = sign) := by
  intro k
  induction k with
  | zero =>
    intro s sign l sg hk h
    obtain rfl : s = [] := by cases s with
      | nil => rfl
      | cons => simp at hk
    have h2 : needB [] = (needA []).map fun n => (n, []) := need_eq (w := []) (r := []) (fun c h => by cases h) (.inl rfl)
    cases hn : needA [] with
    | none => rw [hn] at h2; rw [needsB_none h2] at h; cases h
    | some n => rw [hn] at h2; rw [needsB_end h2] at h; cases h; exact ⟨(fun x h => by cases h), fun _ => rfl⟩
  | succ k ih =>
    intro s sign l sg hk h
    obtain ⟨w, r, rfl, hw, hr⟩ := word_split s
    have h2 := need_eq hw hr
    cases hn : needA w with
    | none => rw [hn] at h2; rw [needsB_none h2] at h; cases h
    | some n =>
      rw [hn] at h2
      rcases hr with rfl | ⟨c, t, rfl, hc⟩
      · rw [needsB_end h2] at h; cases h
        refine ⟨fun x hx hh => ?_, fun _ => rfl⟩
        rw [List.append_nil] at hx
        rcases hh with e | e
        · exact absurd e (hw x hx).1
        · exact absurd e (hw x hx).2
      · rw [needsB_go h2] at h
        split at h
        · cases h
        · rename_i hg
          cases ht : needsB c t with
          | none => rw [ht] at h; cases h
          | some p =>
            obtain ⟨l', sg'⟩ := p
            rw [ht] at h; cases h
            obtain ⟨i1, i2⟩ := ih t c l' _ (by simp at hk; omega) ht
            have hc0 : c ≠ 0 := by rcases hc with rfl | rfl <;> decide
            have hcs := i2 hc0
            refine ⟨fun x hx hh => ?_, fun h0 => ?_⟩
            · rcases List.mem_append.1 hx with hx | hx
              · rcases hh with e | e
                · exact absurd e (hw x hx).1
                · exact absurd e (hw x hx).2
              · rcases List.mem_cons.1 hx with rfl | hx
                · exact hcs.symm
                · exact i1 x hx hh
            · rw [hcs]
              exact Classical.byContradiction fun e => hg ⟨h0, fun e2 => e e2.symm⟩
def parseB8 (s : Bs) : Bool × List Nd × Int :=
  if s = [] then (false, [], 0)
  else match needsB 0 s with
    | none => (false, [], 60)
    | some (l, sg) => endD (decide (sg = 63)) l
theorem parse_eq8 (s : Bs) : parseA8 s = parseB8 s := by
  unfold parseA8 parseB8
  split
  · rfl
  · split
    · rename_i h
      cases hn : needsB 0 s with
      | none => rfl
      | some p =>
        obtain ⟨l, sg⟩ := p
        obtain ⟨h1, h2⟩ := needs_one _ s 0 l sg (Nat.le_refl _) hn
        have e1 := h1 63 h.1 (.inr rfl)
        have e2 := h1 44 h.2 (.inl rfl)
        rw [← e1] at e2; cases e2
    · rename_i h
      by_cases h63 : 63 ∈ s
      · have hs : ∀ x ∈ s, x = 44 ∨ x = 63 → x = 63 := fun x hx e => by
          rcases e with rfl | e
          · exact absurd ⟨h63, hx⟩ h
          · exact e
        rw [needs_eq 63 (.inr rfl) _ s 0 (Nat.le_refl _) hs (.inl rfl), decide_eq_true h63]
        unfold sepA
        rw [if_pos rfl]
        cases needsA 63 s with
        | none => rfl
        | some l => simp [h63]
      · have hs : ∀ x ∈ s, x = 44 ∨ x = 63 → x = 44 := fun x hx e => by
          rcases e with e | rfl
          · exact e
          · exact absurd hx h63
        rw [needs_eq 44 (.inl rfl) _ s 0 (Nat.le_refl _) hs (.inl rfl), decide_eq_false h63]
        unfold sepA
        rw [if_neg (by simp)]
        cases needsA 44 s with
        | none => rfl
        | some l =>
          dsimp only [Option.map]
          congr 1
          symm
          apply decide_eq_false
          split <;> decide
end

section
open Go Go.Lib
def jobsT (js : List Nat) : Bs := js.flatMap fun j => 58 :: Lib.decDigits j
def needT (n : Nd) : Bs := kindT n.1 ++ jobsT n.2
def joinD (c : UInt8) : List Nd → Bs
  | [] => []
  | n :: r => needT n ++ if r = [] then [] else c :: joinD c r
def printD (any : Bool) (l : List Nd) : Bs × Int := if okD any l then (joinD (sepA any) l, 0) else ([], 2)
theorem joinD_one (c : UInt8) (n : Nd) : joinD c [n] = needT n := by simp [joinD]
theorem joinD_more (c : UInt8) (n : Nd) {r : List Nd} (h : r ≠ []) : joinD c (n :: r) = needT n ++ c :: joinD c r := by rw [joinD, if_neg h]
theorem jobsT_no (js : List Nat) : ∀ c ∈ jobsT js, c ≠ 44 ∧ c ≠ 63 := fun c hc => by
  obtain ⟨j, _, h⟩ := List.mem_flatMap.1 hc
  rcases List.mem_cons.1 h with rfl | h
  · decide
  · exact ⟨D_no j (by decide) c h, D_no j (by decide) c h⟩
theorem needT_no (n : Nd) : ∀ c ∈ needT n, c ≠ 44 ∧ c ≠ 63 := fun c hc => by
  rcases List.mem_append.1 hc with h | h
  · exact (kindT_no n.1 c h).2
  · exact jobsT_no n.2 c h
theorem needT_ne (n : Nd) : needT n ≠ [] := by
  unfold needT
  have := kindT_ne n.1
  simp [this]
theorem cut1_free {sep : UInt8} {s : Bs} (h : ∀ c ∈ s, c ≠ sep) : cut1 sep s = none := cut1_none.2 h
/-! Printed, then read. -/
theorem jobs_back : ∀ (js : List Nat), js ≠ [] → (∀ j ∈ js, j < 4294967296) → ∃ t, jobsT js = 58 :: t ∧ jobsA t = some js
  | [], h, _ => absurd rfl h
  | [j], _, h => by
    refine ⟨Lib.decDigits j, by simp [jobsT], ?_⟩
    rw [jobsA_none (cut1_free (D_no j (by decide))), numJ_D (h j (List.mem_cons_self))]; rfl
  | j :: k :: js, _, h => by
    obtain ⟨t, ht, ha⟩ := jobs_back (k :: js) (by simp) (fun x hx => h x (List.mem_cons_of_mem _ hx))
    refine ⟨Lib.decDigits j ++ 58 :: t, by rw [← ht]; simp [jobsT], ?_⟩
    rw [jobsA_some (cut1_app (D_no j (by decide)) t), numJ_D (h j (List.mem_cons_self)), ha]; rfl
theorem need_back {n : Nd} (h : okN n) (hj : ∀ j ∈ n.2, j < 4294967296) : needA (needT n) = some n := by
  obtain ⟨k, js⟩ := n
  rcases h with ⟨h1, h2, h3, h4, h5⟩ | ⟨h1, h2⟩
  · have hne : js ≠ [] := fun e => by rw [e] at h3; simp at h3
    obtain ⟨t, ht, ha⟩ := jobs_back js hne hj
    unfold needA needT
    dsimp only at *
    rw [ht, cut1_app (fun c hc => (kindT_no k c hc).1) t]
    dsimp only
    rw [kindW_T ⟨h1, by omega⟩, if_neg (by omega), ha]; rfl
  · dsimp only at *
    subst h1
    obtain rfl := List.length_eq_zero_iff.1 h2
    decide
theorem needs_back (any : Bool) : ∀ (l : List Nd), l ≠ [] → (∀ n ∈ l, okN n) → (∀ n ∈ l, ∀ j ∈ n.2, j < 4294967296) → needsA (sepA any) (joinD (sepA any) l) = some l
  | [], h, _, _ => absurd rfl h
  | [n], _, h1, h2 => by
    rw [joinD_one, needsA_none (cut1_free fun c hc => by
      have := needT_no n c hc
      unfold sepA; cases any
      · exact this.1
      · exact this.2), need_back (h1 n (List.mem_cons_self)) (h2 n (List.mem_cons_self))]; rfl
  | n :: m :: l, _, h1, h2 => by
    rw [joinD_more _ _ (by simp), needsA_some (cut1_app (fun c hc => by
      have := needT_no n c hc
      unfold sepA; cases any
      · exact this.1
      · exact this.2) _), need_back (h1 n (List.mem_cons_self)) (h2 n (List.mem_cons_self))]
    dsimp only
    rw [needs_back any (m :: l) (by simp) (fun x hx => h1 x (List.mem_cons_of_mem _ hx)) (fun x hx => h2 x (List.mem_cons_of_mem _ hx))]; rfl
theorem joinD_mem (any : Bool) (x : UInt8) (hx : x = 44 ∨ x = 63) : ∀ (l : List Nd), x ∈ joinD (sepA any) l ↔ x = sepA any ∧ 2 ≤ l.length
  | [] => by simp [joinD]
  | [n] => by
    rw [joinD_one]
    constructor
    · intro h
      have := needT_no n x h
      rcases hx with e | e
      · exact absurd e this.1
      · exact absurd e this.2
    · rintro ⟨_, h⟩; simp at h
  | n :: m :: l => by
    rw [joinD_more _ _ (by simp), List.mem_append, List.mem_cons]
    constructor
    · rintro (h | h | h)
      · have := needT_no n x h
        rcases hx with e | e
        · exact absurd e this.1
        · exact absurd e this.2
      · exact ⟨h, by simp⟩
      · exact ⟨((joinD_mem any x hx (m :: l)).1 h).1, by simp⟩
    · rintro ⟨h, _⟩; exact .inr (.inl h)
theorem joinD_nil (c : UInt8) {l : List Nd} : joinD c l = [] ↔ l = [] := by
  cases l with
  | nil => simp [joinD]
  | cons n r =>
    have := needT_ne n
    simp [joinD, this]
theorem parse_print8 {any : Bool} {l : List Nd} (h : okD any l) (hj : ∀ n ∈ l, ∀ j ∈ n.2, j < 4294967296) : parseA8 (joinD (sepA any) l) = (any, l, 0) := by
  unfold parseA8
  by_cases hl : l = []
  · subst hl
    rw [if_pos (by rfl)]
    cases any with
    | false => rfl
    | true => have := h.2.1 rfl; simp at this
  · rw [if_neg (fun e => hl ((joinD_nil _).1 e)), if_neg (fun e => by
      have e1 := ((joinD_mem any 63 (.inr rfl) l).1 e.1).1
      have e2 := ((joinD_mem any 44 (.inl rfl) l).1 e.2).1
      rw [← e1] at e2; cases e2)]
    have hd : decide (63 ∈ joinD (sepA any) l) = any := by
      cases any with
      | false => exact decide_eq_false fun e => by have := ((joinD_mem false 63 (.inr rfl) l).1 e).1; cases this
      | true => exact decide_eq_true ((joinD_mem true 63 (.inr rfl) l).2 ⟨rfl, h.2.1 rfl⟩)
    rw [hd, needs_back any l hl h.2.2 hj]
    dsimp only
    unfold endD
    rw [if_pos h]
/-! Read, then printed. -/
theorem jobs_read : ∀ (k : Nat) (s : Bs) (l : List Nat), s.length ≤ k → jobsA s = some l → jobsT l = 58 :: s ∧ ∀ j ∈ l, j < 4294967296 := by
  intro k
  have base : ∀ (s : Bs) (l : List Nat), cut1 58 s = none → jobsA s = some l → jobsT l = 58 :: s ∧ ∀ j ∈ l, j < 4294967296 := fun s l hc h => by
    rw [jobsA_none hc] at h
    cases hn : numJ s with
    | none => rw [hn] at h; cases h
    | some n =>
      rw [hn] at h; cases h
      obtain ⟨h1, h2⟩ := numJ_some hn
      exact ⟨by simp [jobsT, h1], by simpa using h2⟩
  induction k with
  | zero =>
    intro s l hk h
    obtain rfl : s = [] := by cases s with
      | nil => rfl
      | cons => simp at hk
    exact base [] l rfl h
  | succ k ih =>
    intro s l hk h
    cases hc : cut1 58 s with
    | none => exact base s l hc h
    | some p =>
      obtain ⟨a, r⟩ := p
      have hlt := cut1_short hc
      rw [jobsA_some hc] at h
      obtain ⟨rfl, ha⟩ := cut1_some hc
      cases hn : numJ a with
      | none => rw [hn] at h; cases h
      | some n =>
        rw [hn] at h
        dsimp only at h
        cases hr : jobsA r with
        | none => rw [hr] at h; cases h
        | some l' =>
          rw [hr] at h; cases h
          obtain ⟨h1, h2⟩ := numJ_some hn
          obtain ⟨i1, i2⟩ := ih r l' (by omega) hr
          refine ⟨?_, fun j hj => ?_⟩
          · show 58 :: Lib.decDigits n ++ jobsT l' = _
            rw [h1, i1]; simp
          · rcases List.mem_cons.1 hj with rfl | hj
            · exact h2
            · exact i2 j hj
theorem need_read {s : Bs} {n : Nd} (h : needA s = some n) : needT n = s ∧ ∀ j ∈ n.2, j < 4294967296 := by
  unfold needA at h
  cases hc : cut1 58 s with
  | none =>
    rw [hc] at h
    dsimp only at h
    split at h
    · rename_i h5
      cases h
      have h6 : kindW s ≠ 0 := by rw [h5]; decide
      have := (kindW_some h6).1
      rw [h5] at this
      exact ⟨by unfold needT; rw [this]; simp [jobsT], by simp⟩
    · cases h
  | some p =>
    obtain ⟨a, r⟩ := p
    rw [hc] at h
    dsimp only at h
    obtain ⟨rfl, ha⟩ := cut1_some hc
    split at h
    · cases h
    · rename_i hk
      cases hr : jobsA r with
      | none => rw [hr] at h; cases h
      | some l =>
        rw [hr] at h; cases h
        obtain ⟨i1, i2⟩ := jobs_read _ r l (Nat.le_refl _) hr
        have h6 : kindW a ≠ 0 := fun e => hk (.inl e)
        refine ⟨?_, i2⟩
        unfold needT
        dsimp only
        rw [(kindW_some h6).1, i1]
theorem needs_read (c : UInt8) : ∀ (k : Nat) (s : Bs) (l : List Nd), s.length ≤ k → needsA c s = some l → joinD c l = s ∧ l ≠ [] ∧ (c ∈ s ↔ 2 ≤ l.length) ∧ ∀ n ∈ l, ∀ j ∈ n.2, j < 4294967296 := by
  intro k
  have base : ∀ (s : Bs) (l : List Nd), cut1 c s = none → needsA c s = some l → joinD c l = s ∧ l ≠ [] ∧ (c ∈ s ↔ 2 ≤ l.length) ∧ ∀ n ∈ l, ∀ j ∈ n.2, j < 4294967296 := fun s l hc h => by
    rw [needsA_none hc] at h
    cases hn : needA s with
    | none => rw [hn] at h; cases h
    | some n =>
      rw [hn] at h; cases h
      obtain ⟨h1, h2⟩ := need_read hn
      have hni : c ∉ s := fun h => cut1_none.1 hc c h rfl
      exact ⟨by rw [joinD_one, h1], by simp, by simp [hni], by simpa using h2⟩
  induction k with
  | zero =>
    intro s l hk h
    obtain rfl : s = [] := by cases s with
      | nil => rfl
      | cons => simp at hk
    exact base [] l rfl h
  | succ k ih =>
    intro s l hk h
    cases hc : cut1 c s with
    | none => exact base s l hc h
    | some p =>
      obtain ⟨a, r⟩ := p
      have hlt := cut1_short hc
      rw [needsA_some hc] at h
      obtain ⟨rfl, ha⟩ := cut1_some hc
      cases hn : needA a with
      | none => rw [hn] at h; cases h
      | some n =>
        rw [hn] at h
        dsimp only at h
        cases hr : needsA c r with
        | none => rw [hr] at h; cases h
        | some l' =>
          rw [hr] at h; cases h
          obtain ⟨h1, h2⟩ := need_read hn
          obtain ⟨i1, i2, i3, i4⟩ := ih r l' (by omega) hr
          refine ⟨by rw [joinD_more _ _ i2, h1, i1], by simp, ?_, fun m hm => ?_⟩
          · have : 1 ≤ l'.length := List.length_pos_iff.2 i2
            simp; omega
          · rcases List.mem_cons.1 hm with rfl | hm
            · exact h2
            · exact i4 m hm
theorem parse_read8 {s : Bs} {any : Bool} {l : List Nd} (h : parseA8 s = (any, l, 0)) : okD any l ∧ joinD (sepA any) l = s ∧ ∀ n ∈ l, ∀ j ∈ n.2, j < 4294967296 := by
  unfold parseA8 at h
  split at h
  · rename_i hs
    cases h
    exact ⟨by decide, by rw [hs]; rfl, by simp⟩
  · split at h
    · simp at h
    · rename_i hs h2
      cases hn : needsA (sepA (decide (63 ∈ s))) s with
      | none => rw [hn] at h; simp at h
      | some l' =>
        rw [hn] at h
        dsimp only at h
        unfold endD at h
        split at h
        · rename_i hok
          simp only [Prod.mk.injEq] at h
          obtain ⟨rfl, rfl, _⟩ := h
          obtain ⟨i1, i2, i3, i4⟩ := needs_read _ _ s l' (Nat.le_refl _) hn
          exact ⟨hok, i1, i4⟩
        · simp at h
/-- What is refused is nothing. -/
theorem parse_code8 (s : Bs) : (parseA8 s).2.2 = 0 ∨ parseA8 s = (false, [], 60) ∨ parseA8 s = (false, [], 2) := by
  unfold parseA8
  split
  · exact .inl rfl
  · split
    · exact .inr (.inl rfl)
    · split
      · exact .inr (.inl rfl)
      · unfold endD; split
        · exact .inl rfl
        · exact .inr (.inr rfl)
end

section
open Go Go.Lib
/-- One mark stands ahead of another: by its key, else by the mark. -/
def Rk (key : Nat → Nat) (x y : Nat) : Prop := key x < key y ∨ (key x = key y ∧ x < y)
theorem Rk.trans {key : Nat → Nat} {x y z : Nat} (h : Rk key x y) (k : Rk key y z) : Rk key x z := by unfold Rk at *; omega
theorem Rk.asymm {key : Nat → Nat} {x y : Nat} (h : Rk key x y) (k : Rk key y x) : False := by unfold Rk at *; omega
/-- The marks at the places a to b stand in order. -/
def Srt (key : Nat → Nat) (D : Nat → Nat) (a b : Nat) : Prop := ∀ i j, a ≤ i → i < j → j < b → Rk key (D i) (D j)
/-- Only the places a to b changed, and the marks there are the same ones. -/
structure SR (a b : Nat) (D D' : Nat → Nat) : Prop where
  out : ∀ k, ¬ (a ≤ k ∧ k < b) → D' k = D k
  fwd : ∀ k, a ≤ k → k < b → ∃ k', a ≤ k' ∧ k' < b ∧ D' k = D k'
  bwd : ∀ k, a ≤ k → k < b → ∃ k', a ≤ k' ∧ k' < b ∧ D' k' = D k
theorem SR.refl (a b : Nat) (D : Nat → Nat) : SR a b D D := ⟨fun _ _ => rfl, fun k h1 h2 => ⟨k, h1, h2, rfl⟩, fun k h1 h2 => ⟨k, h1, h2, rfl⟩⟩
theorem SR.trans {a b : Nat} {D D1 D2 : Nat → Nat} (h : SR a b D D1) (k : SR a b D1 D2) : SR a b D D2 := by
  refine ⟨fun i hi => (k.out i hi).trans (h.out i hi), fun i h1 h2 => ?_, fun i h1 h2 => ?_⟩
  · obtain ⟨j, j1, j2, e⟩ := k.fwd i h1 h2
    obtain ⟨t, t1, t2, e2⟩ := h.fwd j j1 j2
    exact ⟨t, t1, t2, e.trans e2⟩
  · obtain ⟨j, j1, j2, e⟩ := h.bwd i h1 h2
    obtain ⟨t, t1, t2, e2⟩ := k.bwd j j1 j2
    exact ⟨t, t1, t2, e2.trans e⟩
theorem SR.mono {a b a' b' : Nat} {D D' : Nat → Nat} (h : SR a b D D') (ha : a' ≤ a) (hb : b ≤ b') : SR a' b' D D' := by
  refine ⟨fun i hi => h.out i (by omega), fun i h1 h2 => ?_, fun i h1 h2 => ?_⟩
  · by_cases hi : a ≤ i ∧ i < b
    · obtain ⟨t, t1, t2, e⟩ := h.fwd i hi.1 hi.2
      exact ⟨t, by omega, by omega, e⟩
    · exact ⟨i, h1, h2, h.out i hi⟩
  · by_cases hi : a ≤ i ∧ i < b
    · obtain ⟨t, t1, t2, e⟩ := h.bwd i hi.1 hi.2
      exact ⟨t, by omega, by omega, e⟩
    · exact ⟨i, h1, h2, h.out i hi⟩
theorem SR.congr {a b : Nat} {D D1 D2 : Nat → Nat} (h : SR a b D D1) (e : ∀ k, D2 k = D1 k) : SR a b D D2 := by
  have : D2 = D1 := funext e
  rw [this]; exact h
/-- Two places change their marks. -/
def swpF (D : Nat → Nat) (i j : Nat) : Nat → Nat := fun k => if k = i then D j else if k = j then D i else D k
theorem swpF_SR {a b : Nat} {D : Nat → Nat} {i j : Nat} (hi : a ≤ i ∧ i < b) (hj : a ≤ j ∧ j < b) : SR a b D (swpF D i j) := by
  refine ⟨fun k hk => ?_, fun k h1 h2 => ?_, fun k h1 h2 => ?_⟩
  · unfold swpF; rw [if_neg (by omega), if_neg (by omega)]
  · by_cases e : k = i
    · exact ⟨j, hj.1, hj.2, by unfold swpF; rw [if_pos e]⟩
    · by_cases e2 : k = j
      · exact ⟨i, hi.1, hi.2, by unfold swpF; rw [if_neg e, if_pos e2]⟩
      · exact ⟨k, h1, h2, by unfold swpF; rw [if_neg e, if_neg e2]⟩
  · by_cases e : k = i
    · subst e
      by_cases e2 : j = k
      · subst e2; exact ⟨j, h1, h2, by unfold swpF; rw [if_pos rfl]⟩
      · exact ⟨j, hj.1, hj.2, by unfold swpF; rw [if_neg e2, if_pos rfl]⟩
    · by_cases e2 : k = j
      · subst e2; exact ⟨i, hi.1, hi.2, by unfold swpF; rw [if_pos rfl]⟩
      · exact ⟨k, h1, h2, by unfold swpF; rw [if_neg e, if_neg e2]⟩
/-! Insertion. -/
/-- The mark of place i has gone down to place j. -/
def dnF (D : Nat → Nat) (j i : Nat) : Nat → Nat := fun k => if k < j then D k else if k = j then D i else if k ≤ i then D (k - 1) else D k
theorem dnF_self (D : Nat → Nat) (i : Nat) : dnF D i i = D := by
  funext k; unfold dnF
  by_cases h1 : k < i
  · rw [if_pos h1]
  · by_cases h2 : k = i
    · rw [if_neg h1, if_pos h2, h2]
    · rw [if_neg h1, if_neg h2, if_neg (by omega)]
theorem dnF_step (D : Nat → Nat) {j i : Nat} (h0 : 1 ≤ j) (h : j ≤ i) : swpF (dnF D j i) j (j - 1) = dnF D (j - 1) i := by
  funext k; unfold swpF dnF
  by_cases h1 : k = j
  · subst h1
    rw [if_pos rfl, if_pos (by omega), if_neg (by omega), if_neg (by omega), if_pos h]
  · by_cases h2 : k = j - 1
    · subst h2
      rw [if_neg (by omega), if_pos rfl, if_neg (by omega), if_pos rfl, if_neg (by omega), if_pos rfl]
    · rw [if_neg h1, if_neg h2]
      by_cases h3 : k < j
      · rw [if_pos h3, if_pos (by omega)]
      · rw [if_neg h3, if_neg h1, if_neg (by omega : ¬ k < j - 1), if_neg h2]
theorem dnF_at (D : Nat → Nat) (j i : Nat) : dnF D j i j = D i := by unfold dnF; rw [if_neg (by omega), if_pos rfl]
theorem dnF_pre (D : Nat → Nat) {j i : Nat} (h : 1 ≤ j) : dnF D j i (j - 1) = D (j - 1) := by unfold dnF; rw [if_pos (by omega)]
theorem dnF_SR {a b : Nat} {D : Nat → Nat} {j i : Nat} (ha : a ≤ j) (hj : j ≤ i) (hi : i < b) : SR a b D (dnF D j i) := by
  refine ⟨fun k hk => ?_, fun k h1 h2 => ?_, fun k h1 h2 => ?_⟩
  · unfold dnF
    by_cases h : k < j
    · rw [if_pos h]
    · rw [if_neg h, if_neg (by omega), if_neg (by omega)]
  · unfold dnF
    by_cases h : k < j
    · exact ⟨k, h1, h2, by rw [if_pos h]⟩
    · by_cases h3 : k = j
      · exact ⟨i, by omega, hi, by rw [if_neg h, if_pos h3]⟩
      · by_cases h4 : k ≤ i
        · exact ⟨k - 1, by omega, by omega, by rw [if_neg h, if_neg h3, if_pos h4]⟩
        · exact ⟨k, h1, h2, by rw [if_neg h, if_neg h3, if_neg h4]⟩
  · by_cases h : k < j
    · exact ⟨k, h1, h2, by unfold dnF; rw [if_pos h]⟩
    · by_cases h3 : k = i
      · exact ⟨j, ha, by omega, by rw [dnF_at, h3]⟩
      · by_cases h4 : k < i
        · exact ⟨k + 1, by omega, by omega, by unfold dnF; rw [if_neg (by omega), if_neg (by omega), if_pos (by omega)]; rfl⟩
        · exact ⟨k, h1, h2, by unfold dnF; rw [if_neg h, if_neg (by omega), if_neg (by omega)]⟩
/-- It has gone down as far as it has to. -/
theorem dnF_srt {key : Nat → Nat} {D : Nat → Nat} {a j i : Nat} (hs : Srt key D a i) (ha : a ≤ j) (hj : j ≤ i) (h1 : ∀ k, j ≤ k → k < i → Rk key (D i) (D k)) (h2 : a < j → Rk key (D (j - 1)) (D i)) : Srt key (dnF D j i) a (i + 1) := by
  have low : ∀ k, a ≤ k → k < j → Rk key (D k) (D i) := fun k k1 k2 => by
    by_cases e : k = j - 1
    · rw [e]; exact h2 (by omega)
    · exact (hs k (j - 1) k1 (by omega) (by omega)).trans (h2 (by omega))
  intro x y hx hxy hy
  unfold dnF
  by_cases c1 : x < j
  · rw [if_pos c1]
    by_cases c2 : y < j
    · rw [if_pos c2]; exact hs x y hx hxy (by omega)
    · by_cases c3 : y = j
      · rw [if_neg c2, if_pos c3]; exact low x hx c1
      · rw [if_neg c2, if_neg c3, if_pos (by omega)]; exact hs x (y - 1) hx (by omega) (by omega)
  · rw [if_neg c1, if_neg (by omega : ¬ y < j), if_neg (by omega : ¬ y = j), if_pos (by omega : y ≤ i)]
    by_cases c3 : x = j
    · rw [if_pos c3]; exact h1 (y - 1) (by omega) (by omega)
    · rw [if_neg c3, if_pos (by omega : x ≤ i)]; exact hs (x - 1) (y - 1) (by omega) (by omega) (by omega)
/-- The mark of place a has gone up to place t. -/
def upF (D : Nat → Nat) (a t : Nat) : Nat → Nat := fun k => if k < a then D k else if k < t then D (k + 1) else if k = t then D a else D k
theorem upF_self (D : Nat → Nat) (a : Nat) : upF D a a = D := by
  funext k; unfold upF
  by_cases h1 : k < a
  · rw [if_pos h1]
  · by_cases h2 : k = a
    · rw [if_neg h1, if_neg (by omega), if_pos h2, h2]
    · rw [if_neg h1, if_neg (by omega), if_neg h2]
theorem upF_step (D : Nat → Nat) {a t : Nat} (h : a ≤ t) : swpF (upF D a t) t (t + 1) = upF D a (t + 1) := by
  funext k; unfold swpF upF
  by_cases h1 : k = t
  · subst h1
    rw [if_pos rfl, if_neg (by omega), if_neg (by omega), if_neg (by omega), if_neg (by omega), if_pos (by omega)]
  · by_cases h2 : k = t + 1
    · subst h2
      rw [if_neg h1, if_pos rfl, if_neg (by omega), if_neg (by omega), if_pos rfl, if_neg (by omega), if_neg (by omega), if_pos rfl]
    · rw [if_neg h1, if_neg h2]
      by_cases h3 : k < a
      · rw [if_pos h3, if_pos h3]
      · by_cases h4 : k < t
        · rw [if_neg h3, if_pos h4, if_neg h3, if_pos (by omega)]
        · rw [if_neg h3, if_neg h4, if_neg h1, if_neg h3, if_neg (by omega), if_neg h2]
theorem upF_at (D : Nat → Nat) {a t : Nat} (h : a ≤ t) : upF D a t t = D a := by unfold upF; rw [if_neg (by omega), if_neg (by omega), if_pos rfl]
theorem upF_SR {a b : Nat} {D : Nat → Nat} {t : Nat} (ha : a ≤ t) (ht : t < b) : SR a b D (upF D a t) := by
  refine ⟨fun k hk => ?_, fun k h1 h2 => ?_, fun k h1 h2 => ?_⟩
  · unfold upF
    by_cases h : k < a
    · rw [if_pos h]
    · rw [if_neg h, if_neg (by omega), if_neg (by omega)]
  · unfold upF
    by_cases h : k < t
    · exact ⟨k + 1, by omega, by omega, by rw [if_neg (by omega), if_pos h]⟩
    · by_cases h3 : k = t
      · exact ⟨a, by omega, by omega, by rw [if_neg (by omega), if_neg h, if_pos h3]⟩
      · exact ⟨k, h1, h2, by rw [if_neg (by omega), if_neg h, if_neg h3]⟩
  · by_cases h : k = a
    · exact ⟨t, by omega, ht, by rw [upF_at D ha, h]⟩
    · by_cases h4 : k ≤ t
      · exact ⟨k - 1, by omega, by omega, by unfold upF; rw [if_neg (by omega), if_pos (by omega), show k - 1 + 1 = k by omega]⟩
      · exact ⟨k, h1, h2, by unfold upF; rw [if_neg (by omega), if_neg (by omega), if_neg (by omega)]⟩
theorem upF_srt {key : Nat → Nat} {D : Nat → Nat} {a t b : Nat} (hs : Srt key D (a + 1) b) (ha : a ≤ t) (ht : t < b) (h1 : ∀ k, a < k → k ≤ t → Rk key (D k) (D a)) (h2 : t + 1 < b → Rk key (D a) (D (t + 1))) : Srt key (upF D a t) a b := by
  have high : ∀ k, t < k → k < b → Rk key (D a) (D k) := fun k k1 k2 => by
    by_cases e : k = t + 1
    · rw [e]; exact h2 (by omega)
    · exact (h2 (by omega)).trans (hs (t + 1) k (by omega) (by omega) k2)
  intro x y hx hxy hy
  unfold upF
  rw [if_neg (by omega : ¬ x < a), if_neg (by omega : ¬ y < a)]
  by_cases c1 : x < t
  · rw [if_pos c1]
    by_cases c2 : y < t
    · rw [if_pos c2]; exact hs (x + 1) (y + 1) (by omega) (by omega) (by omega)
    · by_cases c3 : y = t
      · rw [if_neg c2, if_pos c3]; exact h1 (x + 1) (by omega) (by omega)
      · rw [if_neg c2, if_neg c3]; exact hs (x + 1) y (by omega) (by omega) hy
  · rw [if_neg c1, if_neg (by omega : ¬ y < t), if_neg (by omega : ¬ y = t)]
    by_cases c3 : x = t
    · rw [if_pos c3]; exact high y (by omega) hy
    · rw [if_neg c3]; exact hs x y (by omega) hxy hy
/-! Rotation. -/
/-- The marks of m to b come ahead of those of a to m. -/
def rotF (D : Nat → Nat) (a m b : Nat) : Nat → Nat := fun k => if k < a ∨ b ≤ k then D k else if k < a + (b - m) then D (k + (m - a)) else D (k - (b - m))
theorem rotF_SR {a m b : Nat} {D : Nat → Nat} (h1 : a ≤ m) (h2 : m ≤ b) : SR a b D (rotF D a m b) := by
  refine ⟨fun k hk => ?_, fun k k1 k2 => ?_, fun k k1 k2 => ?_⟩
  · unfold rotF; rw [if_pos (by omega)]
  · unfold rotF; rw [if_neg (by omega)]
    by_cases h : k < a + (b - m)
    · exact ⟨k + (m - a), by omega, by omega, by rw [if_pos h]⟩
    · exact ⟨k - (b - m), by omega, by omega, by rw [if_neg h]⟩
  · by_cases h : k < m
    · refine ⟨k + (b - m), by omega, by omega, ?_⟩
      unfold rotF; rw [if_neg (by omega), if_neg (by omega), show k + (b - m) - (b - m) = k by omega]
    · refine ⟨k - (m - a), by omega, by omega, ?_⟩
      unfold rotF; rw [if_neg (by omega), if_pos (by omega), show k - (m - a) + (m - a) = k by omega]
/-- Two ranges of n places, apart, change their marks. -/
def swrF (D : Nat → Nat) (a b n : Nat) : Nat → Nat := fun k => if a ≤ k ∧ k < a + n then D (k + b - a) else if b ≤ k ∧ k < b + n then D (k + a - b) else D k
theorem swrF_zero (D : Nat → Nat) (a b : Nat) : swrF D a b 0 = D := by funext k; unfold swrF; rw [if_neg (by omega), if_neg (by omega)]
theorem swrF_step (D : Nat → Nat) {a b n N : Nat} (h : a + N ≤ b) (hn : n < N) : swpF (swrF D a b n) (a + n) (b + n) = swrF D a b (n + 1) := by
  funext k; unfold swpF swrF
  by_cases h1 : k = a + n
  · subst h1
    rw [if_pos rfl, if_neg (by omega), if_neg (by omega), if_pos (by omega), show a + n + b - a = b + n by omega]
  · by_cases h2 : k = b + n
    · subst h2
      rw [if_neg (by omega), if_pos rfl, if_neg (by omega), if_neg (by omega), if_neg (by omega), if_pos (by omega), show b + n + a - b = a + n by omega]
    · rw [if_neg h1, if_neg h2]
      by_cases h3 : a ≤ k ∧ k < a + n
      · rw [if_pos h3, if_pos (by omega)]
      · by_cases h4 : b ≤ k ∧ k < b + n
        · rw [if_neg h3, if_pos h4, if_neg (by omega), if_pos (by omega)]
        · rw [if_neg h3, if_neg h4, if_neg (by omega), if_neg (by omega)]
theorem swrF_at_a (D : Nat → Nat) {a b n N : Nat} (h : a + N ≤ b) (hn : n < N) : swrF D a b n (a + n) = D (a + n) ∧ swrF D a b n (b + n) = D (b + n) := by
  unfold swrF
  exact ⟨by rw [if_neg (by omega), if_neg (by omega)], by rw [if_neg (by omega), if_neg (by omega)]⟩
theorem rot_more (D : Nat → Nat) {m i j : Nat} (hi : i ≤ m) (hj : 1 ≤ j) (h : j < i) : rotF (swrF D (m - i) m j) (m - (i - j)) m (m + j) = rotF D (m - i) m (m + j) := by
  funext k; unfold rotF swrF
  by_cases c1 : k < m - i ∨ m + j ≤ k
  · rw [if_pos (by omega), if_neg (by omega), if_neg (by omega), if_pos c1]
  · rw [if_neg c1]
    by_cases c2 : k < m - i + j
    · rw [if_pos (by omega), if_pos (by omega), if_pos (by omega)]; congr 1; omega
    · rw [if_neg (by omega : ¬ k < m - i + (m + j - m))]
      by_cases c3 : k < m - (i - j)
      · omega
      · rw [if_neg (by omega)]
        by_cases c4 : k < m - (i - j) + j
        · rw [if_pos (by omega), if_neg (by omega), if_pos (by omega)]; congr 1; omega
        · rw [if_neg (by omega), if_neg (by omega), if_neg (by omega)]
theorem rot_less (D : Nat → Nat) {m i j : Nat} (hi : i ≤ m) (hi1 : 1 ≤ i) (h : i < j) : rotF (swrF D (m - i) (m + j - i) i) (m - i) m (m + (j - i)) = rotF D (m - i) m (m + j) := by
  funext k; unfold rotF swrF
  by_cases c1 : k < m - i ∨ m + j ≤ k
  · rw [if_pos (by omega), if_neg (by omega), if_neg (by omega), if_pos c1]
  · rw [if_neg c1]
    by_cases c2 : k < m + (j - i)
    · rw [if_neg (by omega)]
      by_cases c3 : k < m - i + (j - i)
      · rw [if_pos (by omega), if_neg (by omega), if_neg (by omega), if_pos (by omega)]
      · rw [if_neg (by omega), if_pos (by omega), if_pos (by omega)]; congr 1; omega
    · rw [if_pos (by omega), if_neg (by omega), if_pos (by omega), if_neg (by omega)]; congr 1; omega
theorem rot_same (D : Nat → Nat) {m i : Nat} (hi : i ≤ m) : swrF D (m - i) m i = rotF D (m - i) m (m + i) := by
  funext k; unfold rotF swrF
  by_cases c1 : k < m - i ∨ m + i ≤ k
  · rw [if_neg (by omega), if_neg (by omega), if_pos c1]
  · rw [if_neg c1]
    by_cases c2 : k < m
    · rw [if_pos (by omega), if_pos (by omega)]; congr 1; omega
    · rw [if_neg (by omega), if_pos (by omega), if_neg (by omega)]; congr 1; omega
/-! Merging. -/
/-- What a merge has: two rows in order, and each mark of the first below each of the second. -/
structure Mrg (key : Nat → Nat) (D : Nat → Nat) (a m b : Nat) : Prop where
  lo : Srt key D a m
  hi : Srt key D m b
  lt : ∀ i j, a ≤ i → i < m → m ≤ j → j < b → D i < D j
theorem Mrg.rk {key : Nat → Nat} {D : Nat → Nat} {a m b i j : Nat} (h : Mrg key D a m b) (h1 : a ≤ i) (h2 : i < m) (h3 : m ≤ j) (h4 : j < b) : (key (D j) < key (D i) ↔ Rk key (D j) (D i)) ∧ (¬ key (D j) < key (D i) ↔ Rk key (D i) (D j)) := by
  have := h.lt i j h1 h2 h3 h4
  unfold Rk
  constructor <;> constructor <;> omega
/-- What is behind a cut: both halves are merges again, and each mark of the first half is ahead of each of the second. -/
theorem Mrg.cut {key : Nat → Nat} {D : Nat → Nat} {a m b mid s e : Nat} (h : Mrg key D a m b) (ha : a ≤ s) (hs : s ≤ m) (hsm : s ≤ mid) (hee : e + s = mid + m) (he : e ≤ b) (hm : a ≤ mid) (hb : mid ≤ b)
    (h1 : a < s → e < b → Rk key (D (s - 1)) (D (e))) (h2 : s < m → s < mid → Rk key (D (e - 1)) (D s)) :
    Mrg key (rotF D s m (e)) a s mid ∧ Mrg key (rotF D s m (e)) mid (e) b ∧
      ∀ i j, a ≤ i → i < mid → mid ≤ j → j < b → Rk key (rotF D s m (e) i) (rotF D s m (e) j) := by
  have r1 : ∀ k, k < s → rotF D s m e k = D k := fun k hk => by unfold rotF; rw [if_pos (.inl hk)]
  have r2 : ∀ k, s ≤ k → k < mid → rotF D s m e k = D (k + (m - s)) := fun k k1 k2 => by unfold rotF; rw [if_neg (by omega), if_pos (by omega)]
  have r3 : ∀ k, mid ≤ k → k < e → rotF D s m e k = D (k - (e - m)) := fun k k1 k2 => by unfold rotF; rw [if_neg (by omega), if_neg (by omega)]
  have r4 : ∀ k, e ≤ k → rotF D s m e k = D k := fun k hk => by unfold rotF; rw [if_pos (.inr hk)]
  have x1 : ∀ i j, a ≤ i → i < s → e ≤ j → j < b → Rk key (D i) (D j) := fun i j i1 i2 j1 j2 => by
    have hk := h1 (by omega) (by omega)
    have hk1 : Rk key (D i) (D e) := by
      by_cases c : i = s - 1
      · rw [c]; exact hk
      · exact (h.lo i (s - 1) i1 (by omega) (by omega)).trans hk
    by_cases c : j = e
    · rw [c]; exact hk1
    · exact hk1.trans (h.hi e j (by omega) (by omega) j2)
  have x2 : ∀ i j, m ≤ i → i < e → s ≤ j → j < m → Rk key (D i) (D j) := fun i j i1 i2 j1 j2 => by
    have hk := h2 (by omega) (by omega)
    have hk1 : Rk key (D i) (D s) := by
      by_cases c : i = e - 1
      · rw [c]; exact hk
      · exact (h.hi i (e - 1) i1 (by omega) (by omega)).trans hk
    by_cases c : j = s
    · rw [c]; exact hk1
    · exact hk1.trans (h.lo s j (by omega) (by omega) j2)
  refine ⟨⟨fun i j i1 ij j2 => ?_, fun i j i1 ij j2 => ?_, fun i j i1 i2 j1 j2 => ?_⟩, ⟨fun i j i1 ij j2 => ?_, fun i j i1 ij j2 => ?_, fun i j i1 i2 j1 j2 => ?_⟩, fun i j i1 i2 j1 j2 => ?_⟩
  · rw [r1 i (by omega), r1 j (by omega)]; exact h.lo i j i1 ij (by omega)
  · rw [r2 i i1 (by omega), r2 j (by omega) j2]; exact h.hi _ _ (by omega) (by omega) (by omega)
  · rw [r1 i i2, r2 j j1 j2]; exact h.lt _ _ i1 (by omega) (by omega) (by omega)
  · rw [r3 i i1 (by omega), r3 j (by omega) j2]; exact h.lo _ _ (by omega) (by omega) (by omega)
  · rw [r4 i i1, r4 j (by omega)]; exact h.hi i j (by omega) ij j2
  · rw [r3 i i1 i2, r4 j j1]; exact h.lt _ _ (by omega) (by omega) (by omega) j2
  · by_cases c1 : i < s
    · rw [r1 i c1]
      by_cases c2 : j < e
      · rw [r3 j j1 c2]; exact h.lo _ _ i1 (by omega) (by omega)
      · rw [r4 j (by omega)]; exact x1 i j i1 c1 (by omega) j2
    · rw [r2 i (by omega) i2]
      by_cases c2 : j < e
      · rw [r3 j j1 c2]; exact x2 _ _ (by omega) (by omega) (by omega) (by omega)
      · rw [r4 j (by omega)]; exact h.hi _ _ (by omega) (by omega) j2
/-- The halves in order, each mark of the first ahead of each of the second: the whole is in order. -/
theorem srt_join {key : Nat → Nat} {D D' : Nat → Nat} {a mid b : Nat} (hm : a ≤ mid) (hb : mid ≤ b) (h1 : SR a mid D D') (hx : ∀ i j, a ≤ i → i < mid → mid ≤ j → j < b → Rk key (D i) (D j)) (hs : Srt key D' a mid) :
    ∀ D2, SR mid b D' D2 → Srt key D2 mid b → Srt key D2 a b := fun D2 h2 hs2 i j i1 ij j2 => by
  by_cases c1 : j < mid
  · rw [h2.out i (by omega), h2.out j (by omega)]; exact hs i j i1 ij c1
  · by_cases c2 : i < mid
    · rw [h2.out i (by omega)]
      obtain ⟨i', i'1, i'2, e1⟩ := h1.fwd i i1 c2
      obtain ⟨j', j'1, j'2, e2⟩ := h2.fwd j (by omega) j2
      rw [e1, e2, h1.out j' (by omega)]
      exact hx i' j' i'1 i'2 j'1 j'2
    · exact hs2 i j (by omega) ij j2
/-- What was in order, in places that did not change, still is. -/
theorem Srt.out {key : Nat → Nat} {D D' : Nat → Nat} {a b c d : Nat} (h : Srt key D c d) (hr : SR a b D D') (hd : d ≤ a ∨ b ≤ c) : Srt key D' c d := fun i j i1 ij j2 => by
  rw [hr.out i (by omega), hr.out j (by omega)]; exact h i j i1 ij j2
end

section
open Go Go.Lib
/-- The places c to d hold the marks c to d, in order. -/
structure Good (key : Nat → Nat) (D : Nat → Nat) (c d : Nat) : Prop where
  srt : Srt key D c d
  own : ∀ k, c ≤ k → k < d → c ≤ D k ∧ D k < d
  sur : ∀ v, c ≤ v → v < d → ∃ k, c ≤ k ∧ k < d ∧ D k = v
section
variable {key : Nat → Nat} {D D' : Nat → Nat} {a b c d m n s : Nat}
theorem Good.out (h : Good key D c d) (hr : SR a b D D') (hd : d ≤ a ∨ b ≤ c) : Good key D' c d :=
  ⟨h.srt.out hr hd, fun k k1 k2 => by rw [hr.out k (by omega)]; exact h.own k k1 k2, fun v v1 v2 => by
    obtain ⟨k, k1, k2, e⟩ := h.sur v v1 v2
    exact ⟨k, k1, k2, by rw [hr.out k (by omega)]; exact e⟩⟩
theorem Good.nil (hd : d ≤ c) : Good key D c d := ⟨fun i j h1 h2 h3 => by omega, fun k k1 k2 => by omega, fun v v1 v2 => by omega⟩
theorem Good.first (hid : ∀ k, a ≤ k → k < b → D k = k) (hr : SR a b D D') (hs : Srt key D' a b) : Good key D' a b :=
  ⟨hs, fun k k1 k2 => by
    obtain ⟨k', q1, q2, e⟩ := hr.fwd k k1 k2
    rw [e, hid k' q1 q2]; exact ⟨q1, q2⟩, fun v v1 v2 => by
    obtain ⟨k', q1, q2, e⟩ := hr.bwd v v1 v2
    exact ⟨k', q1, q2, by rw [e, hid v v1 v2]⟩⟩
theorem Good.join (h1 : Good key D a m) (h2 : Good key D m b) (ham : a ≤ m) (hmb : m ≤ b) (hr : SR a b D D') (hs : Srt key D' a b) : Good key D' a b := by
  have own : ∀ k, a ≤ k → k < b → a ≤ D k ∧ D k < b := fun k k1 k2 => by
    by_cases c : k < m
    · have := h1.own k k1 c; omega
    · have := h2.own k (by omega) k2; omega
  have sur : ∀ v, a ≤ v → v < b → ∃ k, a ≤ k ∧ k < b ∧ D k = v := fun v v1 v2 => by
    by_cases c : v < m
    · obtain ⟨k, k1, k2, e⟩ := h1.sur v v1 c; exact ⟨k, k1, by omega, e⟩
    · obtain ⟨k, k1, k2, e⟩ := h2.sur v (by omega) v2; exact ⟨k, by omega, k2, e⟩
  refine ⟨hs, fun k k1 k2 => ?_, fun v v1 v2 => ?_⟩
  · obtain ⟨k', q1, q2, e⟩ := hr.fwd k k1 k2
    rw [e]; exact own k' q1 q2
  · obtain ⟨k, k1, k2, e⟩ := sur v v1 v2
    obtain ⟨k', q1, q2, e2⟩ := hr.bwd k k1 k2
    exact ⟨k', q1, q2, e2.trans e⟩
theorem Good.mrg (h1 : Good key D a m) (h2 : Good key D m b) : Mrg key D a m b :=
  ⟨h1.srt, h2.srt, fun i j i1 i2 j1 j2 => by have := h1.own i i1 i2; have := h2.own j j1 j2; omega⟩
end
/-- Blocks of s places each, from c on: the last one may be shorter. -/
inductive Run (key : Nat → Nat) (D : Nat → Nat) (s n : Nat) : Nat → Prop
  | last (c : Nat) (h1 : c ≤ n) (h2 : n ≤ c + s) (h : Good key D c n) : Run key D s n c
  | more (c : Nat) (h1 : c + s ≤ n) (h : Good key D c (c + s)) (h2 : Run key D s n (c + s)) : Run key D s n c
/-- Whole blocks of s places, up to a. -/
inductive Pre (key : Nat → Nat) (D : Nat → Nat) (s : Nat) : Nat → Prop
  | zero : Pre key D s 0
  | more (c : Nat) (h : Pre key D s c) (h2 : Good key D c (c + s)) : Pre key D s (c + s)
section
variable {key : Nat → Nat} {D D' : Nat → Nat} {a b c n s : Nat}
theorem Run.out (h : Run key D s n c) (hr : SR a b D D') (hb : b ≤ c) : Run key D' s n c := by
  induction h with
  | last c h1 h2 h => exact .last c h1 h2 (h.out hr (.inr hb))
  | more c h1 h h2 ih => exact .more c h1 (h.out hr (.inr hb)) (ih (by omega))
theorem Pre.out (h : Pre key D s c) (hr : SR a b D D') (hb : c ≤ a) : Pre key D' s c := by
  induction h with
  | zero => exact .zero
  | more c h h2 ih => exact .more c (ih (by omega)) (h2.out hr (.inl hb))
theorem Pre.run (h : Pre key D s c) (hr : Run key D s n c) (hc : c ≤ n) : Run key D s n 0 := by
  induction h with
  | zero => exact hr
  | more c h h2 ih => exact ih (.more c hc h2 hr) (by omega)
theorem Run.two (h : Run key D s n a) (hs : 0 < s) (hn : a + 2 * s ≤ n) : Good key D a (a + s) ∧ Good key D (a + s) (a + 2 * s) ∧ Run key D s n (a + 2 * s) := by
  cases h with
  | last _ h1 h2 h => omega
  | more _ h1 h h2 =>
    refine ⟨h, ?_⟩
    cases h2 with
    | last _ q1 q2 q =>
      have e : n = a + 2 * s := by omega
      rw [← e]
      exact ⟨q, .last n (Nat.le_refl _) (by omega) (Good.nil (Nat.le_refl _))⟩
    | more _ q1 q q2 =>
      rw [show a + s + s = a + 2 * s by omega] at q q2
      exact ⟨q, q2⟩
theorem Run.tail (h : Run key D s n a) (hs : 0 < s) (h1 : a + s < n) (h2 : n < a + 2 * s) : Good key D a (a + s) ∧ Good key D (a + s) n := by
  cases h with
  | last _ q1 q2 q => omega
  | more _ q1 q q2 =>
    refine ⟨q, ?_⟩
    cases q2 with
    | last _ r1 r2 r => exact r
    | more _ r1 r r2 => omega
theorem Run.end_ (h : Run key D s n a) (hs : 0 < s) (h1 : n ≤ a + s) : Good key D a n := by
  cases h with
  | last _ q1 q2 q => exact q
  | more _ q1 q q2 => rw [show n = a + s by omega]; exact q
end
end

section
open Go Go.Lib
abbrev Wh := Nat × Int
def inR (h : Int) : Int := if 1 ≤ h ∧ h ≤ 4 then h else 0
theorem inR_le (h : Int) : 0 ≤ inR h ∧ inR h ≤ 4 := by unfold inR; split <;> omega
def howL (l : List Wh) (j : Nat) : Int := match l.find? (fun p => p.1 == j) with | some p => inR p.2 | none => 0
theorem howL_le (l : List Wh) (j : Nat) : 0 ≤ howL l j ∧ howL l j ≤ 4 := by
  unfold howL; split
  · exact inR_le _
  · omega
def ofT (k h : Int) : Int := if h = 0 then 3 else if h = 1 then 1 else if h = 2 then (if k = 1 then 2 else 1) else if h = 3 then (if k = 3 then 3 else 2) else (if k = 2 then 3 else 2)
theorem ofT_le (k h : Int) : ofT k h = 1 ∨ ofT k h = 2 ∨ ofT k h = 3 := by
  unfold ofT
  repeat' split
  all_goals omega
def worst (s : List Int) : Int := if 3 ∈ s then 3 else if 1 ∈ s then 1 else 2
def best3 (s : List Int) : Int := if 2 ∈ s then 2 else if 1 ∈ s then 1 else 3
def sayJs (l : List Wh) (k : Int) (js : List Nat) : List Int := js.map fun j => ofT k (howL l j)
def sayN (alone : Bool) (l : List Wh) (n : Nd) : Int := if n.1 = 5 then (if alone = true then 2 else 1) else worst (sayJs l n.1 n.2)
def sayD (any alone : Bool) (l : List Wh) (ns : List Nd) : Int := if any = true then best3 (ns.map (sayN alone l)) else worst (ns.map (sayN alone l))
def sayB (any alone : Bool) (l : List Wh) (ns : List Nd) : Int := if okD any ns then sayD any alone l ns else 0
/-! How a job is, by the sorted row. -/
def jfL (l : List Wh) (t : Nat) : Nat := (l.getD t (0, 0)).1
def hfL (l : List Wh) (t : Nat) : Int := (l.getD t (0, 0)).2
theorem jfL_at {l : List Wh} {t : Nat} (h : t < l.length) : jfL l t = l[t].1 := by unfold jfL; rw [List.getD_eq_getElem?_getD, List.getElem?_eq_getElem h]; rfl
theorem hfL_at {l : List Wh} {t : Nat} (h : t < l.length) : hfL l t = l[t].2 := by unfold hfL; rw [List.getD_eq_getElem?_getD, List.getElem?_eq_getElem h]; rfl
theorem how_found {l : List Wh} {D : Nat → Nat} {a j : Nat} (h : Good (jfL l) D 0 l.length) (ha : a < l.length) (he : jfL l (D a) = j) (h1 : ∀ q, q < a → jfL l (D q) < j) : howL l j = inR (hfL l (D a)) := by
  have hd := (h.own a (Nat.zero_le _) ha).2
  have hf : l.find? (fun p => p.1 == j) = some l[D a] := by
    rw [List.find?_eq_some_iff_getElem]
    refine ⟨by rw [← jfL_at hd, he]; simp, D a, hd, rfl, fun i hi => ?_⟩
    obtain ⟨k, _, k2, e⟩ := h.sur i (Nat.zero_le _) (by omega)
    have hne : ¬ l[i].1 = j := by
      rw [← jfL_at (by omega), ← e]
      intro hj
      rcases Nat.lt_trichotomy k a with c | c | c
      · have := h1 k c; omega
      · subst c; omega
      · have := h.srt a k (Nat.zero_le _) c k2
        unfold Rk at this
        omega
    simp [hne]
  unfold howL
  rw [hf, hfL_at hd]
theorem how_none {l : List Wh} {D : Nat → Nat} {a j : Nat} (h : Good (jfL l) D 0 l.length) (h1 : ∀ q, q < a → jfL l (D q) < j) (h2 : ∀ q, a ≤ q → q < l.length → j < jfL l (D q)) : howL l j = 0 := by
  have hf : l.find? (fun p => p.1 == j) = none := by
    rw [List.find?_eq_none]
    intro p hp
    obtain ⟨i, hi, rfl⟩ := List.getElem_of_mem hp
    obtain ⟨k, _, k2, e⟩ := h.sur i (Nat.zero_le _) hi
    rw [← jfL_at hi, ← e]
    rcases Nat.lt_or_ge k a with c | c
    · have := h1 k c; simp; omega
    · have := h2 k c k2; simp; omega
  unfold howL
  rw [hf]
/-! The document's way: job by job, need by need. -/
def stepS (say x : Int) : Int := if x = 3 ∨ (x = 1 ∧ say ≠ 3) then x else say
theorem fold_worst : ∀ (s : List Int) (a : Int), (∀ x ∈ s, x = 1 ∨ x = 2 ∨ x = 3) → (a = 1 ∨ a = 2 ∨ a = 3) → s.foldl stepS a = if 3 ∈ s ∨ a = 3 then 3 else if 1 ∈ s ∨ a = 1 then 1 else 2
  | [], a, _, ha => by
    rcases ha with rfl | rfl | rfl <;> simp
  | x :: s, a, hs, ha => by
    have hx := hs x (List.mem_cons_self)
    have hst : stepS a x = 1 ∨ stepS a x = 2 ∨ stepS a x = 3 := by unfold stepS; split <;> assumption
    rw [List.foldl_cons, fold_worst s (stepS a x) (fun y hy => hs y (List.mem_cons_of_mem _ hy)) hst]
    unfold stepS
    rcases hx with rfl | rfl | rfl <;> rcases ha with rfl | rfl | rfl <;> simp
theorem fold_two {s : List Int} (hs : ∀ x ∈ s, x = 1 ∨ x = 2 ∨ x = 3) : s.foldl stepS 2 = worst s := by
  rw [fold_worst s 2 hs (.inr (.inl rfl))]; unfold worst; simp
theorem sayJs_le (l : List Wh) (k : Int) (js : List Nat) : ∀ x ∈ sayJs l k js, x = 1 ∨ x = 2 ∨ x = 3 := fun x hx => by
  obtain ⟨j, _, rfl⟩ := List.mem_map.1 hx
  exact ofT_le _ _
theorem worst_le {s : List Int} : worst s = 1 ∨ worst s = 2 ∨ worst s = 3 := by
  unfold worst
  repeat' split
  all_goals omega
theorem sayN_le (alone : Bool) (l : List Wh) (n : Nd) : sayN alone l n = 1 ∨ sayN alone l n = 2 ∨ sayN alone l n = 3 := by
  unfold sayN
  split
  · split <;> omega
  · exact worst_le
theorem sayD_le (any alone : Bool) (l : List Wh) (ns : List Nd) : 1 ≤ sayD any alone l ns ∧ sayD any alone l ns ≤ 3 := by
  unfold sayD
  split
  · unfold best3; repeat' split
    all_goals omega
  · have := @worst_le (ns.map (sayN alone l)); omega
end

section
open Go Go.Lib
def nd1 : List Nd := [(2, [12, 13]), (5, [])]
def nd2 : List Nd := [(1, [1]), (2, [2])]
def tx1 : Bs := [97, 102, 116, 101, 114, 111, 107, 58, 49, 50, 58, 49, 51, 44, 115, 105, 110, 103, 108, 101, 116, 111, 110]
def tx2 : Bs := [97, 102, 116, 101, 114, 58, 49, 63, 97, 102, 116, 101, 114, 111, 107, 58, 50]
def tx3 : Bs := [97, 102, 116, 101, 114, 111, 107]
theorem dec12 : Lib.decDigits 12 = [49, 50] := by rw [Lib.decDigits, dif_neg (by decide)]; rw [Lib.decDigits, dif_pos (by decide)]; rfl
theorem dec13 : Lib.decDigits 13 = [49, 51] := by rw [Lib.decDigits, dif_neg (by decide)]; rw [Lib.decDigits, dif_pos (by decide)]; rfl
theorem dec1 : Lib.decDigits 1 = [49] := by rw [Lib.decDigits, dif_pos (by decide)]; rfl
theorem dec2 : Lib.decDigits 2 = [50] := by rw [Lib.decDigits, dif_pos (by decide)]; rfl
theorem ok1 : okD false nd1 := by decide
theorem ok2 : okD true nd2 := by decide
theorem print1 : printD false nd1 = (tx1, 0) := by
  unfold printD
  rw [if_pos ok1]
  simp [nd1, joinD, needT, jobsT, dec12, dec13, tx1, kindT, sepA]
theorem print2 : printD true nd2 = (tx2, 0) := by
  unfold printD
  rw [if_pos ok2]
  simp [nd2, joinD, needT, jobsT, dec1, dec2, tx2, kindT, sepA]
theorem parse1 : parseA8 tx1 = (false, nd1, 0) := by
  have h := parse_print8 (any := false) (l := nd1) ok1 (by decide)
  have e := print1
  unfold printD at e
  rw [if_pos ok1] at e
  injection e with e _
  rw [e] at h
  exact h
theorem parse2 : parseA8 tx2 = (true, nd2, 0) := by
  have h := parse_print8 (any := true) (l := nd2) ok2 (by decide)
  have e := print2
  unfold printD at e
  rw [if_pos ok2] at e
  injection e with e _
  rw [e] at h
  exact h
theorem parse3 : parseA8 tx3 = (false, [], 60) := by
  unfold parseA8
  rw [if_neg (by decide), if_neg (by decide), needsA_none (by decide)]
  rfl
theorem say1 : sayB false true [(12, 3), (13, 2)] nd1 = 1 := by decide
theorem say2 : sayB false true [(12, 3), (13, 4)] nd1 = 3 := by decide
theorem say3 : sayB true false [(1, 2)] nd2 = 2 := by decide
end

end Go.Proofs.Ytfabjlhepadkpaa
