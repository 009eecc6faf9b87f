/-
  What dependencies say, plainly: needs together; while jobs go on. No program is imported.
-/
import Derived.Test.YtpobghdiecfoaaaDoorDePQS
namespace Go.Proofs.YtpobghdiecfoaaaDoor
open Go Go.Lib
set_option linter.unusedVariables false

/-! Two needs together. -/
theorem join_all (alone : Bool) (wl : List Wh) (a b : Nd) :
    sayD false alone wl [a, b] = if sayD false alone wl [a] = 3 ∨ sayD false alone wl [b] = 3 then 3 else if sayD false alone wl [a] = 1 ∨ sayD false alone wl [b] = 1 then 1 else 2 := by
  unfold sayD worst
  rcases sayN_le alone wl a with h | h | h <;> rcases sayN_le alone wl b with k | k | k <;> simp [h, k]
theorem join_any (alone : Bool) (wl : List Wh) (a b : Nd) :
    sayD true alone wl [a, b] = if sayD false alone wl [a] = 2 ∨ sayD false alone wl [b] = 2 then 2 else if sayD false alone wl [a] = 1 ∨ sayD false alone wl [b] = 1 then 1 else 3 := by
  unfold sayD worst best3
  rcases sayN_le alone wl a with h | h | h <;> rcases sayN_le alone wl b with k | k | k <;> simp [h, k]
/-! Jobs go on. -/
/-- A job goes on: from waiting to running, from running to an end. -/
def Adv (h h' : Int) : Prop := h' = h ∨ (h = 1 ∧ h' = 2) ∨ (h = 2 ∧ (h' = 3 ∨ h' = 4))
theorem ofT_adv {k h h' : Int} (a : Adv h h') : ofT k h = 1 ∨ ofT k h' = ofT k h := by
  rcases a with rfl | ⟨rfl, rfl⟩ | ⟨rfl, rfl | rfl⟩
  · exact .inr rfl
  · exact .inl (by unfold ofT; simp)
  · by_cases e : k = 1
    · subst e; exact .inr (by decide)
    · exact .inl (by unfold ofT; simp [e])
  · by_cases e : k = 1
    · subst e; exact .inr (by decide)
    · exact .inl (by unfold ofT; simp [e])
/-- Row by row: what doesn't wait stays. -/
inductive Fw : List Int → List Int → Prop
  | nil : Fw [] []
  | cons {x y : Int} {s t : List Int} (h : x = 1 ∨ y = x) (hr : Fw s t) : Fw (x :: s) (y :: t)
theorem Fw.keep {s t : List Int} (h : Fw s t) {x : Int} (hx : x ≠ 1) (hm : x ∈ s) : x ∈ t := by
  induction h with
  | nil => cases hm
  | cons h hr ih =>
    rcases List.mem_cons.1 hm with rfl | hm
    · rcases h with h | h
      · exact absurd h hx
      · rw [h]; exact List.mem_cons_self
    · exact List.mem_cons_of_mem _ (ih hm)
theorem Fw.same {s t : List Int} (h : Fw s t) (h1 : ¬ 1 ∈ s) : t = s := by
  induction h with
  | nil => rfl
  | cons h hr ih =>
    rcases h with h | h
    · exact absurd (by rw [h]; exact List.mem_cons_self) h1
    · rw [h, ih (fun e => h1 (List.mem_cons_of_mem _ e))]
theorem Fw.worst {s t : List Int} (h : Fw s t) : worst s = 1 ∨ worst t = worst s := by
  by_cases h3 : 3 ∈ s
  · have := h.keep (by decide) h3
    exact .inr (by unfold Go.Proofs.YtpobghdiecfoaaaDoor.worst; rw [if_pos h3, if_pos this])
  · by_cases h1 : 1 ∈ s
    · exact .inl (by unfold Go.Proofs.YtpobghdiecfoaaaDoor.worst; rw [if_neg h3, if_pos h1])
    · exact .inr (by rw [h.same h1])
theorem Fw.best {s t : List Int} (h : Fw s t) : best3 s = 1 ∨ best3 t = best3 s := by
  by_cases h2 : 2 ∈ s
  · have := h.keep (by decide) h2
    exact .inr (by unfold best3; rw [if_pos h2, if_pos this])
  · by_cases h1 : 1 ∈ s
    · exact .inl (by unfold best3; rw [if_neg h2, if_pos h1])
    · exact .inr (by rw [h.same h1])
/-- The same jobs, each gone on. -/
def AdvL (l m : List Wh) : Prop := ∀ j, Adv (howL l j) (howL m j)
theorem sayJs_adv {l m : List Wh} (h : AdvL l m) (k : Int) : ∀ js : List Nat, Fw (sayJs l k js) (sayJs m k js)
  | [] => .nil
  | j :: js => .cons (ofT_adv (h j)) (sayJs_adv h k js)
theorem sayN_adv {l m : List Wh} (h : AdvL l m) (alone : Bool) (n : Nd) : sayN alone l n = 1 ∨ sayN alone m n = sayN alone l n := by
  unfold sayN
  by_cases e : n.1 = 5
  · rw [if_pos e, if_pos e]; exact .inr rfl
  · rw [if_neg e, if_neg e]; exact (sayJs_adv h n.1 n.2).worst
theorem sayNs_adv {l m : List Wh} (h : AdvL l m) (alone : Bool) : ∀ ns : List Nd, Fw (ns.map (sayN alone l)) (ns.map (sayN alone m))
  | [] => .nil
  | n :: ns => .cons (sayN_adv h alone n) (sayNs_adv h alone ns)
theorem sayD_adv {l m : List Wh} (h : AdvL l m) (any alone : Bool) (ns : List Nd) : sayD any alone l ns = 1 ∨ sayD any alone m ns = sayD any alone l ns := by
  unfold sayD
  cases any with
  | true => rw [if_pos rfl, if_pos rfl]; exact (sayNs_adv h alone ns).best
  | false => rw [if_neg (by simp), if_neg (by simp)]; exact (sayNs_adv h alone ns).worst
/-- One element goes on. -/
theorem advL_set {l : List Wh} {k : Nat} (hk : k < l.length) {h' : Int} (h1 : 1 ≤ l[k].2 ∧ l[k].2 ≤ 4) (h2 : 1 ≤ h' ∧ h' ≤ 4) (ha : Adv l[k].2 h') : AdvL l (l.set k (l[k].1, h')) := by
  have key : ∀ (l : List Wh) (k : Nat) (hk : k < l.length), 1 ≤ l[k].2 ∧ l[k].2 ≤ 4 → Adv l[k].2 h' → AdvL l (l.set k (l[k].1, h')) := by
    intro l
    induction l with
    | nil => intro k hk; simp at hk
    | cons p l ih =>
      intro k hk q1 q2 j
      cases k with
      | zero =>
        simp only [List.set_cons_zero, List.getElem_cons_zero] at q1 q2 ⊢
        by_cases e : p.1 = j
        · have e1 : howL (p :: l) j = inR p.2 := by unfold howL; rw [List.find?_cons_of_pos (by simp [e])]
          have e2 : howL ((p.1, h') :: l) j = inR h' := by unfold howL; rw [List.find?_cons_of_pos (by simp [e])]
          rw [e1, e2]; unfold inR; rw [if_pos q1, if_pos h2]; exact q2
        · have e1 : howL (p :: l) j = howL l j := by unfold howL; rw [List.find?_cons_of_neg (by simp [e])]
          have e2 : howL ((p.1, h') :: l) j = howL l j := by unfold howL; rw [List.find?_cons_of_neg (by simp [e])]
          rw [e1, e2]; exact .inl rfl
      | succ k =>
        simp only [List.set_cons_succ, List.getElem_cons_succ] at q1 q2 ⊢
        have hi := ih k (by simpa using hk) q1 q2 j
        by_cases e : p.1 = j
        · have e1 : ∀ r, howL (p :: r) j = inR p.2 := fun r => by unfold howL; rw [List.find?_cons_of_pos (by simp [e])]
          rw [e1, e1]; exact .inl rfl
        · have e1 : ∀ r, howL (p :: r) j = howL r j := fun r => by unfold howL; rw [List.find?_cons_of_neg (by simp [e])]
          rw [e1, e1]; exact hi
  exact key l k hk h1 ha
/-- All have ended: nothing waits but for being alone. -/
theorem howL_end {l : List Wh} (h : ∀ p ∈ l, 3 ≤ p.2 ∧ p.2 ≤ 4) (j : Nat) : howL l j = 0 ∨ howL l j = 3 ∨ howL l j = 4 := by
  unfold howL
  cases hf : l.find? (fun p => p.1 == j) with
  | none => exact .inl rfl
  | some p =>
    have := h p (List.mem_of_find?_eq_some hf)
    dsimp only
    unfold inR; rw [if_pos (by omega)]; omega
theorem sayN_end {l : List Wh} (h : ∀ p ∈ l, 3 ≤ p.2 ∧ p.2 ≤ 4) (n : Nd) : sayN true l n ≠ 1 := by
  unfold sayN
  by_cases e : n.1 = 5
  · rw [if_pos e]; decide
  · rw [if_neg e]
    have h1 : ¬ 1 ∈ sayJs l n.1 n.2 := fun hm => by
      obtain ⟨j, _, hj⟩ := List.mem_map.1 hm
      rcases howL_end h j with e | e | e <;> rw [e] at hj <;> unfold ofT at hj <;> simp at hj <;> split at hj <;> omega
    unfold worst; rw [if_neg h1]; split <;> decide
theorem sayD_end {l : List Wh} (h : ∀ p ∈ l, 3 ≤ p.2 ∧ p.2 ≤ 4) (any : Bool) (ns : List Nd) : sayD any true l ns ≠ 1 := by
  have h1 : ¬ 1 ∈ ns.map (sayN true l) := fun hm => by
    obtain ⟨n, _, hn⟩ := List.mem_map.1 hm
    exact sayN_end h n hn
  unfold sayD best3 worst
  cases any with
  | true => rw [if_pos rfl, if_neg h1]; split <;> decide
  | false => rw [if_neg (by simp), if_neg h1]; split <;> decide
end Go.Proofs.YtpobghdiecfoaaaDoor
