/-
  gangerref00.SameInts: at any numbers; what a play of acts comes to is one.
-/
import Derived.Test.YtcdlfhheolbhaaaYeR
namespace Go.Proofs.Ytcdlfhheolbhaaa
open Go Go.RowKit Go.Lib
set_option linter.unusedVariables false

theorem TakeAtR.det {n : Nat} {tk tk1 tk2 : List Bk} {fl : List Nat} {S O e1 e2 : Int} (h1 : TakeAtR n tk fl S O e1 tk1) (h2 : TakeAtR n tk fl S O e2 tk2) : e1 = e2 ∧ tk1 = tk2 := by
  have lt : ∀ {s o : Nat}, o ≤ n → s + 2 ^ o ≤ 2 ^ n → s < 2 ^ n := fun {s o} _ h => by have := two_pos o; omega
  cases h1 with
  | arg h =>
    cases h2 with
    | arg _ => exact ⟨rfl, rfl⟩
    | full s o hs ho h1 h2 h3 _ => exact absurd ⟨s, o, hs, ho, h1, lt h1 h3, h2⟩ h
    | ok s o hs ho h1 h2 h3 _ => exact absurd ⟨s, o, hs, ho, h1, lt h1 h3, h2⟩ h
  | full s o hs ho h1 h2' h3 hn =>
    cases h2 with
    | arg h => exact absurd ⟨s, o, hs, ho, h1, lt h1 h3, h2'⟩ h
    | full _ _ _ _ _ _ _ _ => exact ⟨rfl, rfl⟩
    | ok s' o' hs' ho' _ _ _ hy =>
      have e1 : s' = s := by omega
      have e2 : o' = o := by omega
      subst e1; subst e2; exact absurd hy hn
  | ok s o hs ho h1 h2' h3 hy =>
    cases h2 with
    | arg h => exact absurd ⟨s, o, hs, ho, h1, lt h1 h3, h2'⟩ h
    | full s' o' hs' ho' _ _ _ hn =>
      have e1 : s' = s := by omega
      have e2 : o' = o := by omega
      subst e1; subst e2; exact absurd hy hn
    | ok s' o' hs' ho' _ _ _ _ =>
      have e1 : s' = s := by omega
      have e2 : o' = o := by omega
      subst e1; subst e2; exact ⟨rfl, rfl⟩
theorem GiveR.det {tk tk1 tk2 : List Bk} {q e1 e2 : Int} (h1 : GiveR tk q e1 tk1) (h2 : GiveR tk q e2 tk2) : e1 = e2 ∧ tk1 = tk2 := by
  have ht : tk1 = tk2 := by rw [h1.giveT, h2.giveT]
  refine ⟨?_, ht⟩
  cases h1 with
  | none h =>
    cases h2 with
    | none _ => rfl
    | ok b hb hq => exact absurd hq (h b hb)
  | ok b hb hq =>
    cases h2 with
    | none h => exact absurd hq (h b hb)
    | ok _ _ _ => rfl
theorem FailR.det {n : Nat} {fl f1 f2 : List Nat} {q e1 e2 : Int} (h1 : FailR n fl q e1 f1) (h2 : FailR n fl q e2 f2) : e1 = e2 ∧ f1 = f2 := by
  cases h1 with
  | arg h =>
    cases h2 with
    | arg _ => exact ⟨rfl, rfl⟩
    | twice x hq hx _ => exact absurd ⟨by omega, by omega⟩ h
    | ok x hq hx _ => exact absurd ⟨by omega, by omega⟩ h
  | twice x hq hx hm =>
    cases h2 with
    | arg h => exact absurd ⟨by omega, by omega⟩ h
    | twice _ _ _ _ => exact ⟨rfl, rfl⟩
    | ok y hq' _ hn =>
      have e : y = x := by omega
      subst e; exact absurd hm hn
  | ok x hq hx hn =>
    cases h2 with
    | arg h => exact absurd ⟨by omega, by omega⟩ h
    | twice y hq' _ hm =>
      have e : y = x := by omega
      subst e; exact absurd hm hn
    | ok y hq' _ _ =>
      have e : y = x := by omega
      subst e; exact ⟨rfl, rfl⟩
theorem HealR.det {n : Nat} {fl f1 f2 : List Nat} {q e1 e2 : Int} (h1 : HealR n fl q e1 f1) (h2 : HealR n fl q e2 f2) : e1 = e2 ∧ f1 = f2 := by
  cases h1 with
  | arg h =>
    cases h2 with
    | arg _ => exact ⟨rfl, rfl⟩
    | none x hq hx _ => exact absurd ⟨by omega, by omega⟩ h
    | ok x hq hx _ => exact absurd ⟨by omega, by omega⟩ h
  | none x hq hx hn =>
    cases h2 with
    | arg h => exact absurd ⟨by omega, by omega⟩ h
    | none _ _ _ _ => exact ⟨rfl, rfl⟩
    | ok y hq' _ hm =>
      have e : y = x := by omega
      subst e; exact absurd hm hn
  | ok x hq hx hm =>
    cases h2 with
    | arg h => exact absurd ⟨by omega, by omega⟩ h
    | none y hq' _ hn =>
      have e : y = x := by omega
      subst e; exact absurd hm hn
    | ok y hq' _ _ =>
      have e : y = x := by omega
      subst e; exact ⟨rfl, rfl⟩
theorem ActR.det {n : Nat} {tk t1 t2 : List Bk} {fl f1 f2 : List Nat} {x : Ac} {r1 e1 r2 e2 : Int} (h1 : ActR n tk fl x r1 e1 t1 f1) (h2 : ActR n tk fl x r2 e2 t2 f2) : r1 = r2 ∧ e1 = e2 ∧ t1 = t2 ∧ f1 = f2 := by
  cases h1 with
  | take hk h =>
    cases h2 with
    | take _ h' => obtain ⟨a, b, c⟩ := h.det h'; exact ⟨a, b, c, rfl⟩
    | takeAt hk' _ => omega
    | give hk' _ => omega
    | fail hk' _ => omega
    | heal hk' _ => omega
  | takeAt hk h =>
    cases h2 with
    | take hk' _ => omega
    | takeAt _ h' => obtain ⟨a, b⟩ := h.det h'; exact ⟨rfl, a, b, rfl⟩
    | give hk' _ => omega
    | fail hk' _ => omega
    | heal hk' _ => omega
  | give hk h =>
    cases h2 with
    | take hk' _ => omega
    | takeAt hk' _ => omega
    | give _ h' => obtain ⟨a, b⟩ := h.det h'; exact ⟨rfl, a, b, rfl⟩
    | fail hk' _ => omega
    | heal hk' _ => omega
  | fail hk h =>
    cases h2 with
    | take hk' _ => omega
    | takeAt hk' _ => omega
    | give hk' _ => omega
    | fail _ h' => obtain ⟨a, b⟩ := h.det h'; exact ⟨rfl, a, rfl, b⟩
    | heal hk' _ => omega
  | heal hk h =>
    cases h2 with
    | take hk' _ => omega
    | takeAt hk' _ => omega
    | give hk' _ => omega
    | fail hk' _ => omega
    | heal _ h' => obtain ⟨a, b⟩ := h.det h'; exact ⟨rfl, a, rfl, b⟩
theorem ActsR.det {n : Nat} : ∀ {l l' : List Ac} {t1 t2 : List Bk} {f1 f2 : List Nat}, ActsR n l t1 f1 → ActsR n l' t2 f2 → l = l' → t1 = t2 ∧ f1 = f2 := by
  intro l l' t1 t2 f1 f2 h1
  induction h1 generalizing l' t2 f2 with
  | nil =>
    intro h2 e
    cases h2 with
    | nil => exact ⟨rfl, rfl⟩
    | snoc h hx => simp at e
  | snoc h hx ih =>
    intro h2 e
    cases h2 with
    | nil => simp at e
    | snoc h' hx' =>
      obtain ⟨e1, e2⟩ := List.append_inj' e rfl
      obtain ⟨a, b⟩ := ih h' e1
      subst a; subst b
      simp at e2; subst e2
      obtain ⟨_, _, c, d⟩ := hx.det hx'
      exact ⟨c, d⟩
end Go.Proofs.Ytcdlfhheolbhaaa
