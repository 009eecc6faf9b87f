/-
  Layer 19: what TapePacks' law reckons, plainly.
-/
import Derived.Test.YtgohnidndjbjiaaTapeL
namespace Go.Proofs.Ytgohnidndjbjiaa
open Go Go.RowKit Go.Lib
set_option linter.unusedVariables false

theorem RdK.rdl {w : World} {K : Nat → Prop} {v : Value} {xs : List (List UInt8)} (h : RdK w K v xs) : RdL w v xs := by
  obtain ⟨vs, h1, h2, h3⟩ := h
  exact ⟨vs, h1, h2.mono fun _ _ _ => trivial, fun i u x hu hx => (h3 i u x hu hx).mono fun _ _ _ => trivial⟩
theorem appT_ok (t : TS) (r : List UInt8) (hl : t.lost = false) (ho : t.s.off = false) (hn : t.s.left < 0) (hr : ¬ t.s.room - t.s.xs.length < ((r.length + 7 : Nat) : Int)) :
    appT t r = (⟨⟨t.s.room, t.s.xs ++ putB r, t.s.xs.length + (r.length + 7), t.s.left, false⟩, t.l ++ [r], false⟩, 0) := by
  obtain ⟨⟨room, xs, sure, left, off⟩, l, lost⟩ := t
  dsimp only at *
  subst hl ho
  unfold appT
  dsimp only
  rw [addS_ok ⟨room, xs, sure, left, false⟩ (putB r) rfl (by rw [putB_len]; exact hr) hn]
  dsimp only
  rw [syncS_ok ⟨room, xs ++ putB r, sure, left, false⟩ rfl hn]
  simp [putB_len]
theorem appT_full (t : TS) (r : List UInt8) (hl : t.lost = false) (ho : t.s.off = false) (hr : t.s.room - t.s.xs.length < ((r.length + 7 : Nat) : Int)) : appT t r = (t, 5) := by
  obtain ⟨⟨room, xs, sure, left, off⟩, l, lost⟩ := t
  dsimp only at *
  subst hl ho
  unfold appT
  dsimp only
  rw [addS_full ⟨room, xs, sure, left, false⟩ (putB r) rfl (by rw [putB_len]; exact hr)]
  rfl
/-- A tape that goes on, of 60000 bytes. -/
structure GoodT (t : TS) : Prop where
  lost : t.lost = false
  off : t.s.off = false
  left : t.s.left < 0
  room : t.s.room = 60000
theorem GoodT.add {t : TS} (h : GoodT t) (r : List UInt8) : GoodT (addT t r).1 := by
  unfold addT
  rw [h.lost, if_neg (by decide)]
  by_cases h8 : 8000 < r.length
  · rw [if_pos h8]; exact h
  · rw [if_neg h8]
    by_cases hf : t.s.room - t.s.xs.length < ((r.length + 7 : Nat) : Int)
    · rw [appT_full t r h.lost h.off hf]; exact h
    · rw [appT_ok t r h.lost h.off h.left hf]; exact ⟨rfl, rfl, h.left, h.room⟩
theorem packLp_fit (lf : Int) (hlf : lf < 0) : ∀ (l p : List (List UInt8)), endL (p ++ l) ≤ 60000 → packLp ⟨⟨60000, flatB p, endL p, lf, false⟩, p, false⟩ l = (⟨⟨60000, flatB (p ++ l), endL (p ++ l), lf, false⟩, p ++ l, false⟩, 0)
  | [], p, _ => by rw [List.append_nil]; rfl
  | x :: l, p, hz => by
    have e : p ++ x :: l = (p ++ [x]) ++ l := by simp
    rw [e] at hz ⊢
    have hz2 : endL (p ++ [x]) ≤ 60000 := by rw [endL_app] at hz; omega
    rw [endL_snoc] at hz2
    rw [packLp_cons, appT_ok _ x rfl rfl hlf (by dsimp only; rw [flatB_len]; omega)]
    dsimp only
    rw [if_pos rfl, ← packLp_fit lf hlf l (p ++ [x]) hz, flatB_snoc, endL_snoc, flatB_len]
theorem pack_fit {t : TS} (h : GoodT t) (l : List (List UInt8)) (hs : longL l = false) (hz : endL l ≤ 60000) : packT t l = (⟨⟨60000, flatB l, endL l, t.s.left, false⟩, l, false⟩, 0) := by
  unfold packT
  have hc : cutS t.s 0 = (⟨60000, flatB [], endL [], t.s.left, false⟩, 0) := by
    rw [show (0 : Int) = ((0 : Nat) : Int) from rfl, cutS_ok t.s 0 h.off (Nat.zero_le _) h.left]
    obtain ⟨⟨room, xs, sure, left, off⟩, l, lost⟩ := t
    obtain ⟨e1, e2, e3, e4⟩ := h
    dsimp only at *
    subst e2 e4
    rfl
  rw [h.lost, hs, hc, if_neg (by decide), if_neg (by decide), if_pos rfl]
  have := packLp_fit t.s.left h.left l [] (by rw [List.nil_append]; exact hz)
  rw [List.nil_append] at this
  dsimp only
  rw [this]; rfl
/-- The sizes that the law counts. -/
def szL (l : List (List UInt8)) : Nat := (l.map fun x => 10 + min x.length 30000).sum
theorem szL_snoc (l : List (List UInt8)) (x : List UInt8) : szL (l ++ [x]) = szL l + (10 + min x.length 30000) := by simp [szL]
theorem szL_bd : ∀ (l : List (List UInt8)), szL l ≤ 20000 → endL l ≤ szL l ∧ 10 * l.length ≤ szL l
  | [], _ => ⟨Nat.le_refl _, Nat.le_refl _⟩
  | x :: l, h => by
    have e : szL (x :: l) = 10 + min x.length 30000 + szL l := by simp [szL]
    rw [e] at h ⊢
    obtain ⟨h1, h2⟩ := szL_bd l (by omega)
    rw [endL_cons, List.length_cons]
    exact ⟨by omega, by omega⟩
theorem szL_take {l : List (List UInt8)} {k : Nat} (hk : k < l.length) : szL (l.take (k + 1)) = szL (l.take k) + (10 + min (l[k]).length 30000) := by
  rw [List.take_succ_eq_append_getElem hk, szL_snoc]
theorem short_of {l : List (List UInt8)} (h : longL l = false) : ∀ x ∈ l, x.length ≤ 8000 := by
  intro x hx
  unfold longL at h
  rw [List.any_eq_false] at h
  have := h x hx
  simpa using this
theorem longL_snoc {l : List (List UInt8)} {k : Nat} (hk : k < l.length) : longL (l.take (k + 1)) = (longL (l.take k) || decide (8000 < (l[k]).length)) := by
  rw [List.take_succ_eq_append_getElem hk]
  unfold longL
  rw [List.any_append]; simp
end Go.Proofs.Ytgohnidndjbjiaa
