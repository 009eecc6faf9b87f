/-
  Layer 17: crates one behind the other, whole and cut: plainly.
-/
import Derived.Test.YtgohnidndjbjiaaCrateR
namespace Go.Proofs.Ytgohnidndjbjiaa
open Go Go.RowKit Go.Lib
set_option linter.unusedVariables false

theorem flatB_cons (x : List UInt8) (l : List (List UInt8)) : flatB (x :: l) = putB x ++ flatB l := by simp [flatB]
theorem flatB_app (l m : List (List UInt8)) : flatB (l ++ m) = flatB l ++ flatB m := by simp [flatB]
theorem endL_cons (x : List UInt8) (l : List (List UInt8)) : endL (x :: l) = x.length + 7 + endL l := by simp [endL]
theorem rows_flat : ∀ (good : List (List UInt8)) (rest : List UInt8), (∀ x ∈ good, x.length ≤ 8000) → rowsB (flatB good ++ rest) = good ++ rowsB rest
  | [], _, _ => rfl
  | x :: l, rest, h => by
    have hx := h x List.mem_cons_self
    rw [flatB_cons, List.append_assoc, rowsB_yes (isB_put x _ hx), bodyB_put x _ hx, lenB_put x _ hx, List.drop_left' (by rw [putB_len]), rows_flat l rest (fun y hy => h y (List.mem_cons_of_mem _ hy))]
    rfl
theorem drop_flat (good : List (List UInt8)) (rest : List UInt8) : (flatB good ++ rest).drop (endL good) = rest := List.drop_left' (by rw [flatB_len])
theorem err_flat (good : List (List UInt8)) (rest : List UInt8) (h : ∀ x ∈ good, x.length ≤ 8000) (hr : isB rest = false) : rowsB (flatB good ++ rest) = good ∧ errB (flatB good ++ rest) = if noB rest = 170 then 0 else 171 := by
  have h1 : rowsB (flatB good ++ rest) = good := by rw [rows_flat good rest h, rowsB_no hr, List.append_nil]
  refine ⟨h1, ?_⟩
  unfold errB
  rw [h1, drop_flat]
theorem isB_zero (more : List UInt8) : isB (0 :: more) = false := by unfold isB; simp
theorem noB_zero (more : List UInt8) : noB (0 :: more) = 170 := by unfold noB; simp
theorem putB_getD (x : List UInt8) (m i : Nat) (h : i < m) : ((putB x).take m).getD i 0 = (putB x).getD i 0 := by
  simp only [List.getD_eq_getElem?_getD]
  rw [List.getElem?_take_of_lt h]
theorem putB_zero (x : List UInt8) : (putB x).getD 0 0 = 197 := by
  have := putB_form x []
  rw [List.append_nil] at this
  rw [this]; rfl
theorem isB_cut (x : List UInt8) (m : Nat) (hx : x.length ≤ 8000) (hm : m < x.length + 7) : isB ((putB x).take m) = false := by
  cases h : isB ((putB x).take m) with
  | false => rfl
  | true =>
    exfalso
    have h1 := isB_len h
    rw [List.length_take, putB_len] at h1
    have h2 := lenB_put x [] hx
    rw [List.append_nil] at h2
    unfold lenB at h1 h2
    rw [putB_getD x m 1 (by omega), putB_getD x m 2 (by omega), h2] at h1
    omega
theorem noB_cut (x : List UInt8) (m : Nat) (hm : m < x.length + 7) : noB ((putB x).take m) = if m = 0 then 170 else 171 := by
  unfold noB
  rcases Nat.eq_zero_or_pos m with h | h
  · subst h; rfl
  · rw [if_neg (show m ≠ 0 by omega), if_neg]
    rintro (h1 | h1)
    · rw [List.length_take, putB_len] at h1; omega
    · rw [putB_getD x m 0 h, putB_zero] at h1; cases h1
theorem rows_cut (good : List (List UInt8)) (k n : Nat) (h : ∀ x ∈ good, x.length ≤ 8000) (hn : n ≤ good.length) (h1 : endL (good.take n) ≤ k) (h2 : k ≤ endL good) (h3 : n < good.length → k < endL (good.take (n + 1))) :
    rowsB ((flatB good).take k) = good.take n ∧ errB ((flatB good).take k) = if endL (good.take n) = k then 0 else 171 := by
  have hd : flatB good = flatB (good.take n) ++ flatB (good.drop n) := by rw [← flatB_app, List.take_append_drop]
  have ht : (flatB good).take k = flatB (good.take n) ++ (flatB (good.drop n)).take (k - endL (good.take n)) := by
    rw [hd, List.take_append, flatB_len, List.take_of_length_le (by rw [flatB_len]; exact h1)]
  have hg : ∀ x ∈ good.take n, x.length ≤ 8000 := fun x hx => h x (List.mem_of_mem_take hx)
  rcases Nat.lt_or_ge n good.length with hlt | hge
  · have hc := List.drop_eq_getElem_cons hlt
    have hx : good[n].length ≤ 8000 := h _ (List.getElem_mem hlt)
    have h4 := h3 hlt
    rw [List.take_succ_eq_append_getElem hlt, endL_snoc] at h4
    have hm : k - endL (good.take n) < good[n].length + 7 := by omega
    have hr : (flatB (good.drop n)).take (k - endL (good.take n)) = (putB good[n]).take (k - endL (good.take n)) := by
      rw [hc, flatB_cons, List.take_append_of_le_length (by rw [putB_len]; omega)]
    rw [ht, hr]
    obtain ⟨e1, e2⟩ := err_flat (good.take n) _ hg (isB_cut good[n] _ hx hm)
    refine ⟨e1, ?_⟩
    rw [e2, noB_cut _ _ hm]
    by_cases he : endL (good.take n) = k
    · rw [if_pos he, if_pos (show k - endL (good.take n) = 0 by omega)]; rfl
    · rw [if_neg he, if_neg (show ¬ k - endL (good.take n) = 0 by omega)]; rfl
  · have hz : good.drop n = [] := List.drop_eq_nil_of_le hge
    have hk : endL (good.take n) = k := by rw [List.take_of_length_le hge] at *; omega
    rw [ht, hz]
    obtain ⟨e1, e2⟩ := err_flat (good.take n) (([] : List UInt8).take (k - endL (good.take n))) hg (by simp [isB_nil])
    refine ⟨e1, ?_⟩
    rw [if_pos hk]
    rw [show flatB [] = [] from rfl, e2]
    simp [noB]
end Go.Proofs.Ytgohnidndjbjiaa
