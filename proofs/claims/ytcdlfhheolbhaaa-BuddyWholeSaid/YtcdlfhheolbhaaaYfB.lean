/-
  The yard, plainly: each worker is counted once; no two free blocks are halves of one. No program is imported.
-/
import Derived.Test.YtcdlfhheolbhaaaYdR
namespace Go.Proofs.Ytcdlfhheolbhaaa
set_option linter.unusedVariables false

def hitB (b : Bk) (x : Nat) : Bool := decide (b.1 ≤ x ∧ x < b.1 + 2 ^ b.2)
def cov (L : List Bk) (x : Nat) : Nat := L.countP fun b => hitB b x
/-- One block more, the first j of its workers. -/
def covW (L : List Bk) (b : Bk) (j x : Nat) : Nat := cov L x + if b.1 ≤ x ∧ x < b.1 + j then 1 else 0
theorem covW_zero (L : List Bk) (b : Bk) : covW L b 0 = cov L := by
  funext x; unfold covW; rw [if_neg (by omega)]; rfl
theorem covW_all (L : List Bk) (b : Bk) : covW L b (2 ^ b.2) = cov (L ++ [b]) := by
  funext x; unfold covW cov; rw [List.countP_append]
  by_cases h : b.1 ≤ x ∧ x < b.1 + 2 ^ b.2
  · rw [if_pos h]; simp [hitB, h]
  · rw [if_neg h]; simp [hitB, h]
theorem covW_succ (L : List Bk) (b : Bk) (j : Nat) : covW L b (j + 1) = fun x => if x = b.1 + j then covW L b j x + 1 else covW L b j x := by
  funext x; unfold covW
  by_cases h : x = b.1 + j
  · rw [if_pos h, if_pos (by omega), if_neg (by omega)]
  · rw [if_neg h]
    by_cases h2 : b.1 ≤ x ∧ x < b.1 + j
    · rw [if_pos h2, if_pos (by omega)]
    · rw [if_neg h2, if_neg (by omega)]
theorem cov_le (L : List Bk) (x : Nat) : cov L x ≤ L.length := List.countP_le_length
theorem covW_le (L : List Bk) (b : Bk) (j x : Nat) : covW L b j x ≤ L.length + 1 := by
  have := cov_le L x
  unfold covW; split <;> omega
/-- The failed ones that no block holds. -/
def covF (L tk : List Bk) (fl : List Nat) (x : Nat) : Nat := cov L x + (fl.filter fun y => !heldB tk y).count x
theorem covF_zero (L tk : List Bk) : covF L tk [] = cov L := by funext x; unfold covF; simp
theorem covF_held (L tk : List Bk) (fl : List Nat) (y : Nat) (h : heldB tk y = true) : covF L tk (fl ++ [y]) = covF L tk fl := by
  funext x; unfold covF; rw [List.filter_append]; simp [h]
theorem covF_free (L tk : List Bk) (fl : List Nat) (y : Nat) (h : heldB tk y = false) : covF L tk (fl ++ [y]) = fun x => if x = y then covF L tk fl x + 1 else covF L tk fl x := by
  funext x; unfold covF
  rw [List.filter_append, List.count_append]
  have e : List.filter (fun y => !heldB tk y) [y] = [y] := by simp [h]
  rw [e]
  by_cases hx : x = y
  · rw [if_pos hx, hx]; simp; omega
  · have e0 : [y].count x = 0 := List.count_eq_zero.2 (by simpa using hx)
    rw [if_neg hx, e0]; omega
theorem covF_le (L tk : List Bk) (fl : List Nat) (x : Nat) : covF L tk fl x ≤ L.length + fl.length := by
  have h1 := cov_le L x
  have h2 : (fl.filter fun y => !heldB tk y).count x ≤ fl.length := Nat.le_trans List.count_le_length (List.length_filter_le _ _)
  unfold covF; omega
theorem count_one {α : Type} {p : α → Bool} : ∀ {L : List α}, L.Pairwise (fun a b => ¬ (p a = true ∧ p b = true)) → ∀ {a : α}, a ∈ L → p a = true → L.countP p = 1
  | b :: r, h, a, ha, hp => by
    rw [List.pairwise_cons] at h
    rcases List.mem_cons.1 ha with rfl | hr
    · rw [List.countP_cons_of_pos hp, List.countP_eq_zero.2 fun c hc hpc => h.1 c hc ⟨hp, hpc⟩]
    · have hb : ¬ p b = true := fun e => h.1 a hr ⟨e, hp⟩
      rw [List.countP_cons_of_neg hb, count_one h.2 hr hp]
theorem hit_in {b : Bk} {x : Nat} : hitB b x = true ↔ inB b.2 b.1 x := by unfold hitB inB; simp
theorem cov_none {L : List Bk} {x : Nat} (h : ∀ b ∈ L, ¬ inB b.2 b.1 x) : cov L x = 0 := List.countP_eq_zero.2 fun b hb e => h b hb (hit_in.1 e)
theorem cov_once {n : Nat} {tk : List Bk} {fl : List Nat} (h : OkY n tk fl) {x : Nat} (hx : x < 2 ^ n) : covF (freeL n (opn n tk fl) ++ tk) tk fl x = 1 := by
  have e : cov (freeL n (opn n tk fl) ++ tk) x = cov (freeL n (opn n tk fl)) x + cov tk x := by unfold cov; rw [List.countP_append]
  unfold covF
  rw [e]
  have hfree : opn n tk fl x = false → cov (freeL n (opn n tk fl)) x = 0 := fun ho => cov_none fun b hb hin => by
    have := (freeL_mem.1 hb).2.2.2.1 x hin
    rw [ho] at this; cases this
  cases hh : heldB tk x
  · have h1 : cov tk x = 0 := cov_none fun b hb hin => by
      rw [heldB_iff.2 ⟨b, hb, hin⟩] at hh; cases hh
    by_cases hf : x ∈ fl
    · have h2 : opn n tk fl x = false := by
        cases ho : opn n tk fl x
        · rfl
        · exact absurd hf (opn_iff.1 ho).2.2
      have h3 : (fl.filter fun y => !heldB tk y).count x = 1 := by
        have hnd : (fl.filter fun y => !heldB tk y).Nodup := (h.fs.imp fun {a b} hab => Nat.ne_of_lt hab).sublist List.filter_sublist
        have hm : x ∈ fl.filter fun y => !heldB tk y := List.mem_filter.2 ⟨hf, by simp [hh]⟩
        exact hnd.count.trans (if_pos hm)
      rw [hfree h2, h1, h3]
    · have h2 : opn n tk fl x = true := opn_iff.2 ⟨hx, hh, hf⟩
      obtain ⟨o, s, hF, hin⟩ := isF_some hx h2
      have h3 : cov (freeL n (opn n tk fl)) x = 1 := by
        refine count_one (a := (s, o)) (List.Pairwise.imp_of_mem (fun {a b} ha hb hab hc => ?_) (freeL_inc n (opn n tk fl))) (freeL_mem.2 hF) (hit_in.2 hin)
        have := isF_apart (freeL_mem.1 ha) (freeL_mem.1 hb) (hit_in.1 hc.1) (hit_in.1 hc.2)
        omega
      have h4 : (fl.filter fun y => !heldB tk y).count x = 0 := List.count_eq_zero.2 fun hm => hf (List.mem_filter.1 hm).1
      rw [h3, h1, h4]
  · have h2 : opn n tk fl x = false := by
      cases ho : opn n tk fl x
      · rfl
      · have := (opn_iff.1 ho).2.1
        rw [hh] at this; cases this
    have h3 : cov tk x = 1 := by
      obtain ⟨b, hb, hin⟩ := heldB_iff.1 hh
      refine count_one (a := b) (h.srt.imp fun {a c} hac hc => ?_) hb (hit_in.2 hin)
      have h4 := hit_in.1 hc.1
      have h5 := hit_in.1 hc.2
      unfold inB at h4 h5; omega
    have h4 : (fl.filter fun y => !heldB tk y).count x = 0 := List.count_eq_zero.2 fun hm => by
      have := (List.mem_filter.1 hm).2
      rw [hh] at this; simp at this
    rw [hfree h2, h3, h4]
theorem not_buds {n : Nat} {op : Opn} {o s s' : Nat} (h : isF n op o s) (h' : isF n op o s') : s' ≠ bud o s := fun e => by
  obtain ⟨a1, a2, a3, a4, a5⟩ := h
  obtain ⟨b1, b2, b3, b4, b5⟩ := h'
  rcases Nat.lt_or_ge o n with hlt | hge
  · refine a5 hlt fun y hy => ?_
    rcases (up_split a2 y).1 hy with h1 | h1
    · exact a4 y h1
    · exact b4 y (by rw [e]; exact h1)
  · obtain rfl : o = n := by omega
    have h0 : s = 0 := by have := two_pos o; omega
    have h1 : s' = 0 := by have := two_pos o; omega
    exact bud_ne a2 (by rw [← e, h0, h1])
end Go.Proofs.Ytcdlfhheolbhaaa
