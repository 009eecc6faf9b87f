/-
  Charges, plainly: what an account has used, later, and with one more charge; one more charge's seconds, runs, total.
-/
import Derived.Test.YtlafjjdponeeeaaDoorBkT
import Derived.Test.YtlafjjdponeeeaaDoorDecM0
namespace Go.Proofs.YtlafjjdponeeeaaDoor
open Go Go.RowKit Go.Lib
set_option linter.unusedVariables false

theorem endV_mono {a b : Int} (h : a ≤ b) : endV a ≤ endV b := by
  unfold endV; repeat' split
  all_goals omega
theorem endV_up {a : Int} (h : 0 ≤ a) : endV a ≤ a ∧ 0 ≤ endV a := by
  unfold endV; repeat' split
  all_goals omega
theorem book_cons {cs : List Chg} {c : Chg} (h : bookB cs = true) (hc : c ∈ cs) : okCh c = true := (book_mem h).2 c hc
/-- What is used counts for no more than all that was charged. -/
theorem usG_le (acct : ByteArray) (h : Nat) (h1 : 1 ≤ h) : ∀ (cs : List Chg) (N A : Nat) (T : Int), (∀ c ∈ cs, okCh c = true) → (N : Int) ≤ T → N ≤ 9223372036854775807 → ((usG acct h cs N A).1 : Int) ≤ totG acct cs T ∧ (usG acct h cs N A).1 ≤ 9223372036854775807
  | [], N, A, T, _, hN, hM => ⟨hN, hM⟩
  | c :: r, N, A, T, hok, hN, hM => by
    unfold usG totG
    have hr : ∀ d ∈ r, okCh d = true := fun d hd => hok d (List.mem_cons_of_mem _ hd)
    by_cases ha : c.acct = acct
    · rw [if_pos ha, if_pos ha]
      obtain ⟨hc, hcm⟩ := ok_cost (hok c List.mem_cons_self)
      have h0 : (0 : Int) ≤ (aftN N (c.ax.toNat - A) h : Nat) + (costN c : Int) := by omega
      obtain ⟨q1, q2⟩ := endV_nn h0
      have hle : aftN N (c.ax.toNat - A) h ≤ N := by
        have := aftN_anti (n := N) (t := 0) (t' := c.ax.toNat - A) h1 (Nat.zero_le _)
        rwa [aftN_zero] at this
      refine usG_le acct h h1 r _ _ _ hr ?_ (by omega)
      rw [Int.toNat_of_nonneg q1, hc]
      exact endV_mono (by omega)
    · rw [if_neg ha, if_neg ha]
      exact usG_le acct h h1 r N A T hr hN hM
theorem usG_none (acct : ByteArray) (h : Nat) : ∀ (cs : List Chg) (N A : Nat), (∀ c ∈ cs, c.acct ≠ acct) → usG acct h cs N A = (N, A)
  | [], N, A, _ => rfl
  | c :: r, N, A, hn => by
    unfold usG
    rw [if_neg (hn c List.mem_cons_self)]
    exact usG_none acct h r N A fun d hd => hn d (List.mem_cons_of_mem _ hd)
theorem usG_app (acct : ByteArray) (h : Nat) (c : Chg) : ∀ (cs : List Chg) (N A : Nat), usG acct h (cs ++ [c]) N A = if c.acct = acct then ((endV (((aftN (usG acct h cs N A).1 (c.ax.toNat - (usG acct h cs N A).2) h : Nat) : Int) + (costN c : Int))).toNat, c.ax.toNat) else usG acct h cs N A
  | [], N, A => by
    show usG acct h [c] N A = _
    unfold usG
    by_cases ha : c.acct = acct
    · rw [if_pos ha, if_pos ha]; rfl
    · rw [if_neg ha, if_neg ha]; rfl
  | d :: r, N, A => by
    rw [List.cons_append]
    unfold usG
    by_cases ha : d.acct = acct
    · rw [if_pos ha, if_pos ha, usG_app acct h c r]
    · rw [if_neg ha, if_neg ha, usG_app acct h c r]
theorem usCh_ok {cs : List Chg} {acct : ByteArray} {now half : Int} (h : (usCh cs acct now half).2 = 0) :
    bookB cs = true ∧ lastAx cs ≤ now ∧ 0 ≤ now ∧ now ≤ 1099511627776 ∧ halfOk half ∧ (usCh cs acct now half).1 = endV (((aftN (usG acct half.toNat cs 0 0).1 (now.toNat - (usG acct half.toNat cs 0 0).2) half.toNat : Nat) : Int) + (0 : Int)) := by
  unfold usCh at h ⊢
  cases hB : bookB cs
  · rw [hB, if_neg (by decide)] at h; cases h
  · rw [hB, if_pos rfl] at h
    rw [if_pos rfl]
    by_cases hq : now < lastAx cs ∨ now < 0 ∨ 1099511627776 < now ∨ ¬ halfOk half
    · rw [if_pos hq] at h; cases h
    · rw [if_neg hq]
      refine ⟨rfl, ?_, ?_, ?_, ?_, rfl⟩
      · exact Int.not_lt.1 fun q => hq (.inl q)
      · exact Int.not_lt.1 fun q => hq (.inr (.inl q))
      · exact Int.not_lt.1 fun q => hq (.inr (.inr (.inl q)))
      · exact Classical.not_not.1 fun q => hq (.inr (.inr (.inr q)))
theorem usCh_bad {cs : List Chg} {acct : ByteArray} {now half : Int} (h : (usCh cs acct now half).2 ≠ 0) : (usCh cs acct now half).1 = 0 := by
  unfold usCh at h ⊢
  cases hB : bookB cs
  · rfl
  · rw [hB, if_pos rfl] at h
    rw [if_pos rfl]
    by_cases hq : now < lastAx cs ∨ now < 0 ∨ 1099511627776 < now ∨ ¬ halfOk half
    · rw [if_pos hq]
    · rw [if_neg hq] at h; exact absurd rfl h
theorem usCh_eq {cs : List Chg} {acct : ByteArray} {now half : Int} (hB : bookB cs = true) (h1 : lastAx cs ≤ now) (h2 : 0 ≤ now) (h3 : now ≤ 1099511627776) (h4 : halfOk half) :
    usCh cs acct now half = (endV (((aftN (usG acct half.toNat cs 0 0).1 (now.toNat - (usG acct half.toNat cs 0 0).2) half.toNat : Nat) : Int) + (0 : Int)), 0) := by
  unfold usCh
  rw [if_pos hB, if_neg]
  rintro (q | q | q | q)
  · omega
  · omega
  · omega
  · exact q h4
/-- What counts now is some number, no less than nought, at most the total. -/
theorem usCh_bd {cs : List Chg} {acct : ByteArray} {now half : Int} (h : (usCh cs acct now half).2 = 0) : 0 ≤ (usCh cs acct now half).1 ∧ (usCh cs acct now half).1 ≤ totCh cs acct := by
  obtain ⟨hB, _, _, _, hh, he⟩ := usCh_ok h
  rw [he]
  have h1 : 1 ≤ half.toNat := by have := hh.1; omega
  obtain ⟨q1, q2⟩ := usG_le acct half.toNat h1 cs 0 0 0 (book_mem hB).2 (Int.le_refl _) (Nat.zero_le _)
  have hle : aftN (usG acct half.toNat cs 0 0).1 (now.toNat - (usG acct half.toNat cs 0 0).2) half.toNat ≤ (usG acct half.toNat cs 0 0).1 := by
    have := aftN_anti (n := (usG acct half.toNat cs 0 0).1) (t := 0) (t' := now.toNat - (usG acct half.toNat cs 0 0).2) h1 (Nat.zero_le _)
    rwa [aftN_zero] at this
  have ht : totCh cs acct = totG acct cs 0 := by unfold totCh; rw [if_pos hB]
  rw [ht]
  obtain ⟨r1, r2⟩ := endV_up (a := ((aftN (usG acct half.toNat cs 0 0).1 (now.toNat - (usG acct half.toNat cs 0 0).2) half.toNat : Nat) : Int) + (0 : Int)) (by omega)
  exact ⟨r2, by omega⟩
/-- Later it counts for no more. -/
theorem usCh_later {cs : List Chg} {acct : ByteArray} {now half later : Int} (h : (usCh cs acct now half).2 = 0) (hl : 0 ≤ later) (h' : (usCh cs acct (now + later) half).2 = 0) : (usCh cs acct (now + later) half).1 ≤ (usCh cs acct now half).1 := by
  obtain ⟨_, _, h0, _, hh, he⟩ := usCh_ok h
  obtain ⟨_, _, _, _, _, he'⟩ := usCh_ok h'
  rw [he, he']
  have h1 : 1 ≤ half.toNat := by have := hh.1; omega
  have := aftN_anti (n := (usG acct half.toNat cs 0 0).1) (t := now.toNat - (usG acct half.toNat cs 0 0).2) (t' := (now + later).toNat - (usG acct half.toNat cs 0 0).2) h1 (by omega)
  exact endV_mono (by omega)
/-- A charge more counts for no less. -/
theorem usCh_more {cs : List Chg} {acct : ByteArray} {now half : Int} {c : Chg} (hc : c.ax = now) (h : (usCh cs acct now half).2 = 0) (h' : (usCh (cs ++ [c]) acct now half).2 = 0) : (usCh cs acct now half).1 ≤ (usCh (cs ++ [c]) acct now half).1 := by
  obtain ⟨_, _, h0, _, hh, he⟩ := usCh_ok h
  obtain ⟨hB', _, _, _, _, he'⟩ := usCh_ok h'
  rw [he, he', usG_app]
  have h1 : 1 ≤ half.toNat := by have := hh.1; omega
  by_cases ha : c.acct = acct
  · rw [if_pos ha]
    dsimp only
    have hk : okCh c = true := (book_mem hB').2 c (by simp)
    have hq : (0 : Int) ≤ (aftN (usG acct half.toNat cs 0 0).1 (c.ax.toNat - (usG acct half.toNat cs 0 0).2) half.toNat : Nat) + (costN c : Int) := by omega
    obtain ⟨q1, q2⟩ := endV_nn hq
    rw [hc] at q1 q2 ⊢
    rw [Nat.sub_self, aftN_zero, Int.toNat_of_nonneg q1, Int.add_zero]
    have e2 : ∀ z : Int, endV (endV z) = endV z := fun z => endV_in (endV_I64 z)
    rw [Int.add_zero, e2]
    exact endV_mono (by omega)
  · rw [if_neg ha]; exact Int.le_refl _
theorem name_empty : nameB ⟨#[]⟩ = false := by decide +kernel
/-- Of an account without charges it is nothing. -/
theorem usCh_none {cs : List Chg} {acct : ByteArray} {now half : Int} (h : (usCh cs acct now half).2 = 0) : usCh cs ⟨#[]⟩ now half = (0, 0) := by
  obtain ⟨hB, h1, h2, h3, hh, _⟩ := usCh_ok h
  rw [usCh_eq hB h1 h2 h3 hh, usG_none ⟨#[]⟩ half.toNat cs 0 0]
  · have e : aftN 0 (now.toNat - 0) half.toNat = 0 := by
      have h1 : 1 ≤ half.toNat := by have := hh.1; omega
      have := aftN_anti (n := 0) (t := 0) (t' := now.toNat - 0) h1 (Nat.zero_le _)
      rw [aftN_zero] at this
      omega
    dsimp only
    rw [e]; rfl
  · intro c hc he
    have := (ok_parts ((book_mem hB).2 c hc)).2.2.2.2.2
    rw [he, name_empty] at this
    cases this

/-! One more charge. -/
theorem totG_app (acct : ByteArray) (c : Chg) : ∀ (cs : List Chg) (t : Int), totG acct (cs ++ [c]) t = if c.acct = acct then endV (totG acct cs t + endV (c.wk * c.sc)) else totG acct cs t
  | [], t => by
    show totG acct [c] t = _
    unfold totG
    by_cases ha : c.acct = acct
    · simp only [if_pos ha]; rfl
    · simp only [if_neg ha]; rfl
  | d :: r, t => by
    rw [List.cons_append]
    unfold totG
    exact totG_app acct c r _
theorem ofG_app (id : Int) (c : Chg) : ∀ (cs : List Chg) (s : Int) (n : Nat), ofG id (cs ++ [c]) s n = if c.id = id then ((ofG id cs s n).1 + c.sc, (ofG id cs s n).2 + 1) else ofG id cs s n
  | [], s, n => by
    show ofG id [c] s n = _
    unfold ofG
    by_cases ha : c.id = id
    · rw [if_pos ha, if_pos ha]; rfl
    · rw [if_neg ha, if_neg ha]; rfl
  | d :: r, s, n => by
    rw [List.cons_append]
    unfold ofG
    by_cases ha : d.id = id
    · rw [if_pos ha, if_pos ha]; exact ofG_app id c r _ _
    · rw [if_neg ha, if_neg ha]; exact ofG_app id c r _ _
/-- One charge, in workers' seconds. -/
theorem cost_bd {c : Chg} (h : okCh c = true) : 0 ≤ c.wk * c.sc ∧ c.wk * c.sc ≤ 1099511627776 := by
  obtain ⟨_, h1, h2, _⟩ := ok_nums h
  refine ⟨Int.mul_nonneg (by omega) h2.1, ?_⟩
  have := Int.mul_le_mul h1.2 h2.2 h2.1 (by omega : (0 : Int) ≤ 1024)
  omega
theorem cost_end {c : Chg} (h : okCh c = true) : endV (c.wk * c.sc) = c.wk * c.sc := by
  have := cost_bd h
  exact endV_in (by unfold I64; omega)
/-- What an account's charges come to. -/
def sumG (acct : ByteArray) : List Chg → Int
  | [] => 0
  | c :: r => (if c.acct = acct then c.wk * c.sc else 0) + sumG acct r
theorem sumG_bd (acct : ByteArray) : ∀ (cs : List Chg), (∀ c ∈ cs, okCh c = true) → 0 ≤ sumG acct cs ∧ sumG acct cs ≤ 1099511627776 * cs.length
  | [], _ => by unfold sumG; exact ⟨Int.le_refl _, by simp⟩
  | c :: r, h => by
    obtain ⟨h1, h2⟩ := sumG_bd acct r fun d hd => h d (List.mem_cons_of_mem _ hd)
    have hc := cost_bd (h c List.mem_cons_self)
    have e : ((c :: r).length : Int) = (r.length : Int) + 1 := by simp
    unfold sumG
    rw [e]
    split <;> omega
theorem totG_sum (acct : ByteArray) : ∀ (cs : List Chg) (t : Int), (∀ c ∈ cs, okCh c = true) → 0 ≤ t → t + 1099511627776 * cs.length ≤ 9223372036854775807 → totG acct cs t = t + sumG acct cs
  | [], t, _, _, _ => by unfold totG sumG; omega
  | c :: r, t, h, h0, hb => by
    have hc := cost_bd (h c List.mem_cons_self)
    have e : ((c :: r).length : Int) = (r.length : Int) + 1 := by simp
    rw [e] at hb
    have hr : ∀ d ∈ r, okCh d = true := fun d hd => h d (List.mem_cons_of_mem _ hd)
    unfold totG sumG
    by_cases ha : c.acct = acct
    · rw [if_pos ha, if_pos ha, cost_end (h c List.mem_cons_self), endV_in (by unfold I64; omega), totG_sum acct r _ hr (by omega) (by omega)]
      omega
    · rw [if_neg ha, if_neg ha, totG_sum acct r _ hr h0 (by omega)]
      omega
theorem totCh_sum {cs : List Chg} (acct : ByteArray) (h : bookB cs = true) : totCh cs acct = sumG acct cs := by
  unfold totCh
  rw [if_pos h, totG_sum acct cs 0 (book_mem h).2 (Int.le_refl _) (by have := (book_mem h).1; omega)]
  omega
theorem sumG_app (acct : ByteArray) (c : Chg) : ∀ cs : List Chg, sumG acct (cs ++ [c]) = sumG acct cs + (if c.acct = acct then c.wk * c.sc else 0)
  | [] => by show sumG acct [c] = _; unfold sumG; show _ + sumG acct [] = sumG acct [] + _; unfold sumG; omega
  | d :: r => by
    rw [List.cons_append]
    unfold sumG
    rw [sumG_app acct c r]; omega
theorem ofG_bd (id : Int) : ∀ (cs : List Chg) (s : Int) (n : Nat), (∀ c ∈ cs, okCh c = true) → 0 ≤ s → 0 ≤ (ofG id cs s n).1 ∧ (ofG id cs s n).1 ≤ s + 1073741824 * cs.length ∧ (ofG id cs s n).2 ≤ n + cs.length
  | [], s, n, _, h0 => ⟨h0, by unfold ofG; simp, Nat.le_refl _⟩
  | c :: r, s, n, h, h0 => by
    have hc := (ok_nums (h c List.mem_cons_self)).2.2.1
    have e : ((c :: r).length : Int) = (r.length : Int) + 1 := by simp
    have e2 : (c :: r).length = r.length + 1 := by simp
    have hr : ∀ d ∈ r, okCh d = true := fun d hd => h d (List.mem_cons_of_mem _ hd)
    unfold ofG
    by_cases ha : c.id = id
    · rw [if_pos ha]
      obtain ⟨q1, q2, q3⟩ := ofG_bd id r (s + c.sc) (n + 1) hr (by omega)
      exact ⟨q1, by omega, by omega⟩
    · rw [if_neg ha]
      obtain ⟨q1, q2, q3⟩ := ofG_bd id r s n hr h0
      exact ⟨q1, by omega, by omega⟩
theorem jobs_total {cs : List Chg} {c : Chg} (acct : ByteArray) (h : bookB cs = true) (h' : bookB (cs ++ [c]) = true) : totCh (cs ++ [c]) acct = if c.acct = acct then totCh cs acct + c.wk * c.sc else totCh cs acct := by
  rw [totCh_sum acct h, totCh_sum acct h', sumG_app]
  split <;> omega
theorem jobs_of {cs : List Chg} {c : Chg} (id : Int) (h : bookB cs = true) (h' : bookB (cs ++ [c]) = true) : ofCh (cs ++ [c]) id = if c.id = id then ((ofCh cs id).1 + c.sc, (ofCh cs id).2 + 1) else ofCh cs id := by
  unfold ofCh
  rw [if_pos h, if_pos h', ofG_app]
end Go.Proofs.YtlafjjdponeeeaaDoor
