/-
  A charge's line, plainly: what is written, what is read; what was written is read again, what is read is written as it was. No program is imported.
-/
import Derived.Test.YtlafjjdponeeeaaDoorNm
import Derived.Test.YtlafjjdponeeeaaDoorDgP
namespace Go.Proofs.YtlafjjdponeeeaaDoor
open Go Go.Lib
set_option linter.unusedVariables false

structure Chg where
  id : Int
  acct : ByteArray
  wk : Int
  sc : Int
  how : Int
  ax : Int
def numsB (c : Chg) : Bool := decide (1 ≤ c.wk ∧ c.wk ≤ 1024) && decide (0 ≤ c.sc ∧ c.sc ≤ 1073741824) && decide (0 ≤ c.ax ∧ c.ax ≤ 1099511627776)
def howB (c : Chg) : Bool := decide (c.how = 0) || decide (5 ≤ c.how ∧ c.how ≤ 8)
def okCh (c : Chg) : Bool := decide (c.id ≠ 0) && numsB c && howB c && nameB c.acct
def zeroCh : Chg := ⟨0, ⟨#[]⟩, 0, 0, 0, 0⟩

abbrev numP : Bs → Option Nat := plainG 13
theorem numP_some {s : Bs} {n : Nat} (h : numP s = some n) : Lib.decDigits n = s ∧ s.length ≤ 13 ∧ s.all isDig = true := plainG_some h
theorem numP_lt {s : Bs} {n : Nat} (h : numP s = some n) : n < 10000000000000 := plainG_lt h
theorem numP_D {n : Nat} (h : n < 10000000000000) : numP (Lib.decDigits n) = some n := plainG_D (k := 12) h (Nat.le_refl _)

/-! The states' words. -/
def howT (k : Int) : Bs :=
  if k = 0 then [114, 101, 113, 117, 101, 117, 101, 100] else if k = 5 then [100, 111, 110, 101] else if k = 6 then [102, 97, 105, 108, 101, 100]
  else if k = 7 then [99, 97, 110, 99, 101, 108, 108, 101, 100] else if k = 8 then [108, 97, 116, 101] else []
def howW (s : Bs) : Option Nat :=
  if s = howT 0 then some 0 else if s = howT 5 then some 5 else if s = howT 6 then some 6 else if s = howT 7 then some 7 else if s = howT 8 then some 8 else none
theorem howW_some {s : Bs} {n : Nat} (h : howW s = some n) : howT n = s ∧ (n = 0 ∨ (5 ≤ n ∧ n ≤ 8)) := by
  unfold howW at h
  repeat' split at h
  all_goals cases h
  all_goals (rename_i e; exact ⟨e.symm, by decide⟩)
theorem howW_T {n : Int} (h : n = 0 ∨ (5 ≤ n ∧ n ≤ 8)) : howW (howT n) = some n.toNat := by
  have : n = 0 ∨ n = 5 ∨ n = 6 ∨ n = 7 ∨ n = 8 := by omega
  rcases this with rfl | rfl | rfl | rfl | rfl <;> decide
theorem howT_no (n : Int) : ∀ c ∈ howT n, c ≠ 32 := by
  unfold howT
  repeat' split
  all_goals decide

/-! Names bear no space. -/
theorem dn_cont {n b0 b1 b2 b3 : Nat} : (2 ≤ (decodeN n b0 b1 b2 b3).2 → 128 ≤ b1) ∧ (3 ≤ (decodeN n b0 b1 b2 b3).2 → 128 ≤ b2) ∧ (4 ≤ (decodeN n b0 b1 b2 b3).2 → 128 ≤ b3) ∧ (decodeN n b0 b1 b2 b3).2 ≤ 4 := by
  unfold decodeN
  repeat' split
  all_goals (refine ⟨fun h => ?_, fun h => ?_, fun h => ?_, ?_⟩ <;> dsimp only at * <;> omega)
theorem name_clear (s : ByteArray) : ∀ (f pos : Nat), s.size ≤ pos + f → okF s f pos = true → ∀ i, pos ≤ i → i < s.size → byN s i ≠ 32
  | 0, pos, h, _, i, h1, h2 => by omega
  | f + 1, pos, h, hk, i, h1, h2 => by
    unfold okF at hk
    rw [if_pos (by omega), Bool.and_eq_true] at hk
    have hd := rune_at s pos
    obtain ⟨c1, c2, c3, c4⟩ := dn_cont (n := s.size - pos) (b0 := byN s pos) (b1 := byN s (pos + 1)) (b2 := byN s (pos + 2)) (b3 := byN s (pos + 3))
    rw [← hd] at c1 c2 c3 c4
    have hw := width_pos s pos
    by_cases hi : i < pos + (Utf8.decode s pos).2
    · obtain ⟨j, rfl⟩ : ∃ j, i = pos + j := ⟨i - pos, by omega⟩
      have hj : j = 0 ∨ j = 1 ∨ j = 2 ∨ j = 3 := by omega
      rcases hj with rfl | rfl | rfl | rfl
      · intro e
        rw [Nat.add_zero] at e
        have : Utf8.decode s pos = (32, 1) := by rw [hd]; unfold decodeN; rw [e, if_pos (by omega)]
        rw [this] at hk
        exact absurd hk.1 (by decide)
      · have := c1 (by omega); omega
      · have := c2 (by omega); omega
      · have := c3 (by omega); omega
    · exact name_clear s f (pos + (Utf8.decode s pos).2) (by omega) hk.2 i (by omega) h2
theorem name_no {s : ByteArray} (h : nameB s = true) : ∀ c ∈ s.data.toList, c ≠ 32 := by
  unfold nameB at h
  simp only [Bool.and_eq_true] at h
  intro c hc e
  obtain ⟨i, hi, rfl⟩ := List.mem_iff_getElem.1 hc
  have hi' : i < s.size := by simpa using hi
  have := name_clear s s.size 0 (by omega) h.2 i (by omega) hi'
  apply this
  unfold byN
  have e2 : s.get! i = s.data.toList[i] := by
    show s.data[i]! = _
    rw [getElem!_pos s.data i (by simpa using hi)]
    simp
  rw [e2, e]; rfl

/-! Lines. -/
def lineT (c : Chg) : Bs := Lib.decDigits c.id.toNat ++ 32 :: (c.acct.data.toList ++ 32 :: ((Lib.decDigits c.wk.toNat ++ 120 :: Lib.decDigits c.sc.toNat) ++ 32 :: (howT c.how ++ 32 :: Lib.decDigits c.ax.toNat)))
/-- What the five words of a line say. -/
def readW (a b c d e : Bs) : Chg × Int :=
  match numP a, cut1 120 c, howW d, numP e with
  | some i, some (l, r), some h, some x =>
    match numP l, numP r with
    | some k, some z => if 4294967295 < i ∨ nameB ⟨b.toArray⟩ = false then (zeroCh, 60) else if okCh ⟨i, ⟨b.toArray⟩, k, z, h, x⟩ = true then (⟨i, ⟨b.toArray⟩, k, z, h, x⟩, 0) else (zeroCh, 200)
    | _, _ => (zeroCh, 60)
  | _, _, _, _ => (zeroCh, 60)
def parseL (s : Bs) : Chg × Int := match splitK 32 5 s with | [a, b, c, d, e] => readW a b c d e | _ => (zeroCh, 60)
theorem split_five {a b c d e : Bs} (ha : ∀ x ∈ a, x ≠ 32) (hb : ∀ x ∈ b, x ≠ 32) (hc : ∀ x ∈ c, x ≠ 32) (hd : ∀ x ∈ d, x ≠ 32) (he : ∀ x ∈ e, x ≠ 32) :
    splitK 32 5 (a ++ 32 :: (b ++ 32 :: (c ++ 32 :: (d ++ 32 :: e)))) = [a, b, c, d, e] := by
  simp only [splitK, cut1_app ha, cut1_app hb, cut1_app hc, cut1_app hd, cut1_none.2 he]
theorem five_split {a b c d e s : Bs} (h : splitK 32 5 s = [a, b, c, d, e]) : s = a ++ 32 :: (b ++ 32 :: (c ++ 32 :: (d ++ 32 :: e))) := by
  have step : ∀ (k : Nat) (s x y : Bs) (r : List Bs), splitK 32 (k + 1) s = x :: y :: r → ∃ t, s = x ++ 32 :: t ∧ splitK 32 k t = y :: r := by
    intro k s x y r h
    unfold splitK at h
    cases hc : cut1 32 s with
    | none => rw [hc] at h; simp at h
    | some p =>
      obtain ⟨u, v⟩ := p
      rw [hc] at h
      simp only [List.cons.injEq] at h
      exact ⟨v, by rw [← h.1]; exact (cut1_some hc).1, h.2⟩
  obtain ⟨t1, rfl, h1⟩ := step 4 s a b _ h
  obtain ⟨t2, rfl, h2⟩ := step 3 t1 b c _ h1
  obtain ⟨t3, rfl, h3⟩ := step 2 t2 c d _ h2
  obtain ⟨t4, rfl, h4⟩ := step 1 t3 d e _ h3
  unfold splitK at h4
  cases hc : cut1 32 t4 with
  | none => rw [hc] at h4; simp only [List.cons.injEq, and_true] at h4; rw [h4]
  | some p =>
    obtain ⟨u, v⟩ := p
    rw [hc] at h4
    exact absurd h4 (by simp [splitK])
theorem ok_parts {c : Chg} (h : okCh c = true) : c.id ≠ 0 ∧ (1 ≤ c.wk ∧ c.wk ≤ 1024) ∧ (0 ≤ c.sc ∧ c.sc ≤ 1073741824) ∧ (0 ≤ c.ax ∧ c.ax ≤ 1099511627776) ∧ (c.how = 0 ∨ (5 ≤ c.how ∧ c.how ≤ 8)) ∧ nameB c.acct = true := by
  unfold okCh numsB howB at h
  simp only [Bool.and_eq_true, Bool.or_eq_true, decide_eq_true_eq] at h
  exact ⟨h.1.1.1, h.1.1.2.1.1, h.1.1.2.1.2, h.1.1.2.2, h.1.2, h.2⟩
/-- What is written is read again as it was. -/
theorem parse_line {c : Chg} (h : okCh c = true) (h0 : 0 ≤ c.id) (h1 : c.id ≤ 4294967295) : parseL (lineT c) = (c, 0) := by
  obtain ⟨p1, p2, p3, p4, p5, p6⟩ := ok_parts h
  unfold parseL lineT
  have hs : splitK 32 5 (Lib.decDigits c.id.toNat ++ 32 :: (c.acct.data.toList ++ 32 :: ((Lib.decDigits c.wk.toNat ++ 120 :: Lib.decDigits c.sc.toNat) ++ 32 :: (howT c.how ++ 32 :: Lib.decDigits c.ax.toNat)))) = [Lib.decDigits c.id.toNat, c.acct.data.toList, Lib.decDigits c.wk.toNat ++ 120 :: Lib.decDigits c.sc.toNat, howT c.how, Lib.decDigits c.ax.toNat] := by
    refine split_five (D_no _ (by decide)) (name_no p6) ?_ (howT_no _) (D_no _ (by decide))
    intro x hx
    rcases List.mem_append.1 hx with hx | hx
    · exact D_no _ (by decide) x hx
    · rcases List.mem_cons.1 hx with rfl | hx
      · decide
      · exact D_no _ (by decide) x hx
  rw [hs]
  simp only
  unfold readW
  rw [numP_D (by omega), cut1_app (D_no _ (by decide)), howW_T p5, numP_D (by omega)]
  simp only
  rw [numP_D (by omega), numP_D (by omega)]
  simp only
  have ea : (⟨(c.acct.data.toList).toArray⟩ : ByteArray) = c.acct := by simp
  rw [ea, if_neg (by rw [p6]; simp; omega)]
  have ec : (⟨(c.id.toNat : Nat), c.acct, (c.wk.toNat : Nat), (c.sc.toNat : Nat), (c.how.toNat : Nat), (c.ax.toNat : Nat)⟩ : Chg) = c := by
    obtain ⟨id, ac, wk, sc, how, ax⟩ := c
    dsimp only at *
    congr 1 <;> omega
  rw [ec, if_pos h]
/-- What is read is written as it was. -/
theorem line_parse {s : Bs} {c : Chg} (h : parseL s = (c, 0)) : okCh c = true ∧ lineT c = s ∧ 0 ≤ c.id ∧ c.id ≤ 4294967295 := by
  unfold parseL at h
  split at h
  · rename_i a b x d e hs
    have e5 := five_split hs
    unfold readW at h
    split at h
    · rename_i i l r hw ax h1 h2 h3 h4
      split at h
      · rename_i k z h5 h6
        split at h
        · cases h
        · rename_i hq
          split at h
          · rename_i hok
            cases h
            refine ⟨hok, ?_, by dsimp only; omega, by dsimp only; omega⟩
            unfold lineT
            dsimp only
            simp only [Int.toNat_natCast, (numP_some h1).1, (numP_some h4).1, (numP_some h5).1, (numP_some h6).1, (howW_some h3).1]
            rw [e5, (cut1_some h2).1]
          · cases h
      · cases h
    · cases h
  · cases h
/-- What Parse may answer. -/
theorem parse_end (s : Bs) : (∃ c, parseL s = (c, 0)) ∨ parseL s = (zeroCh, 60) ∨ parseL s = (zeroCh, 200) := by
  unfold parseL
  split
  · unfold readW
    split
    · split
      · split
        · exact .inr (.inl rfl)
        · split
          · exact .inl ⟨_, rfl⟩
          · exact .inr (.inr rfl)
      · exact .inr (.inl rfl)
    · exact .inr (.inl rfl)
  · exact .inr (.inl rfl)
end Go.Proofs.YtlafjjdponeeeaaDoor
