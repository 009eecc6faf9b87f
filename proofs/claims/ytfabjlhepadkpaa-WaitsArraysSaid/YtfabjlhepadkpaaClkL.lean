/-
  The shelf's words for strings.Cut and strings.SplitN at one sign, as the plain ones of ClkP; and what is printed, plainly. No program is imported.
-/
import Derived.Test.YtfabjlhepadkpaaClkP
import Derived.Lib.Split
import Derived.Lib.IndexMore
import Derived.Lib.ItoaNum
namespace Go.Proofs.Ytfabjlhepadkpaa
open Go
set_option linter.unusedVariables false

theorem index_cut1 (c : UInt8) : ∀ s : Bs, (cut1 c s = none ∧ Lib.index s [c] = -1) ∨ (∃ a b, cut1 c s = some (a, b) ∧ Lib.index s [c] = (a.length : Int))
  | [] => .inl ⟨rfl, rfl⟩
  | x :: l => by
    by_cases hx : x = c
    · subst hx
      exact .inr ⟨[], l, by simp [cut1], by simp [Lib.index]⟩
    · have hp : ([c] : List UInt8).isPrefixOf (x :: l) = false := by simp [List.isPrefixOf, Ne.symm hx]
      rcases index_cut1 c l with ⟨h1, h2⟩ | ⟨a, b, h1, h2⟩
      · exact .inl ⟨by unfold cut1; rw [if_neg (by simpa using hx), h1]; rfl, by rw [Lib.index, hp, h2]; rfl⟩
      · refine .inr ⟨x :: a, b, by unfold cut1; rw [if_neg (by simpa using hx), h1]; rfl, ?_⟩
        rw [Lib.index, hp, h2]
        have : ((a.length : Int) == -1) = false := by simp
        simp [this]
theorem cut_one (c : UInt8) (s : Bs) : Lib.cut s [c] = match cut1 c s with | none => (s, [], false) | some (a, b) => (a, b, true) := by
  unfold Lib.cut
  rcases index_cut1 c s with ⟨h1, h2⟩ | ⟨a, b, h1, h2⟩
  · rw [h1, h2]; simp
  · rw [h1, h2, if_pos (by omega)]
    obtain ⟨hs, _⟩ := cut1_some h1
    simp only [Int.toNat_natCast, List.length_cons, List.length_nil]
    rw [hs]
    simp
theorem splitK_one (c : UInt8) : ∀ (k : Nat) (s : Bs), Lib.splitK [c] 0 k s = splitK c k s
  | 0, s => rfl
  | k + 1, s => by
    rw [Lib.splitK, splitK]
    rcases index_cut1 c s with ⟨h1, h2⟩ | ⟨a, b, h1, h2⟩
    · rw [h1, h2]; rfl
    · obtain ⟨hs, _⟩ := cut1_some h1
      have : ((a.length : Int) == -1) = false := by simp
      rw [h1, h2, this]
      simp only [Bool.false_eq_true, if_false, Int.toNat_natCast, Nat.add_zero, List.length_cons, List.length_nil]
      rw [splitK_one c k]
      rw [hs]
      simp
/-- More signs than the text has room for are as good as just so many. -/
theorem splitK_big (c : UInt8) : ∀ (k k' : Nat) (s : Bs), s.length ≤ k → s.length ≤ k' → splitK c k s = splitK c k' s
  | 0, k', s, h, _ => by
    have : s = [] := List.eq_nil_of_length_eq_zero (by omega)
    subst this
    cases k' <;> rfl
  | k + 1, 0, s, _, h => by
    have : s = [] := List.eq_nil_of_length_eq_zero (by omega)
    subst this; rfl
  | k + 1, k' + 1, s, h, h' => by
    unfold splitK
    cases hc : cut1 c s with
    | none => rfl
    | some p =>
      obtain ⟨a, b⟩ := p
      obtain ⟨hs, _⟩ := cut1_some hc
      have hl : s.length = a.length + (b.length + 1) := by rw [hs]; simp
      simp only
      rw [splitK_big c k k' b (by omega) (by omega)]
theorem splitN_four (c : UInt8) (s : Bs) : Lib.splitK [c] 0 (min 4 (s.length + 1) - 1) s = splitK c 3 s := by
  rw [splitK_one]
  by_cases h : 3 ≤ s.length
  · rw [show min 4 (s.length + 1) - 1 = 3 by omega]
  · rw [show min 4 (s.length + 1) - 1 = s.length by omega]
    exact splitK_big c _ _ s (Nat.le_refl _) (by omega)

/-! What is printed. -/
def dig (n : Nat) : UInt8 := UInt8.ofNat (48 + n)
theorem dig_is {n : Nat} (h : n < 10) : isDig (dig n) = true ∧ (dig n).toNat = 48 + n := by
  have e : (dig n).toNat = 48 + n := by unfold dig; rw [UInt8.toNat_ofNat']; omega
  refine ⟨?_, e⟩
  unfold isDig
  rw [e]; simp; omega
def two (n : Nat) : Bs := [dig (n / 10), dig (n % 10)]
theorem num_two {n : Nat} (h : n < 100) : numW (two n) = some n := by
  have h1 := dig_is (n := n / 10) (by omega)
  have h2 := dig_is (n := n % 10) (by omega)
  unfold numW two
  rw [if_pos ⟨by simp, by simp, by simp [h1.1, h2.1]⟩]
  unfold valD
  simp only [List.foldl_cons, List.foldl_nil, h1.2, h2.2]
  congr 1
  omega
theorem dec_digs (k : Nat) : ∀ u : Nat, u < 10 ^ (k + 1) → (Lib.decDigits u) ≠ [] ∧ (Lib.decDigits u).length ≤ k + 1 ∧ (Lib.decDigits u).all isDig = true ∧ valD (Lib.decDigits u) = u := by
  induction k with
  | zero =>
    intro u hu
    have hu' : u < 10 := by simpa using hu
    have hd := dig_is hu'
    rw [Lib.decDigits, dif_pos hu']
    refine ⟨by simp, by simp, ?_, ?_⟩
    · simp only [List.all_cons, List.all_nil, Bool.and_true]; exact hd.1
    · show 0 * 10 + ((dig u).toNat - 48) = u
      rw [hd.2]; omega
  | succ k ih =>
    intro u hu
    by_cases h : u < 10
    · have hd := dig_is h
      rw [Lib.decDigits, dif_pos h]
      refine ⟨by simp, by simp, ?_, ?_⟩
      · simp only [List.all_cons, List.all_nil, Bool.and_true]; exact hd.1
      · show 0 * 10 + ((dig u).toNat - 48) = u
        rw [hd.2]; omega
    · obtain ⟨h1, h2, h3, h4⟩ := ih (u / 10) (by rw [Nat.pow_succ] at hu; omega)
      have hd := dig_is (n := u % 10) (by omega)
      rw [Lib.decDigits, dif_neg h]
      refine ⟨by simp, by simp; omega, ?_, ?_⟩
      · rw [List.all_append, h3]; simp only [List.all_cons, List.all_nil, Bool.and_true, Bool.true_and]; exact hd.1
      · unfold valD at h4 ⊢
        rw [List.foldl_append, h4]
        show u / 10 * 10 + ((dig (u % 10)).toNat - 48) = u
        rw [hd.2]; omega
theorem num_dec {u : Nat} (h : u < 1000000) : numW (Lib.decDigits u) = some u := by
  obtain ⟨h1, h2, h3, h4⟩ := dec_digs 5 u (by simpa using h)
  unfold numW
  rw [if_pos ⟨h1, by omega, h3⟩, h4]
def timeA (n : Nat) : Bs := two (n % 86400 / 3600) ++ 58 :: (two (n % 3600 / 60) ++ 58 :: two (n % 60))
/-- clock.Print's text. -/
def printA (n : Nat) : Bs := if n < 86400 then timeA n else Lib.decDigits (n / 86400) ++ 45 :: timeA n

theorem parse_form {ws : List Bs} {g : Bs} {ns : List Nat} (hl : ws.length = g.length + 1) (h4 : ws.length ≤ 4) (hg : ∀ c ∈ g, isSep c = true) (hm : ws.mapM numW = some ns) : parseB (joinW ws g) = formB g ns := by
  have hc : ∀ (ws : List Bs) (g : Bs), ws.length = g.length + 1 → (∀ c ∈ g, isSep c = true) → (∀ w ∈ ws, free w) → cutW (joinW ws g) = (ws, g) := by
    intro ws
    induction ws with
    | nil => intro g h; simp at h
    | cons w ws ih =>
      intro g h hg hf
      cases g with
      | nil =>
        have : ws = [] := List.eq_nil_of_length_eq_zero (by simpa using h)
        subst this
        exact cut_free_one (hf w (by simp))
      | cons c g =>
        show cutW (w ++ c :: joinW ws g) = _
        rw [cut_free_app (hf w (by simp)) c (hg c (by simp)), ih g (by simpa using h) (fun x hx => hg x (by simp [hx])) fun x hx => hf x (by simp [hx])]
  have := hc ws g hl hg (mapM_len hm).2
  unfold parseB
  rw [this]
  simp only
  rw [if_neg (by omega), hm]
/-- What is printed is read again as it was. -/
theorem parse_print {n : Nat} (h0 : 0 < n) (h1 : n ≤ 1073741824) : parseB (printA n) = ((n : Int), 0) := by
  have a1 := num_two (n := n % 86400 / 3600) (by omega)
  have a2 := num_two (n := n % 3600 / 60) (by omega)
  have a3 := num_two (n := n % 60) (by omega)
  unfold printA
  by_cases h : n < 86400
  · rw [if_pos h]
    have := parse_form (ws := [two (n % 86400 / 3600), two (n % 3600 / 60), two (n % 60)]) (g := [58, 58]) (ns := [n % 86400 / 3600, n % 3600 / 60, n % 60]) rfl (by simp) (by decide) (by simp [a1, a2, a3])
    have e : joinW [two (n % 86400 / 3600), two (n % 3600 / 60), two (n % 60)] [58, 58] = timeA n := rfl
    rw [e] at this
    rw [this]
    show endA _ _ = _
    have t : ((n % 86400 / 3600) * 60 + n % 3600 / 60) * 60 + n % 60 = n := by omega
    rw [t, decide_eq_false (by omega), decide_eq_false (by omega)]
    unfold endA
    rw [if_neg (by simp; omega)]
  · rw [if_neg h]
    have a0 := num_dec (u := n / 86400) (by omega)
    have := parse_form (ws := [Lib.decDigits (n / 86400), two (n % 86400 / 3600), two (n % 3600 / 60), two (n % 60)]) (g := [45, 58, 58]) (ns := [n / 86400, n % 86400 / 3600, n % 3600 / 60, n % 60]) rfl (by simp) (by decide) (by simp [a0, a1, a2, a3])
    have e : joinW [Lib.decDigits (n / 86400), two (n % 86400 / 3600), two (n % 3600 / 60), two (n % 60)] [45, 58, 58] = Lib.decDigits (n / 86400) ++ 45 :: timeA n := rfl
    rw [e] at this
    rw [this]
    show endA _ _ = _
    have t : ((n / 86400 * 24 + n % 86400 / 3600) * 60 + n % 3600 / 60) * 60 + n % 60 = n := by omega
    rw [t, decide_eq_false (by omega), decide_eq_false (by omega), decide_eq_false (by omega)]
    unfold endA
    rw [if_neg (by simp; omega)]
end Go.Proofs.Ytfabjlhepadkpaa
