/-
  Texts of time limits, plainly: the program's way (cut at the first '-', then at colons) and the reference's (cut at every sign) say the same. No program is imported.
-/
namespace Go.Proofs.Ytfabjlhepadkpaa
set_option linter.unusedVariables false

abbrev Bs := List UInt8
def isSep (c : UInt8) : Bool := c == 45 || c == 58
def isDig (c : UInt8) : Bool := decide (48 ≤ c.toNat) && decide (c.toNat ≤ 57)
def valD (s : Bs) : Nat := s.foldl (fun n c => n * 10 + (c.toNat - 48)) 0
/-- The number that a word is, of one to six digits. -/
def numW (s : Bs) : Option Nat := if s ≠ [] ∧ s.length ≤ 6 ∧ s.all isDig = true then some (valD s) else none
def free (s : Bs) : Prop := ∀ c ∈ s, isSep c = false
theorem sep_dig {c : UInt8} (h : isDig c = true) : isSep c = false := by
  unfold isDig at h
  simp only [Bool.and_eq_true, decide_eq_true_eq] at h
  unfold isSep
  have h1 : c ≠ 45 := fun e => by subst e; simp at h
  have h2 : c ≠ 58 := fun e => by subst e; simp at h
  simp [h1, h2]
theorem num_free {s : Bs} {n : Nat} (h : numW s = some n) : free s := by
  unfold numW at h
  split at h
  · rename_i hh
    intro c hc
    exact sep_dig (List.all_eq_true.1 hh.2.2 c hc)
  · cases h

/-- The reference's cut: at every sign. -/
def cutW : Bs → List Bs × Bs
  | [] => ([[]], [])
  | c :: s => if isSep c = true then ([] :: (cutW s).1, c :: (cutW s).2) else ((c :: (cutW s).1.headD []) :: (cutW s).1.tail, (cutW s).2)
theorem cut_ne (s : Bs) : (cutW s).1 ≠ [] := by
  cases s with
  | nil => simp [cutW]
  | cons c s => unfold cutW; split <;> simp
theorem cut_len (s : Bs) : (cutW s).1.length = (cutW s).2.length + 1 := by
  induction s with
  | nil => rfl
  | cons c s ih =>
    unfold cutW
    split
    · simp [ih]
    · have := cut_ne s
      cases h : (cutW s).1 with
      | nil => exact absurd h this
      | cons a l => rw [h] at ih; simpa using ih
theorem cut_free_one {w : Bs} (h : free w) : cutW w = ([w], []) := by
  induction w with
  | nil => rfl
  | cons c s ih =>
    have hc := h c List.mem_cons_self
    have hs := ih fun x hx => h x (List.mem_cons_of_mem _ hx)
    unfold cutW
    rw [hs, hc]; simp
theorem cut_free_app {w : Bs} (h : free w) (c : UInt8) (hc : isSep c = true) (r : Bs) : cutW (w ++ c :: r) = (w :: (cutW r).1, c :: (cutW r).2) := by
  induction w with
  | nil => show cutW (c :: r) = _; rw [cutW, if_pos hc]
  | cons x s ih =>
    have hx := h x List.mem_cons_self
    have hs := ih fun y hy => h y (List.mem_cons_of_mem _ hy)
    show cutW (x :: (s ++ c :: r)) = _
    rw [cutW, hs, hx]; simp
/-- What was cut, put together again. -/
def joinW : List Bs → Bs → Bs
  | [], _ => []
  | w :: _, [] => w
  | w :: ws, c :: g => w ++ c :: joinW ws g
theorem join_cut (s : Bs) : joinW (cutW s).1 (cutW s).2 = s := by
  induction s with
  | nil => rfl
  | cons c s ih =>
    unfold cutW
    split
    · simp [joinW, ih]
    · have hne := cut_ne s
      cases h : (cutW s).1 with
      | nil => exact absurd h hne
      | cons a l =>
        rw [h] at ih
        cases h2 : (cutW s).2 with
        | nil => rw [h2] at ih; simp only [joinW] at ih ⊢; simp [ih]
        | cons d g => rw [h2] at ih; simp only [joinW] at ih ⊢; simp [ih]

/-- The program's cut: at the first one. -/
def cut1 (sep : UInt8) : Bs → Option (Bs × Bs)
  | [] => none
  | c :: s => if c == sep then some ([], s) else (cut1 sep s).map fun p => (c :: p.1, p.2)
theorem cut1_some {sep : UInt8} {s a b : Bs} (h : cut1 sep s = some (a, b)) : s = a ++ sep :: b ∧ ∀ c ∈ a, c ≠ sep := by
  induction s generalizing a with
  | nil => simp [cut1] at h
  | cons c s ih =>
    unfold cut1 at h
    by_cases hc : c = sep
    · simp [hc] at h
      obtain ⟨rfl, rfl⟩ := h
      exact ⟨by simp [hc], fun c hc => nomatch hc⟩
    · rw [if_neg (by simpa using hc)] at h
      cases hq : cut1 sep s with
      | none => rw [hq] at h; simp at h
      | some p =>
        rw [hq] at h
        simp only [Option.map_some, Option.some.injEq, Prod.mk.injEq] at h
        obtain ⟨rfl, rfl⟩ := h
        obtain ⟨h1, h2⟩ := ih (a := p.1) (by rw [hq])
        refine ⟨by rw [h1]; rfl, fun x hx => ?_⟩
        rcases List.mem_cons.1 hx with rfl | hx
        · exact hc
        · exact h2 x hx
theorem cut1_none {sep : UInt8} {s : Bs} : cut1 sep s = none ↔ ∀ c ∈ s, c ≠ sep := by
  induction s with
  | nil => simp [cut1]
  | cons c s ih =>
    unfold cut1
    by_cases hc : c = sep
    · simp [hc]
    · rw [if_neg (by simpa using hc)]
      simp [hc, ih]
theorem cut1_app {sep : UInt8} {w : Bs} (h : ∀ c ∈ w, c ≠ sep) (r : Bs) : cut1 sep (w ++ sep :: r) = some (w, r) := by
  induction w with
  | nil => simp [cut1]
  | cons x s ih =>
    have hx := h x List.mem_cons_self
    have hs := ih fun y hy => h y (List.mem_cons_of_mem _ hy)
    show cut1 sep (x :: (s ++ sep :: r)) = _
    rw [cut1, if_neg (by simpa using hx), hs]; rfl
/-- At up to k signs. -/
def splitK (sep : UInt8) : Nat → Bs → List Bs
  | 0, s => [s]
  | k + 1, s => match cut1 sep s with | none => [s] | some (a, b) => a :: splitK sep k b
def unitsA : List (Nat × Nat) := [(86400, 0), (3600, 23), (60, 59), (1, 59)]
def wordsA (s : Bs) : List Bs × List (Nat × Nat) :=
  match cut1 45 s with
  | some (d, r) => (d :: splitK 58 3 r, unitsA)
  | none => if (splitK 58 3 s).length < 3 then (splitK 58 3 s, unitsA.drop 2) else (splitK 58 3 s, unitsA.drop 1)
def totalA : List Nat → List (Nat × Nat) → Nat
  | n :: ns, u :: us => n * u.1 + totalA ns us
  | _, _ => 0
def greatA : List Nat → List (Nat × Nat) → Bool
  | n :: ns, u :: us => decide (u.2 < n) || greatA ns us
  | _, _ => false
def endA (great : Bool) (total : Nat) : Int × Int := if great = true ∨ total = 0 ∨ 1073741824 < total then (0, 2) else ((total : Int), 0)
/-- clock.Parse. -/
def parseA (s : Bs) : Int × Int :=
  if (wordsA s).2.length < (wordsA s).1.length then (0, 60) else
  match (wordsA s).1.mapM numW with
  | none => (0, 60)
  | some ns => endA (greatA ns.tail (wordsA s).2.tail) (totalA ns (wordsA s).2)
/-- gangerref07.Parse: behind the cut. -/
def formB (g : Bs) (ns : List Nat) : Int × Int :=
  match g, ns with
  | [], [m] => endA false (m * 60)
  | [58], [m, s] => endA (decide (59 < s)) (m * 60 + s)
  | [58, 58], [h, m, s] => endA (decide (59 < m) || decide (59 < s)) ((h * 60 + m) * 60 + s)
  | [45], [d, h] => endA (decide (23 < h)) ((d * 24 + h) * 60 * 60)
  | [45, 58], [d, h, m] => endA (decide (59 < m) || decide (23 < h)) (((d * 24 + h) * 60 + m) * 60)
  | [45, 58, 58], [d, h, m, s] => endA (decide (59 < m) || decide (23 < h) || decide (59 < s)) (((d * 24 + h) * 60 + m) * 60 + s)
  | _, _ => (0, 60)
def parseB (s : Bs) : Int × Int :=
  if 4 < (cutW s).1.length then (0, 60) else
  match (cutW s).1.mapM numW with
  | none => (0, 60)
  | some ns => formB (cutW s).2 ns

theorem free_ne {w : Bs} (h : free w) {c : UInt8} (hc : isSep c = true) : ∀ x ∈ w, x ≠ c := fun x hx e => by
  have := h x hx; rw [e, hc] at this; cases this
/-- Words without signs behind the program's cut at colons: the reference's words, with colons. -/
theorem split_cut (k : Nat) (s : Bs) (h : ∀ w ∈ splitK 58 k s, free w) : cutW s = (splitK 58 k s, List.replicate ((splitK 58 k s).length - 1) 58) := by
  induction k generalizing s with
  | zero => exact cut_free_one (h s (by simp [splitK]))
  | succ k ih =>
    unfold splitK at h ⊢
    cases hc : cut1 58 s with
    | none => rw [hc] at h; simp only at h ⊢; rw [cut_free_one (h s (by simp))]; rfl
    | some p =>
      obtain ⟨a, b⟩ := p
      rw [hc] at h
      simp only at h ⊢
      obtain ⟨hs, _⟩ := cut1_some hc
      have hb := ih b fun w hw => h w (List.mem_cons_of_mem _ hw)
      have hl : (splitK 58 k b).length ≠ 0 := by cases k <;> unfold splitK <;> (try split) <;> simp
      rw [hs, cut_free_app (h a List.mem_cons_self) 58 rfl, hb]
      simp only [List.length_cons, Nat.add_sub_cancel]
      refine Prod.ext rfl ?_
      show 58 :: List.replicate _ 58 = _
      rw [← List.replicate_succ]
      congr 1
      omega

theorem split_pos (k : Nat) (s : Bs) : 0 < (splitK 58 k s).length := by
  cases k <;> unfold splitK <;> (try split) <;> simp
theorem split_le (k : Nat) (s : Bs) : (splitK 58 k s).length ≤ k + 1 := by
  induction k generalizing s with
  | zero => simp [splitK]
  | succ k ih =>
    unfold splitK
    split
    · simp
    · simp; exact ih _
theorem mem_join {p : List Bs} {g : Bs} {c : UInt8} (h : c ∈ joinW p g) : (∃ w ∈ p, c ∈ w) ∨ c ∈ g := by
  induction p generalizing g with
  | nil => simp [joinW] at h
  | cons w p ih =>
    cases g with
    | nil => exact .inl ⟨w, List.mem_cons_self, h⟩
    | cons d g =>
      simp only [joinW, List.mem_append, List.mem_cons] at h
      rcases h with h | rfl | h
      · exact .inl ⟨w, List.mem_cons_self, h⟩
      · exact .inr List.mem_cons_self
      · rcases ih h with ⟨x, hx, hc⟩ | hc
        · exact .inl ⟨x, List.mem_cons_of_mem _ hx, hc⟩
        · exact .inr (List.mem_cons_of_mem _ hc)
theorem split_join (k : Nat) (p : List Bs) (n : Nat) (hl : p.length = n + 1) (hk : n ≤ k) (hf : ∀ w ∈ p, free w) : splitK 58 k (joinW p (List.replicate n 58)) = p := by
  induction n generalizing p k with
  | zero =>
    match p, hl with
    | [w], _ =>
      show splitK 58 k w = [w]
      have : cut1 58 w = none := cut1_none.2 (free_ne (hf w (by simp)) rfl)
      cases k with
      | zero => rfl
      | succ k => unfold splitK; rw [this]
  | succ n ih =>
    match p, hl with
    | w :: p', hl =>
      obtain ⟨k', rfl⟩ : ∃ k', k = k' + 1 := ⟨k - 1, by omega⟩
      have hw := free_ne (hf w (by simp)) (c := 58) rfl
      have := ih k' p' (by simpa using hl) (by omega) fun x hx => hf x (by simp [hx])
      show splitK 58 (k' + 1) (w ++ 58 :: joinW p' (List.replicate n 58)) = w :: p'
      unfold splitK
      rw [cut1_app hw]
      simp only [this]
theorem words_plain {s : Bs} {n : Nat} (hg : (cutW s).2 = List.replicate n 58) (hn : n ≤ 3) (hf : ∀ w ∈ (cutW s).1, free w) : cut1 45 s = none ∧ splitK 58 3 s = (cutW s).1 := by
  have hj := join_cut s
  have hl := cut_len s
  rw [hg] at hj hl
  rw [List.length_replicate] at hl
  constructor
  · rw [cut1_none, ← hj]
    intro c hc
    rcases mem_join hc with ⟨w, hw, hcw⟩ | hc
    · exact free_ne (hf w hw) rfl c hcw
    · rw [List.eq_of_mem_replicate hc]; decide
  · conv => lhs; rw [← hj]
    exact split_join 3 _ n hl hn hf
theorem words_days {s : Bs} {n : Nat} (hg : (cutW s).2 = 45 :: List.replicate n 58) (hn : n ≤ 3) (hf : ∀ w ∈ (cutW s).1, free w) : (wordsA s) = ((cutW s).1, unitsA) := by
  have hj := join_cut s
  have hl := cut_len s
  rw [hg] at hj hl
  rw [List.length_cons, List.length_replicate] at hl
  match hp : (cutW s).1, hl with
  | d :: p', hl =>
    rw [hp] at hj hf
    have hd := free_ne (hf d (by simp)) (c := 45) rfl
    have e : cut1 45 s = some (d, joinW p' (List.replicate n 58)) := by rw [← hj]; exact cut1_app hd _
    unfold wordsA
    rw [e]
    simp only
    rw [split_join 3 p' n (by simpa using hl) hn fun w hw => hf w (by simp [hw])]

theorem mapM_len {p : List Bs} {ns : List Nat} (h : p.mapM numW = some ns) : ns.length = p.length ∧ ∀ w ∈ p, free w := by
  induction p generalizing ns with
  | nil => simp at h; subst h; exact ⟨rfl, fun w hw => nomatch hw⟩
  | cons w p ih =>
    rw [List.mapM_cons] at h
    cases hw : numW w with
    | none => rw [hw] at h; simp at h
    | some n =>
      rw [hw] at h
      cases hp : p.mapM numW with
      | none => rw [hp] at h; simp at h
      | some ms =>
        rw [hp] at h
        simp at h
        subst h
        obtain ⟨h1, h2⟩ := ih hp
        refine ⟨by simp [h1], fun x hx => ?_⟩
        rcases List.mem_cons.1 hx with rfl | hx
        · exact num_free hw
        · exact h2 x hx
theorem end_eq {a b : Bool} {m n : Nat} (h1 : a = b) (h2 : m = n) : endA a m = endA b n := by rw [h1, h2]

/-- What is no form is refused. -/
theorem form_none {g : Bs} {ns : List Nat} (h1 : ∀ n, n ≤ 2 → g ≠ List.replicate n 58) (h2 : ∀ n, n ≤ 2 → g ≠ 45 :: List.replicate n 58) : formB g ns = (0, 60) := by
  have a0 : g ≠ [] := h1 0 (by omega)
  have a1 : g ≠ [58] := h1 1 (by omega)
  have a2 : g ≠ [58, 58] := h1 2 (by omega)
  have b0 : g ≠ [45] := h2 0 (by omega)
  have b1 : g ≠ [45, 58] := h2 1 (by omega)
  have b2 : g ≠ [45, 58, 58] := h2 2 (by omega)
  unfold formB
  split <;> first | rfl | exact absurd rfl a0 | exact absurd rfl a1 | exact absurd rfl a2 | exact absurd rfl b0 | exact absurd rfl b1 | exact absurd rfl b2

/-- Both ways say the same, whatever the text. -/
theorem parse_eq (s : Bs) : parseA s = parseB s := by
  by_cases hA : (∃ ns, (wordsA s).1.mapM numW = some ns) ∧ ¬ (wordsA s).2.length < (wordsA s).1.length
  · obtain ⟨⟨ns, hm⟩, hlen⟩ := hA
    obtain ⟨hnl, hf⟩ := mapM_len hm
    unfold parseA
    rw [if_neg hlen, hm]
    simp only
    cases hc : cut1 45 s with
    | none =>
      have hw : (wordsA s).1 = splitK 58 3 s := by unfold wordsA; rw [hc]; simp only; split <;> rfl
      rw [hw] at hm hf hnl hlen
      have hcut := split_cut 3 s hf
      have hu : (wordsA s).2 = if (splitK 58 3 s).length < 3 then unitsA.drop 2 else unitsA.drop 1 := by unfold wordsA; rw [hc]; simp only; split <;> rfl
      rw [hu] at hlen ⊢
      have h0 := split_pos 3 s
      generalize splitK 58 3 s = ws at *
      unfold parseB
      rw [hcut]
      simp only
      have hl3 : ws.length ≤ 3 := by
        by_cases h3 : ws.length < 3
        · omega
        · rw [if_neg h3] at hlen; simp [unitsA] at hlen; omega
      rw [if_neg (show ¬ 4 < ws.length by omega), hm]
      simp only
      match ns, hnl with
      | [], hnl => simp at hnl; omega
      | [a], hnl =>
        have h1 : ws.length = 1 := by simp at hnl; omega
        rw [if_pos (by omega), h1]; exact end_eq rfl (by simp [totalA, unitsA])
      | [a, b], hnl =>
        have h1 : ws.length = 2 := by simp at hnl; omega
        rw [if_pos (by omega), h1]; exact end_eq (by simp [greatA, unitsA]) (by simp [totalA, unitsA])
      | [a, b, c], hnl =>
        have h1 : ws.length = 3 := by simp at hnl; omega
        rw [if_neg (by omega), h1]; exact end_eq (by simp [greatA, unitsA]) (by simp [totalA, unitsA]; omega)
      | a :: b :: c :: d :: r, hnl => simp at hnl; omega
    | some p =>
      obtain ⟨d, r⟩ := p
      have hw : wordsA s = (d :: splitK 58 3 r, unitsA) := by unfold wordsA; rw [hc]
      rw [hw] at hm hf hnl hlen ⊢
      simp only at hm hf hnl hlen ⊢
      obtain ⟨hs, _⟩ := cut1_some hc
      have hcut : cutW s = (d :: splitK 58 3 r, 45 :: List.replicate ((splitK 58 3 r).length - 1) 58) := by
        rw [hs, cut_free_app (hf d List.mem_cons_self) 45 rfl, split_cut 3 r fun w hw => hf w (List.mem_cons_of_mem _ hw)]
      have h0 := split_pos 3 r
      generalize splitK 58 3 r = ws at *
      unfold parseB
      rw [hcut]
      simp only
      have hl3 : ws.length ≤ 3 := by simp [unitsA] at hlen; omega
      rw [if_neg (show ¬ 4 < (d :: ws).length by rw [List.length_cons]; omega), hm]
      simp only
      match ns, hnl with
      | [], hnl => simp at hnl
      | [a], hnl => simp only [List.length_cons, List.length_nil] at hnl; omega
      | [a, b], hnl =>
        have : ws.length = 1 := by simp at hnl; omega
        rw [this]; exact end_eq (by simp [greatA, unitsA]) (by simp [totalA, unitsA]; omega)
      | [a, b, c], hnl =>
        have : ws.length = 2 := by simp at hnl; omega
        rw [this]; exact end_eq (by simp [greatA, unitsA, Bool.or_comm]) (by simp [totalA, unitsA]; omega)
      | [a, b, c, e], hnl =>
        have : ws.length = 3 := by simp at hnl; omega
        rw [this]; exact end_eq (by show (decide (23 < b) || (decide (59 < c) || (decide (59 < e) || false))) = _; cases decide (23 < b) <;> cases decide (59 < c) <;> simp) (by simp [totalA, unitsA]; omega)
      | a :: b :: c :: e :: f :: r, hnl => simp at hnl; omega
  · have hPA : parseA s = (0, 60) := by
      unfold parseA
      split
      · rfl
      · rename_i hlen
        cases hm : (wordsA s).1.mapM numW with
        | none => rfl
        | some ns => exact absurd ⟨⟨ns, hm⟩, hlen⟩ hA
    rw [hPA]
    unfold parseB
    split
    · rfl
    · cases hm : (cutW s).1.mapM numW with
      | none => rfl
      | some ns =>
        obtain ⟨hnl, hf⟩ := mapM_len hm
        have hl := cut_len s
        refine (form_none (fun n hn hg => hA ?_) (fun n hn hg => hA ?_)).symm
        · obtain ⟨h1, h2⟩ := words_plain hg (by omega) hf
          rw [hg, List.length_replicate] at hl
          unfold wordsA
          rw [h1, h2]
          simp only
          split
          · exact ⟨⟨ns, hm⟩, by simp [unitsA]; omega⟩
          · exact ⟨⟨ns, hm⟩, by simp [unitsA]; omega⟩
        · rw [words_days hg (by omega) hf]
          rw [hg, List.length_cons, List.length_replicate] at hl
          exact ⟨⟨ns, hm⟩, by simp [unitsA]; omega⟩
end Go.Proofs.Ytfabjlhepadkpaa
