/-
  Who runs, plainly. No program is imported.
  Who runs, plainly: all of the active row; nobody who runs meets another; whoever does not run meets one who runs. No program is imported.
-/
import Derived.Test.YtfobapnncjjeiaaGaP
namespace Go.Proofs.Ytfobapnncjjeiaa
set_option linter.unusedVariables false

section

def accF (acc : List Ce) (s o : Nat) : Bool := acc.all fun c => !decide (meetC c.st c.ord s o)
def CovA (acc : List Ce) (x : Nat) : Prop := ∃ c ∈ acc, inC c.st c.ord x
theorem accF_iff {acc : List Ce} {s o : Nat} : accF acc s o = true ↔ ∀ x, inC s o x → ¬ CovA acc x := by
  unfold accF
  rw [List.all_eq_true]
  constructor
  · rintro h x hx ⟨c, hc, hi⟩
    have := h c hc
    simp only [Bool.not_eq_true', decide_eq_false_iff_not] at this
    exact this (meetC_iff.2 ⟨x, hi, hx⟩)
  · intro h c hc
    simp only [Bool.not_eq_true', decide_eq_false_iff_not]
    intro hm
    obtain ⟨x, h1, h2⟩ := meetC_iff.1 hm
    exact h x h2 ⟨c, hc, h1⟩
theorem covA_snoc {acc : List Ce} {c : Ce} {x : Nat} : CovA (acc ++ [c]) x ↔ CovA acc x ∨ inC c.st c.ord x := by
  unfold CovA
  constructor
  · rintro ⟨d, hd, h⟩
    rcases List.mem_append.1 hd with hd | hd
    · exact .inl ⟨d, hd, h⟩
    · rw [List.mem_singleton] at hd; subst hd; exact .inr h
  · rintro (⟨d, hd, h⟩ | h)
    · exact ⟨d, List.mem_append.2 (.inl hd), h⟩
    · exact ⟨c, List.mem_append.2 (.inr (List.mem_singleton.2 rfl)), h⟩
def runStep (row : Nat) (acc : List Ce) (c : Ce) : List Ce := if c.row = row ∧ accF acc c.st c.ord = true then acc ++ [c] else acc
def runRow (l : List Ce) (row : Nat) (acc : List Ce) : List Ce := l.foldl (runStep row) acc
def rowAt (l : List Ce) (a i : Nat) : Nat := (a + i) % rowsG l
def runTo (l : List Ce) (a : Nat) : Nat → List Ce
  | 0 => []
  | i + 1 => runRow l (rowAt l a i) (runTo l a i)
def runsG (l : List Ce) (a : Nat) : List Ce := runTo l a (rowsG l)
theorem runStep_len (row : Nat) (acc : List Ce) (c : Ce) : (runStep row acc c).length ≤ acc.length + 1 := by
  unfold runStep; split <;> simp
theorem runStep_mem {row : Nat} {acc : List Ce} {c d : Ce} (h : d ∈ runStep row acc c) : d ∈ acc ∨ d = c := by
  unfold runStep at h
  split at h
  · rcases List.mem_append.1 h with h | h
    · exact .inl h
    · exact .inr (by simpa using h)
  · exact .inl h
theorem foldl_take {l : List Ce} {row : Nat} {acc : List Ce} {k : Nat} (h : k < l.length) : (l.take (k + 1)).foldl (runStep row) acc = runStep row ((l.take k).foldl (runStep row) acc) l[k] := by
  rw [List.take_add_one, List.getElem?_eq_getElem h, List.foldl_append]; rfl
theorem fold_len (row : Nat) : ∀ (l acc : List Ce), (l.foldl (runStep row) acc).length ≤ acc.length + l.length
  | [], acc => by simp
  | c :: l, acc => by
    rw [List.foldl_cons]
    have h1 := fold_len row l (runStep row acc c)
    have h2 := runStep_len row acc c
    rw [List.length_cons]; omega
theorem runTo_len (l : List Ce) (a : Nat) : ∀ i, (runTo l a i).length ≤ i * l.length
  | 0 => by simp [runTo]
  | i + 1 => by
    have h1 := runTo_len l a i
    have h2 := fold_len (rowAt l a i) l (runTo l a i)
    rw [Nat.succ_mul]
    show (l.foldl (runStep (rowAt l a i)) (runTo l a i)).length ≤ _
    omega
end

section

def Apart (l : List Ce) : Prop := l.Pairwise fun c d => ¬ meetC c.st c.ord d.st d.ord
theorem meetC_self (s o : Nat) : meetC s o s o := by
  have := Nat.two_pow_pos o
  exact ⟨by omega, by omega⟩
theorem Apart.two {l : List Ce} (h : Apart l) {c d : Ce} (hc : c ∈ l) (hd : d ∈ l) (hne : c ≠ d) : ¬ meetC c.st c.ord d.st d.ord := by
  obtain ⟨i, hi, rfl⟩ := List.getElem_of_mem hc
  obtain ⟨j, hj, rfl⟩ := List.getElem_of_mem hd
  rcases Nat.lt_trichotomy i j with e | e | e
  · exact (List.pairwise_iff_getElem.1 h) i j hi hj e
  · subst e; exact absurd rfl hne
  · exact fun hm => (List.pairwise_iff_getElem.1 h) j i hj hi e (meetC_comm.1 hm)
theorem Apart.nodup {l : List Ce} (h : Apart l) : l.Nodup := h.imp fun hm e => hm (by rw [e]; exact meetC_self _ _)
theorem fold_keep (row : Nat) : ∀ (ls acc : List Ce) {c : Ce}, c ∈ acc → c ∈ ls.foldl (runStep row) acc
  | [], acc, c, h => h
  | d :: ls, acc, c, h => by
    rw [List.foldl_cons]
    refine fold_keep row ls _ ?_
    unfold runStep
    split
    · exact List.mem_append.2 (.inl h)
    · exact h
theorem fold_mem (row : Nat) : ∀ (ls acc : List Ce) {c : Ce}, c ∈ ls.foldl (runStep row) acc → c ∈ acc ∨ (c ∈ ls ∧ c.row = row)
  | [], acc, c, h => .inl h
  | d :: ls, acc, c, h => by
    rw [List.foldl_cons] at h
    rcases fold_mem row ls _ h with h | h
    · unfold runStep at h
      split at h
      · rename_i hc
        rcases List.mem_append.1 h with h | h
        · exact .inl h
        · rw [List.mem_singleton] at h; subst h; exact .inr ⟨List.mem_cons_self, hc.1⟩
      · exact .inl h
    · exact .inr ⟨List.mem_cons_of_mem _ h.1, h.2⟩
theorem accF_all {acc : List Ce} {s o : Nat} : accF acc s o = true ↔ ∀ d ∈ acc, ¬ meetC d.st d.ord s o := by
  unfold accF
  rw [List.all_eq_true]
  exact ⟨fun h d hd => by have := h d hd; simpa using this, fun h d hd => by have := h d hd; simpa using this⟩
theorem fold_apart (row : Nat) : ∀ (ls acc : List Ce), Apart acc → Apart (ls.foldl (runStep row) acc)
  | [], acc, h => h
  | d :: ls, acc, h => by
    rw [List.foldl_cons]
    refine fold_apart row ls _ ?_
    unfold runStep
    split
    · rename_i hc
      unfold Apart
      rw [List.pairwise_append]
      refine ⟨h, List.pairwise_singleton _ _, fun x hx y hy => ?_⟩
      rw [List.mem_singleton] at hy; subst hy
      exact accF_all.1 hc.2 x hx
    · exact h
theorem fold_meet (row : Nat) : ∀ (ls acc : List Ce) {c : Ce}, c ∈ ls → c.row = row → c ∈ ls.foldl (runStep row) acc ∨ ∃ d ∈ ls.foldl (runStep row) acc, meetC d.st d.ord c.st c.ord
  | [], acc, c, h, _ => absurd h List.not_mem_nil
  | d :: ls, acc, c, h, hr => by
    rw [List.foldl_cons]
    rcases List.mem_cons.1 h with rfl | h
    · by_cases hf : accF acc c.st c.ord = true
      · refine .inl (fold_keep row ls _ ?_)
        unfold runStep
        rw [if_pos ⟨hr, hf⟩]
        exact List.mem_append.2 (.inr (List.mem_singleton.2 rfl))
      · have : ∃ d ∈ acc, meetC d.st d.ord c.st c.ord := by
          apply Classical.byContradiction
          intro hn
          exact hf (accF_all.2 fun d hd hm => hn ⟨d, hd, hm⟩)
        obtain ⟨d, hd, hm⟩ := this
        refine .inr ⟨d, fold_keep row ls _ ?_, hm⟩
        unfold runStep
        rw [if_neg (fun h => hf h.2)]
        exact hd
    · exact fold_meet row ls _ h hr
/-- What those who run are. -/
structure RunsOk (l : List Ce) (a : Nat) (R : List Ce) : Prop where
  sub : ∀ c ∈ R, c ∈ l
  apart : Apart R
  act : ∀ c ∈ l, c.row = a → c ∈ R
  rest : ∀ c ∈ l, c ∉ R → ∃ d ∈ R, meetC d.st d.ord c.st c.ord
theorem runTo_sub (l : List Ce) (a : Nat) : ∀ (i : Nat) {c : Ce}, c ∈ runTo l a i → c ∈ l
  | 0, c, h => absurd h List.not_mem_nil
  | i + 1, c, h => by
    rcases fold_mem _ l _ h with h | h
    · exact runTo_sub l a i h
    · exact h.1
theorem runTo_apart (l : List Ce) (a : Nat) : ∀ i, Apart (runTo l a i)
  | 0 => List.Pairwise.nil
  | i + 1 => fold_apart _ l _ (runTo_apart l a i)
theorem runTo_keep (l : List Ce) (a : Nat) {i : Nat} : ∀ {k : Nat}, i ≤ k → ∀ {c : Ce}, c ∈ runTo l a i → c ∈ runTo l a k
  | 0, h, c, hc => by obtain rfl : i = 0 := by omega
                      exact hc
  | k + 1, h, c, hc => by
    rcases Nat.eq_or_lt_of_le h with e | e
    · rw [← e]; exact hc
    · exact fold_keep _ l _ (runTo_keep l a (k := k) (by omega) hc)
theorem rowAt_hit {l : List Ce} {a r : Nat} (ha : a < rowsG l) (hr : r < rowsG l) : ∃ i, i < rowsG l ∧ rowAt l a i = r := by
  unfold rowAt
  by_cases h : a ≤ r
  · exact ⟨r - a, by omega, by rw [show a + (r - a) = r by omega, Nat.mod_eq_of_lt hr]⟩
  · exact ⟨r + rowsG l - a, by omega, by rw [show a + (r + rowsG l - a) = r + rowsG l by omega, Nat.add_mod_right, Nat.mod_eq_of_lt hr]⟩
theorem runs_ok {n a : Nat} {l : List Ce} (h : OkG n l) (ha : a < rowsG l ∨ a = 0) : RunsOk l a (runsG l a) := by
  refine ⟨fun c hc => runTo_sub l a _ hc, runTo_apart l a _, fun c hc hr => ?_, fun c hc hn => ?_⟩
  · have h1 := rowsG_lt h.srt hc
    have h2 : rowAt l a 0 = a := by unfold rowAt; rw [Nat.add_zero, Nat.mod_eq_of_lt (by omega)]
    have h3 : c ∈ runTo l a 1 := by
      show c ∈ l.foldl (runStep (rowAt l a 0)) []
      rw [h2]
      rcases fold_meet a l [] hc hr with h4 | ⟨d, hd, hm⟩
      · exact h4
      · rcases fold_mem a l [] hd with h5 | ⟨h5, h6⟩
        · exact absurd h5 List.not_mem_nil
        · obtain ⟨x, q1, q2⟩ := meetC_iff.1 hm
          have := h.one h5 hc (h6.trans hr.symm) q1 q2
          rw [← this]; exact hd
    exact runTo_keep l a (by omega) h3
  · have h1 := rowsG_lt h.srt hc
    obtain ⟨i, hi, e⟩ := rowAt_hit (a := a) (by omega) h1
    rcases fold_meet (rowAt l a i) l (runTo l a i) hc e.symm with h4 | ⟨d, hd, hm⟩
    · exact absurd (runTo_keep l a (k := rowsG l) (i := i + 1) (by omega) h4) hn
    · exact ⟨d, runTo_keep l a (k := rowsG l) (i := i + 1) (by omega) hd, hm⟩
theorem ids_inj {n : Nat} {l : List Ce} (h : OkG n l) {c d : Ce} (hc : c ∈ l) (hd : d ∈ l) (e : c.1 = d.1) : c = d := by
  obtain ⟨i, hi, rfl⟩ := List.getElem_of_mem hc
  obtain ⟨j, hj, rfl⟩ := List.getElem_of_mem hd
  have hp := List.pairwise_iff_getElem.1 h.ids
  rcases Nat.lt_trichotomy i j with q | q | q
  · exact absurd (by rw [List.getElem_map, List.getElem_map]; exact e) (hp i j (by simpa using hi) (by simpa using hj) q)
  · subst q; rfl
  · exact absurd (by rw [List.getElem_map, List.getElem_map]; exact e.symm) (hp j i (by simpa using hj) (by simpa using hi) q)
theorem mem_ids {n : Nat} {l R : List Ce} (h : OkG n l) (hs : ∀ c ∈ R, c ∈ l) {c : Ce} (hc : c ∈ l) : c.1 ∈ R.map (·.1) ↔ c ∈ R := by
  constructor
  · intro hm
    obtain ⟨d, hd, e⟩ := List.mem_map.1 hm
    rw [ids_inj h hc (hs d hd) e.symm]; exact hd
  · exact fun hm => List.mem_map.2 ⟨c, hm, rfl⟩
theorem ok_nodup {n : Nat} {l : List Ce} (h : OkG n l) : l.Nodup := (List.pairwise_map.1 h.ids).imp fun hne e => hne (by rw [e])
/-- How many of the first k run. -/
def cntOn (l R : List Ce) (k : Nat) : Nat := ((l.take k).filter fun c => decide (c ∈ R)).length
theorem cntOn_zero (l R : List Ce) : cntOn l R 0 = 0 := by simp [cntOn]
theorem cntOn_succ {l R : List Ce} {k : Nat} (hk : k < l.length) : cntOn l R (k + 1) = cntOn l R k + if l[k] ∈ R then 1 else 0 := by
  unfold cntOn
  rw [List.take_add_one, List.getElem?_eq_getElem hk, List.filter_append, List.length_append]
  congr 1
  simp only [Option.toList_some]
  by_cases h : l[k] ∈ R
  · simp [h]
  · simp [h]
theorem cntOn_all {n : Nat} {l R : List Ce} {a k : Nat} (h : OkG n l) (hR : RunsOk l a R) (hk : l.length ≤ k) : cntOn l R k = R.length := by
  unfold cntOn
  rw [List.take_of_length_le hk]
  refine List.Perm.length_eq ((List.perm_ext_iff_of_nodup ((ok_nodup h).filter _) hR.apart.nodup).2 fun c => ?_)
  simp only [List.mem_filter, decide_eq_true_eq]
  exact ⟨fun q => q.2, fun q => ⟨hR.sub c q, q⟩⟩
theorem cntOn_le (l R : List Ce) (k : Nat) : cntOn l R k ≤ l.length := by
  unfold cntOn
  exact Nat.le_trans (List.length_filter_le _ _) (by simp; omega)
/-- Does one of the first k, but i, run and meet it? -/
def ClashK (l R : List Ce) (i k : Nat) (c : Ce) : Prop := ∃ j, ∃ h : j < l.length, j < k ∧ j ≠ i ∧ l[j] ∈ R ∧ meetC l[j].st l[j].ord c.st c.ord
theorem clashK_succ {l R : List Ce} {i k : Nat} {c : Ce} (hk : k < l.length) : ClashK l R i (k + 1) c ↔ ClashK l R i k c ∨ (k ≠ i ∧ l[k] ∈ R ∧ meetC l[k].st l[k].ord c.st c.ord) := by
  constructor
  · rintro ⟨j, hj, h1, h2⟩
    rcases Nat.lt_or_ge j k with h | h
    · exact .inl ⟨j, hj, h, h2⟩
    · obtain rfl : j = k := by omega
      exact .inr h2
  · rintro (⟨j, hj, h1, h2⟩ | h)
    · exact ⟨j, hj, by omega, h2⟩
    · exact ⟨k, hk, by omega, h⟩
theorem clash_iff {n : Nat} {l R : List Ce} {a i : Nat} (h : OkG n l) (hR : RunsOk l a R) (hi : i < l.length) : ClashK l R i l.length l[i] ↔ l[i] ∉ R := by
  constructor
  · rintro ⟨j, hj, _, hne, hm, hmeet⟩ hin
    refine hR.apart.two hm hin (fun e => hne ?_) hmeet
    exact (List.getElem_inj (ok_nodup h)).1 e
  · intro hn
    obtain ⟨d, hd, hm⟩ := hR.rest _ (List.getElem_mem hi) hn
    obtain ⟨j, hj, rfl⟩ := List.getElem_of_mem (hR.sub d hd)
    exact ⟨j, hj, hj, fun e => hn (by subst e; exact hd), hd, hm⟩
end

end Go.Proofs.Ytfobapnncjjeiaa
