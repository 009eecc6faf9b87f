/-
  Closing up, plainly: each cell goes ahead, then rows are numbered anew. No program is imported.
-/
import Derived.Test.YtfobapnncjjeiaaGaP
namespace Go.Proofs.Ytfobapnncjjeiaa
set_option linter.unusedVariables false

def hasR (l : List Ce) (r : Nat) : Bool := l.any fun c => decide (c.row = r)
theorem hasR_iff {l : List Ce} {r : Nat} : hasR l r = true ↔ ∃ c ∈ l, c.row = r := by
  unfold hasR; rw [List.any_eq_true]
  exact ⟨fun ⟨c, hc, h⟩ => ⟨c, hc, of_decide_eq_true h⟩, fun ⟨c, hc, h⟩ => ⟨c, hc, decide_eq_true h⟩⟩
/-- So many rows with cells lie ahead of a row. -/
def num (l : List Ce) : Nat → Nat
  | 0 => 0
  | r + 1 => num l r + if hasR l r then 1 else 0
theorem num_le (l : List Ce) : ∀ r, num l r ≤ r
  | 0 => Nat.le_refl _
  | r + 1 => by have := num_le l r; unfold num; split <;> omega
theorem num_mono {l : List Ce} {r s : Nat} (h : r ≤ s) : num l r ≤ num l s := by
  induction s with
  | zero => obtain rfl : r = 0 := by omega
            exact Nat.le_refl _
  | succ s ih =>
    rcases Nat.lt_or_ge s r with h1 | h1
    · obtain rfl : r = s + 1 := by omega
      exact Nat.le_refl _
    · have := ih h1
      show num l r ≤ num l s + (if hasR l s then 1 else 0)
      omega
theorem num_lt {l : List Ce} {r s : Nat} (h : r < s) (hr : hasR l r = true) : num l r < num l s := by
  have h1 : num l (r + 1) = num l r + 1 := by show num l r + _ = _; rw [hr]; rfl
  have := num_mono (l := l) (show r + 1 ≤ s from h)
  omega
def closeC (l : List Ce) (c : Ce) : Ce := (c.1, num l c.row, c.st, c.ord)
def closeG (l : List Ce) : List Ce := l.map (closeC l)
theorem close_bef {l : List Ce} {c d : Ce} (hc : c ∈ l) (h : Bef c d) : Bef (closeC l c) (closeC l d) := by
  rcases h with h | ⟨h1, h2⟩
  · exact .inl (num_lt h (hasR_iff.2 ⟨c, hc, rfl⟩))
  · exact .inr ⟨congrArg (num l) h1, h2⟩
theorem insG_end {l : List Ce} {c : Ce} (h : ∀ d ∈ l, LexB d c) : insG l c = l ++ [c] := by
  induction l with
  | nil => rfl
  | cons a l ih =>
    unfold insG
    rw [if_pos (h a List.mem_cons_self), ih fun d hd => h d (List.mem_cons_of_mem _ hd)]
    rfl
/-- One more of the cells is laid anew. -/
theorem close_step {n : Nat} {l : List Ce} (h : OkG n l) {k : Nat} (hk : k < l.length) :
    CeOk n (closeC l l[k]) ∧ FreeG ((l.take k).map (closeC l)) (closeC l l[k]).row (closeC l l[k]).st (closeC l l[k]).ord ∧ (∀ d ∈ (l.take k).map (closeC l), d.1 ≠ (closeC l l[k]).1) ∧
      insG ((l.take k).map (closeC l)) (closeC l l[k]) = (l.take (k + 1)).map (closeC l) := by
  have hck := h.ce l[k] (List.getElem_mem hk)
  have hbef : ∀ d ∈ (l.take k).map (closeC l), Bef d (closeC l l[k]) := by
    intro d hd
    obtain ⟨c, hc, rfl⟩ := List.mem_map.1 hd
    obtain ⟨i, hi, rfl⟩ := List.getElem_of_mem hc
    have hik : i < k := by rw [List.length_take] at hi; omega
    rw [List.getElem_take]
    exact close_bef (List.getElem_mem _) ((List.pairwise_iff_getElem.1 h.srt) i k (by omega) hk hik)
  refine ⟨⟨hck.id1, hck.id2, ?_, hck.ord, hck.al, hck.en⟩, ?_, ?_, ?_⟩
  · have := num_le l l[k].row
    have := hck.row
    show num l l[k].row < 16
    omega
  · intro d hd hr hm
    obtain ⟨x, h1, h2⟩ := meetC_iff.1 hm
    exact bef_apart (hbef d hd) hr ⟨h1, h2⟩
  · intro d hd e
    obtain ⟨c, hc, rfl⟩ := List.mem_map.1 hd
    obtain ⟨i, hi, rfl⟩ := List.getElem_of_mem hc
    have hik : i < k := by rw [List.length_take] at hi; omega
    rw [List.getElem_take] at e
    have hn := h.ids
    have := (List.pairwise_iff_getElem.1 hn) i k (by simpa using (by omega : i < l.length)) (by simpa using hk) hik
    rw [List.getElem_map, List.getElem_map] at this
    exact this e
  · rw [insG_end fun d hd => (hbef d hd).lex, List.take_add_one, List.getElem?_eq_getElem hk, List.map_append]
    rfl
theorem closeG_ok {n : Nat} {l : List Ce} (h : OkG n l) : OkG n (closeG l) := by
  have : ∀ k, k ≤ l.length → OkG n ((l.take k).map (closeC l)) := by
    intro k
    induction k with
    | zero => intro _; simpa using OkG.nil h.n10
    | succ k ih =>
      intro hk
      obtain ⟨h1, h2, h3, h4⟩ := close_step h (show k < l.length from hk)
      rw [← h4]
      exact (ih (by omega)).ins h1 h2 h3
  have := this l.length (Nat.le_refl _)
  rw [List.take_length] at this
  exact this
/-- One cell goes ahead, or can't. -/
def UStep (l : List Ce) (c : Ce) (l' : List Ce) (d : Nat) : Prop :=
  (d = 0 ∧ l' = l ∧ ∀ r, r < c.row → ¬ FreeG l r c.st c.ord) ∨
    (d = 1 ∧ ∃ r k, r < c.row ∧ FreeG l r c.st c.ord ∧ (∀ r', r' < r → ¬ FreeG l r' c.st c.ord) ∧ IsFind l c.1 (some k) ∧ l' = insG (l.eraseIdx k) (c.1, r, c.st, c.ord))
/-- So many of the cells have been looked at. -/
inductive URun (l0 : List Ce) : Nat → List Ce → Nat → Prop
  | zero : URun l0 0 l0 0
  | succ (k : Nat) (l l' : List Ce) (d e : Nat) (hk : k < l0.length) (h : URun l0 k l d) (hs : UStep l l0[k] l' e) : URun l0 (k + 1) l' (d + e)
/-- What holds behind so many. -/
structure UInv (n : Nat) (l0 : List Ce) (k : Nat) (l : List Ce) (d : Nat) : Prop where
  ok : OkG n l
  rest : ∀ j (h : j < l0.length), k ≤ j → l0[j] ∈ l
  ids : (l.map (·.1)).Perm (l0.map (·.1))
  same : ∀ c ∈ l0, ∃ c' ∈ l, c'.1 = c.1 ∧ c'.st = c.st ∧ c'.ord = c.ord ∧ c'.row ≤ c.row
  done : ∀ c' ∈ l, ∀ j (h : j < l0.length), j < k → c'.1 = l0[j].1 → c'.row ≤ l0[j].row ∧ ∀ r, r < c'.row → ¬ FreeG l r c'.st c'.ord
  none : d = 0 → l = l0
theorem find_mem {l : List Ce} {id k : Nat} (h : IsFind l id (some k)) : ∃ hk : k < l.length, l[k].1 = id := by
  rcases h with ⟨h, _⟩ | ⟨k', hk', h, h2, _⟩
  · cases h
  · injection h with h; subst h; exact ⟨hk', h2⟩
theorem nodup_idx {l : List Ce} (h : (l.map (·.1)).Nodup) {i j : Nat} (hi : i < l.length) (hj : j < l.length) (e : l[i].1 = l[j].1) : i = j := by
  have hp := List.pairwise_iff_getElem.1 h
  rcases Nat.lt_trichotomy i j with k | k | k
  · have := hp i j (by simpa using hi) (by simpa using hj) k
    rw [List.getElem_map, List.getElem_map] at this
    exact absurd e this
  · exact k
  · have := hp j i (by simpa using hj) (by simpa using hi) k
    rw [List.getElem_map, List.getElem_map] at this
    exact absurd e.symm this
theorem nodup_id {l : List Ce} (h : (l.map (·.1)).Nodup) {c d : Ce} (hc : c ∈ l) (hd : d ∈ l) (e : c.1 = d.1) : c = d := by
  obtain ⟨i, hi, rfl⟩ := List.getElem_of_mem hc
  obtain ⟨j, hj, rfl⟩ := List.getElem_of_mem hd
  obtain rfl := nodup_idx h hi hj e
  rfl
theorem erase_perm {l : List Ce} {q : Nat} (hq : q < l.length) : (l[q] :: l.eraseIdx q).Perm l := by
  rw [List.eraseIdx_eq_take_drop_succ]
  have e : l = l.take q ++ l[q] :: l.drop (q + 1) := by
    conv => lhs; rw [← List.take_append_drop q l, List.drop_eq_getElem_cons hq]
  conv => rhs; rw [e]
  exact List.perm_middle.symm
theorem UInv.zero {n : Nat} {l : List Ce} (h : OkG n l) : UInv n l 0 l 0 :=
  ⟨h, fun j hj _ => List.getElem_mem hj, List.Perm.refl _, fun c hc => ⟨c, hc, rfl, rfl, rfl, Nat.le_refl _⟩, fun c' _ j _ h => absurd h (Nat.not_lt_zero _), fun _ => rfl⟩
/-- What the step needs: the cell itself is there, and its new place is free. -/
theorem ustep_facts {n : Nat} {l : List Ce} (h : OkG n l) {c : Ce} (hc : c ∈ l) {r k : Nat} (hr : r < c.row) (hf : FreeG l r c.st c.ord) (hk : IsFind l c.1 (some k)) :
    (∃ hk : k < l.length, l[k] = c) ∧ CeOk n (c.1, r, c.st, c.ord) ∧ FreeG (l.eraseIdx k) r c.st c.ord ∧ (∀ d ∈ l.eraseIdx k, d.1 ≠ c.1) ∧ OkG n (l.eraseIdx k) := by
  obtain ⟨hk', hid⟩ := find_mem hk
  have he : l[k] = c := nodup_id h.ids (List.getElem_mem hk') hc hid
  have hce := h.ce c hc
  refine ⟨⟨hk', he⟩, ⟨hce.id1, hce.id2, Nat.lt_trans hr hce.row, hce.ord, hce.al, hce.en⟩, fun d hd => hf d (List.mem_of_mem_eraseIdx hd), fun d hd e => ?_, h.sub (List.eraseIdx_sublist l k)⟩
  rw [List.mem_eraseIdx_iff_getElem] at hd
  obtain ⟨i, hi, hne, rfl⟩ := hd
  have := nodup_idx h.ids hi hk' (e.trans hid.symm)
  exact hne this
theorem UInv.succ {n k d e : Nat} {l0 l l' : List Ce} (h0 : OkG n l0) (hk : k < l0.length) (h : UInv n l0 k l d) (hs : UStep l l0[k] l' e) : UInv n l0 (k + 1) l' (d + e) := by
  have hc := h.rest k hk (Nat.le_refl _)
  have hord : ∀ j (hj : j < l0.length), j < k → l0[j].row ≤ l0[k].row := fun j hj hjk => by
    rcases (List.pairwise_iff_getElem.1 h0.srt) j k hj hk hjk with h | ⟨h, _⟩ <;> omega
  rcases hs with ⟨rfl, rfl, hno⟩ | ⟨rfl, r, q, hr, hf, hleast, hq, rfl⟩
  · refine ⟨h.ok, fun j hj hjk => h.rest j hj (by omega), h.ids, h.same, fun c' hc' j hj hjk e => ?_, fun e => h.none (by omega)⟩
    rcases Nat.lt_or_ge j k with h1 | h1
    · exact h.done c' hc' j hj h1 e
    · obtain rfl : j = k := by omega
      have := nodup_id h.ok.ids hc' hc e
      subst this
      exact ⟨Nat.le_refl _, hno⟩
  · obtain ⟨⟨hq', hqe⟩, hce, hfe, hide, hoke⟩ := ustep_facts h.ok hc hr hf hq
    generalize hcc : l0[k] = c at *
    have hmem : ∀ x, x ∈ l → x ≠ c → x ∈ l.eraseIdx q := fun x hx hne => by
      rw [List.mem_eraseIdx_iff_getElem]
      obtain ⟨i, hi, rfl⟩ := List.getElem_of_mem hx
      exact ⟨i, hi, fun e => hne (by subst e; exact hqe), rfl⟩
    have hnew : ∀ x, x ∈ insG (l.eraseIdx q) (c.1, r, c.st, c.ord) ↔ x = (c.1, r, c.st, c.ord) ∨ x ∈ l.eraseIdx q := fun x => mem_insG
    have hsub : ∀ x, x ∈ l.eraseIdx q → x ∈ l := fun x hx => List.mem_of_mem_eraseIdx hx
    -- who blocks a row ahead of the cell's own still does
    have hblk : ∀ r' s o, r' < c.row → ¬ FreeG l r' s o → ¬ FreeG (insG (l.eraseIdx q) (c.1, r, c.st, c.ord)) r' s o := fun r' s o hr' hn hfr => hn fun x hx hxr hm => by
      have hne : x ≠ c := fun e => by subst e; omega
      exact hfr x ((hnew x).2 (.inr (hmem x hx hne))) hxr hm
    refine ⟨hoke.ins hce hfe hide, fun j hj hjk => ?_, ?_, fun x hx => ?_, fun c' hc' j hj hjk e => ?_, fun e => by omega⟩
    · refine (hnew _).2 (.inr (hmem _ (h.rest j hj (by omega)) fun e => ?_))
      have hn := (List.pairwise_iff_getElem.1 h0.ids) k j (by simpa using hk) (by simpa using hj) (by omega)
      rw [List.getElem_map, List.getElem_map, hcc, e] at hn
      exact hn rfl
    · refine ((insG_perm _ _).map _).trans ?_
      rw [List.map_cons]
      refine List.Perm.trans ?_ h.ids
      have := (erase_perm hq').map (·.1)
      rw [List.map_cons, hqe] at this
      exact this
    · obtain ⟨y, hy, e1, e2, e3, e4⟩ := h.same x hx
      by_cases hyc : y = c
      · subst hyc
        exact ⟨_, (hnew _).2 (.inl rfl), e1, e2, e3, by show r ≤ _; omega⟩
      · exact ⟨y, (hnew _).2 (.inr (hmem y hy hyc)), e1, e2, e3, e4⟩
    · rcases (hnew c').1 hc' with rfl | hce'
      · -- the cell that went ahead
        have hjk2 : j = k := by
          rcases Nat.lt_or_ge j k with h1 | h1
          · have hn := (List.pairwise_iff_getElem.1 h0.ids) j k (by simpa using hj) (by simpa using hk) h1
            rw [List.getElem_map, List.getElem_map, hcc] at hn
            exact absurd e.symm hn
          · omega
        subst hjk2
        rw [hcc]
        exact ⟨Nat.le_of_lt hr, fun r' hr' => hblk r' _ _ (Nat.lt_trans hr' hr) (hleast r' hr')⟩
      · have hne : c'.1 ≠ c.1 := hide c' hce'
        have hj2 : j < k := by
          rcases Nat.lt_or_ge j k with h1 | h1
          · exact h1
          · obtain rfl : j = k := by omega
            rw [hcc] at e
            exact absurd e hne
        obtain ⟨a1, a2⟩ := h.done c' (hsub _ hce') j hj hj2 e
        have hle := hord j hj hj2
        exact ⟨a1, fun r' hr' => hblk r' _ _ (by omega) (a2 r' hr')⟩
theorem URun.inv {n k d : Nat} {l0 l : List Ce} (h0 : OkG n l0) (h : URun l0 k l d) : UInv n l0 k l d := by
  induction h with
  | zero => exact .zero h0
  | succ k l l' d e hk h hs ih => exact ih.succ h0 hk hs
/-- No cell can go ahead. -/
def Settled (l : List Ce) : Prop := ∀ c ∈ l, ∀ r, r < c.row → ¬ FreeG l r c.st c.ord
theorem UInv.settled {n d : Nat} {l0 l : List Ce} (h : UInv n l0 l0.length l d) : Settled l := by
  intro c hc
  have hm : c.1 ∈ l0.map (·.1) := (h.ids.mem_iff).1 (List.mem_map_of_mem hc)
  obtain ⟨x, hx, e⟩ := List.mem_map.1 hm
  obtain ⟨j, hj, rfl⟩ := List.getElem_of_mem hx
  exact (h.done c hc j hj hj e.symm).2
theorem Settled.stays {n k d : Nat} {l0 l : List Ce} (hs : Settled l0) (h : URun l0 k l d) : d = 0 ∧ l = l0 := by
  induction h with
  | zero => exact ⟨rfl, rfl⟩
  | succ k l l' d e hk h hstep ih =>
    obtain ⟨rfl, rfl⟩ := ih
    rcases hstep with ⟨rfl, rfl, _⟩ | ⟨rfl, r, q, hr, hf, _⟩
    · exact ⟨rfl, rfl⟩
    · exact absurd hf (hs _ (List.getElem_mem hk) r hr)
/-- Settled rows have no gap: numbered anew they are as they were. -/
theorem Settled.num {l : List Ce} (h : Settled l) {c : Ce} (hc : c ∈ l) : ∀ r, r ≤ c.row → Go.Proofs.Ytfobapnncjjeiaa.num l r = r := by
  intro r
  induction r with
  | zero => intro _; rfl
  | succ r ih =>
    intro hr
    have h1 : hasR l r = true := by
      rw [hasR_iff]
      apply Classical.byContradiction
      intro hn
      exact h c hc r hr fun d hd hdr _ => hn ⟨d, hd, hdr⟩
    show Go.Proofs.Ytfobapnncjjeiaa.num l r + _ = _
    rw [ih (by omega), h1]; rfl
theorem Settled.close {l : List Ce} (h : Settled l) : closeG l = l := by
  unfold closeG
  have : ∀ c ∈ l, closeC l c = c := fun c hc => by
    unfold closeC
    rw [h.num hc _ (Nat.le_refl _)]
  rw [List.map_congr_left this, List.map_id']
end Go.Proofs.Ytfobapnncjjeiaa
