/-
  Cells of a matrix, plainly: a row's columns, where a cell lies, one more and one fewer. No program is imported.
-/
namespace Go.Proofs.Ytfobapnncjjeiaa
set_option linter.unusedVariables false

/-- A cell: whose, its row, its block's start and order. -/
abbrev Ce := Nat × Nat × Nat × Nat
abbrev Ce.row (c : Ce) : Nat := c.2.1
abbrev Ce.st (c : Ce) : Nat := c.2.2.1
abbrev Ce.ord (c : Ce) : Nat := c.2.2.2
def Ce.en (c : Ce) : Nat := c.2.2.1 + 2 ^ c.2.2.2
def Bef (c d : Ce) : Prop := c.row < d.row ∨ (c.row = d.row ∧ c.en ≤ d.st)
def LexB (c d : Ce) : Prop := c.row < d.row ∨ (c.row = d.row ∧ c.st < d.st)
instance (c d : Ce) : Decidable (LexB c d) := by unfold LexB; infer_instance
theorem en_st (c : Ce) : c.st + 1 ≤ c.en := by have := Nat.two_pow_pos c.2.2.2; unfold Ce.en Ce.st; omega
theorem Bef.lex {c d : Ce} (h : Bef c d) : LexB c d := by
  have := en_st c
  rcases h with h | ⟨h1, h2⟩
  · exact .inl h
  · exact .inr ⟨h1, by omega⟩
theorem LexB.trans {a b c : Ce} (h : LexB a b) (k : LexB b c) : LexB a c := by
  rcases h with h | ⟨h1, h2⟩ <;> rcases k with k | ⟨k1, k2⟩
  · exact .inl (by omega)
  · exact .inl (by omega)
  · exact .inl (by omega)
  · exact .inr ⟨by omega, by omega⟩
theorem LexB.asymm {a b : Ce} (h : LexB a b) : ¬ LexB b a := by
  rintro k
  rcases h with h | ⟨h1, h2⟩ <;> rcases k with k | ⟨k1, k2⟩ <;> omega
theorem Bef.trans {a b c : Ce} (h : Bef a b) (k : Bef b c) : Bef a c := by
  have := en_st b
  rcases h with h | ⟨h1, h2⟩ <;> rcases k with k | ⟨k1, k2⟩
  · exact .inl (by omega)
  · exact .inl (by omega)
  · exact .inl (by omega)
  · exact .inr ⟨by omega, by omega⟩
/-- Is a column in a cell's block? -/
def inC (s o x : Nat) : Prop := s ≤ x ∧ x < s + 2 ^ o
instance (s o x : Nat) : Decidable (inC s o x) := by unfold inC; infer_instance
def meetC (s o s' o' : Nat) : Prop := s < s' + 2 ^ o' ∧ s' < s + 2 ^ o
instance (s o s' o' : Nat) : Decidable (meetC s o s' o') := by unfold meetC; infer_instance
theorem meetC_iff {s o s' o' : Nat} : meetC s o s' o' ↔ ∃ x, inC s o x ∧ inC s' o' x := by
  have h1 := Nat.two_pow_pos o
  have h2 := Nat.two_pow_pos o'
  constructor
  · rintro ⟨a, b⟩
    exact ⟨max s s', ⟨by omega, by omega⟩, ⟨by omega, by omega⟩⟩
  · rintro ⟨x, ⟨a, b⟩, c, d⟩
    exact ⟨by omega, by omega⟩
theorem meetC_comm {s o s' o' : Nat} : meetC s o s' o' ↔ meetC s' o' s o := ⟨fun ⟨a, b⟩ => ⟨b, a⟩, fun ⟨a, b⟩ => ⟨b, a⟩⟩
/-- Is a column of a row covered? -/
def Cov (l : List Ce) (r x : Nat) : Prop := ∃ c ∈ l, c.row = r ∧ inC c.st c.ord x
def FreeG (l : List Ce) (r s o : Nat) : Prop := ∀ c ∈ l, c.row = r → ¬ meetC c.st c.ord s o
theorem freeG_iff {l : List Ce} {r s o : Nat} : FreeG l r s o ↔ ∀ x, inC s o x → ¬ Cov l r x := by
  constructor
  · rintro h x hx ⟨c, hc, hr, hi⟩
    exact h c hc hr (meetC_iff.2 ⟨x, hi, hx⟩)
  · intro h c hc hr hm
    obtain ⟨x, h1, h2⟩ := meetC_iff.1 hm
    exact h x h2 ⟨c, hc, hr, h1⟩
/-- What a cell of a matrix of that order may be. -/
structure CeOk (n : Nat) (c : Ce) : Prop where
  id1 : 1 ≤ c.1
  id2 : c.1 < 4294967296
  row : c.row < 16
  ord : c.ord ≤ n
  al : c.st % 2 ^ c.ord = 0
  en : c.en ≤ 2 ^ n
structure OkG (n : Nat) (l : List Ce) : Prop where
  n10 : n ≤ 10
  ce : ∀ c ∈ l, CeOk n c
  srt : l.Pairwise Bef
  ids : (l.map (·.1)).Nodup
theorem OkG.nil {n : Nat} (h : n ≤ 10) : OkG n [] := ⟨h, fun _ h => absurd h List.not_mem_nil, List.Pairwise.nil, List.nodup_nil⟩
def keyC (n : Nat) (c : Ce) : Nat := c.row * 2 ^ n + c.st
theorem key_lt {n : Nat} {c d : Ce} (hc : CeOk n c) (h : Bef c d) : keyC n c < keyC n d := by
  have e := en_st c
  have h1 := hc.en
  unfold keyC
  rcases h with h | ⟨h1', h2⟩
  · have := Nat.mul_le_mul_right (2 ^ n) (show c.row + 1 ≤ d.row from h)
    rw [Nat.succ_mul] at this
    omega
  · rw [h1']; omega
theorem key_len {n : Nat} : ∀ {l : List Ce} (k : Nat), (∀ c ∈ l, CeOk n c) → l.Pairwise Bef → (∀ c ∈ l, k ≤ keyC n c) → l.length + k ≤ 16 * 2 ^ n ∨ l = []
  | [], k, _, _, _ => .inr rfl
  | c :: l, k, h1, h2, h3 => by
    have hc := h1 c List.mem_cons_self
    rw [List.pairwise_cons] at h2
    have e := en_st c
    have e2 := hc.en
    have e3 := hc.row
    have e4 := Nat.mul_le_mul_right (2 ^ n) (show c.row + 1 ≤ 16 from e3)
    rw [Nat.succ_mul] at e4
    have hk := h3 c List.mem_cons_self
    rcases key_len (keyC n c + 1) (fun d hd => h1 d (List.mem_cons_of_mem _ hd)) h2.2 (fun d hd => key_lt hc (h2.1 d hd)) with h | h
    · left; rw [List.length_cons]; omega
    · left; rw [h]; unfold keyC at hk
      show 0 + 1 + k ≤ _
      omega
theorem OkG.len {n : Nat} {l : List Ce} (h : OkG n l) : l.length ≤ 16384 := by
  have h1 : 2 ^ n ≤ 2 ^ 10 := Nat.pow_le_pow_right (by omega) h.n10
  rcases key_len 0 h.ce h.srt (fun _ _ => Nat.zero_le _) with h2 | h2
  · omega
  · rw [h2]; show 0 ≤ 16384; omega
/-- One more cell, at its place. -/
def insG : List Ce → Ce → List Ce
  | [], c => [c]
  | d :: l, c => if LexB d c then d :: insG l c else c :: d :: l
theorem mem_insG {l : List Ce} {c d : Ce} : d ∈ insG l c ↔ d = c ∨ d ∈ l := by
  induction l with
  | nil => simp [insG]
  | cons a l ih =>
    unfold insG
    split
    · simp only [List.mem_cons, ih]
      constructor
      · rintro (h | h | h) <;> simp [h]
      · rintro (h | h | h) <;> simp [h]
    · simp only [List.mem_cons]
theorem insG_perm (l : List Ce) (c : Ce) : (insG l c).Perm (c :: l) := by
  induction l with
  | nil => exact List.Perm.refl _
  | cons a l ih =>
    unfold insG
    split
    · exact (List.Perm.cons a ih).trans (List.Perm.swap _ _ _)
    · exact List.Perm.refl _
theorem insG_len (l : List Ce) (c : Ce) : (insG l c).length = l.length + 1 := by rw [(insG_perm l c).length_eq]; rfl
theorem lex_tri {c d : Ce} (h1 : ¬ LexB c d) (h2 : ¬ LexB d c) : c.row = d.row ∧ c.st = d.st := by
  unfold LexB at h1 h2; omega
theorem bef_or {c d : Ce} (hc : c.row = d.row → ¬ meetC c.st c.ord d.st d.ord) (hl : LexB c d) : Bef c d := by
  rcases hl with h | ⟨h1, h2⟩
  · exact .inl h
  · refine .inr ⟨h1, ?_⟩
    have := hc h1
    unfold meetC at this
    have h3 := Nat.two_pow_pos d.ord
    unfold Ce.en Ce.st Ce.ord at *
    omega
theorem insG_srt {l : List Ce} {c : Ce} (h : l.Pairwise Bef) (hf : FreeG l c.row c.st c.ord) : (insG l c).Pairwise Bef := by
  induction l with
  | nil => exact List.pairwise_singleton _ _
  | cons a l ih =>
    rw [List.pairwise_cons] at h
    have hfl : FreeG l c.row c.st c.ord := fun d hd => hf d (List.mem_cons_of_mem _ hd)
    unfold insG
    split
    · rename_i hl
      rw [List.pairwise_cons]
      refine ⟨fun d hd => ?_, ih h.2 hfl⟩
      rcases mem_insG.1 hd with rfl | hd
      · exact bef_or (hf a List.mem_cons_self) hl
      · exact h.1 d hd
    · rename_i hl
      have hca : Bef c a := by
        refine bef_or (fun e hm => hf a List.mem_cons_self e.symm (meetC_comm.1 hm)) ?_
        apply Classical.byContradiction
        intro hn
        obtain ⟨e1, e2⟩ := lex_tri hl hn
        refine hf a List.mem_cons_self e1 ?_
        have h3 := Nat.two_pow_pos a.ord
        have h4 := Nat.two_pow_pos c.ord
        unfold meetC
        omega
      rw [List.pairwise_cons, List.pairwise_cons]
      refine ⟨fun d hd => ?_, h.1, h.2⟩
      rcases List.mem_cons.1 hd with rfl | hd
      · exact hca
      · exact hca.trans (h.1 d hd)
theorem OkG.ins {n : Nat} {l : List Ce} {c : Ce} (h : OkG n l) (hc : CeOk n c) (hf : FreeG l c.row c.st c.ord) (hid : ∀ d ∈ l, d.1 ≠ c.1) : OkG n (insG l c) := by
  refine ⟨h.n10, fun d hd => ?_, insG_srt h.srt hf, ?_⟩
  · rcases mem_insG.1 hd with rfl | hd
    · exact hc
    · exact h.ce d hd
  · rw [((insG_perm l c).map (·.1)).nodup_iff, List.map_cons, List.nodup_cons]
    refine ⟨fun hm => ?_, h.ids⟩
    obtain ⟨d, hd, e⟩ := List.mem_map.1 hm
    exact hid d hd e
/-- Where a cell is put: so many lie ahead of it. -/
def posG : List Ce → Ce → Nat
  | [], _ => 0
  | d :: l, c => if LexB d c then posG l c + 1 else 0
theorem posG_le (l : List Ce) (c : Ce) : posG l c ≤ l.length := by
  induction l with
  | nil => exact Nat.le_refl _
  | cons a l ih => unfold posG; split <;> simp only [List.length_cons] <;> omega
theorem insG_pos (l : List Ce) (c : Ce) : insG l c = l.take (posG l c) ++ c :: l.drop (posG l c) := by
  induction l with
  | nil => rfl
  | cons a l ih =>
    unfold insG posG
    split
    · rw [ih, List.take_succ_cons, List.drop_succ_cons]; rfl
    · rfl
theorem posG_lt {l : List Ce} {c : Ce} {q : Nat} (h : q < l.length) (hq : q < posG l c) : LexB l[q] c := by
  induction l generalizing q with
  | nil => simp at h
  | cons a l ih =>
    unfold posG at hq
    split at hq
    · rename_i hl
      cases q with
      | zero => exact hl
      | succ q => exact ih (by simpa using h) (by omega)
    · omega
theorem posG_ge {l : List Ce} {c : Ce} (hs : l.Pairwise Bef) {q : Nat} (h : q < l.length) (hq : posG l c ≤ q) : ¬ LexB l[q] c := by
  induction l generalizing q with
  | nil => simp at h
  | cons a l ih =>
    rw [List.pairwise_cons] at hs
    unfold posG at hq
    split at hq
    · cases q with
      | zero => omega
      | succ q => exact ih hs.2 (by simpa using h) (by omega)
    · rename_i hl
      cases q with
      | zero => exact hl
      | succ q =>
        intro hx
        have hq' : q < l.length := by simpa using h
        exact hl ((hs.1 l[q] (List.getElem_mem hq')).lex.trans hx)
theorem cov_ins {l : List Ce} {c : Ce} {r x : Nat} : Cov (insG l c) r x ↔ Cov l r x ∨ (c.row = r ∧ inC c.st c.ord x) := by
  unfold Cov
  constructor
  · rintro ⟨d, hd, h⟩
    rcases mem_insG.1 hd with rfl | hd
    · exact .inr h
    · exact .inl ⟨d, hd, h⟩
  · rintro (⟨d, hd, h⟩ | h)
    · exact ⟨d, mem_insG.2 (.inr hd), h⟩
    · exact ⟨c, mem_insG.2 (.inl rfl), h⟩
theorem bef_apart {c d : Ce} (h : Bef c d) {x : Nat} (hr : c.row = d.row) : ¬ (inC c.st c.ord x ∧ inC d.st d.ord x) := by
  rcases h with h | ⟨h1, h2⟩
  · omega
  · rintro ⟨⟨a, b⟩, e, f⟩
    unfold Ce.en Ce.st Ce.ord at *
    omega
/-- Two cells of one matrix that have a column of a row in common are one. -/
theorem OkG.one {n : Nat} {l : List Ce} (h : OkG n l) {c d : Ce} (hc : c ∈ l) (hd : d ∈ l) (hr : c.row = d.row) {x : Nat} (h1 : inC c.st c.ord x) (h2 : inC d.st d.ord x) : c = d := by
  obtain ⟨i, hi, rfl⟩ := List.getElem_of_mem hc
  obtain ⟨j, hj, rfl⟩ := List.getElem_of_mem hd
  rcases Nat.lt_trichotomy i j with e | e | e
  · exact absurd ⟨h1, h2⟩ (bef_apart ((List.pairwise_iff_getElem.1 h.srt) i j hi hj e) hr)
  · subst e; rfl
  · exact absurd ⟨h2, h1⟩ (bef_apart ((List.pairwise_iff_getElem.1 h.srt) j i hj hi e) hr.symm)
theorem OkG.sub {n : Nat} {l l' : List Ce} (h : OkG n l) (hs : l'.Sublist l) : OkG n l' :=
  ⟨h.n10, fun c hc => h.ce c (hs.subset hc), h.srt.sublist hs, (hs.map _).nodup h.ids⟩
theorem OkG.cov_erase {n : Nat} {l : List Ce} (h : OkG n l) {k : Nat} (hk : k < l.length) {r x : Nat} : Cov (l.eraseIdx k) r x ↔ Cov l r x ∧ ¬ (l[k].row = r ∧ inC l[k].st l[k].ord x) := by
  have hnd : l.Nodup := by
    have := h.ids
    exact (List.pairwise_map.1 this).imp fun h e => h (by rw [e])
  constructor
  · rintro ⟨c, hc, hr, hi⟩
    refine ⟨⟨c, List.mem_of_mem_eraseIdx hc, hr, hi⟩, fun ⟨h1, h2⟩ => ?_⟩
    have := h.one (List.mem_of_mem_eraseIdx hc) (List.getElem_mem hk) (hr.trans h1.symm) hi h2
    rw [List.mem_eraseIdx_iff_getElem] at hc
    obtain ⟨i, hi', hne, e⟩ := hc
    rw [← e] at this
    exact hne ((List.getElem_inj hnd).1 this)
  · rintro ⟨⟨c, hc, hr, hi⟩, hn⟩
    refine ⟨c, ?_, hr, hi⟩
    rw [List.mem_eraseIdx_iff_getElem]
    obtain ⟨i, hi', rfl⟩ := List.getElem_of_mem hc
    refine ⟨i, hi', fun e => ?_, rfl⟩
    subst e
    exact hn ⟨hr, hi⟩
/-- How many rows. -/
def rowsG (l : List Ce) : Nat := match l.getLast? with | some c => c.row + 1 | none => 0
theorem rowsG_nil : rowsG [] = 0 := rfl
theorem rowsG_last {l : List Ce} (h : 0 < l.length) : rowsG l = l[l.length - 1].row + 1 := by
  unfold rowsG
  rw [List.getLast?_eq_getElem?, List.getElem?_eq_getElem (by omega)]
theorem rowsG_lt {l : List Ce} (hs : l.Pairwise Bef) {c : Ce} (hc : c ∈ l) : c.row < rowsG l := by
  obtain ⟨i, hi, rfl⟩ := List.getElem_of_mem hc
  rw [rowsG_last (by omega)]
  rcases Nat.lt_or_ge i (l.length - 1) with h | h
  · have := (List.pairwise_iff_getElem.1 hs) i (l.length - 1) hi (by omega) h
    rcases this with h | ⟨h, _⟩ <;> omega
  · have e : i = l.length - 1 := by omega
    subst e; omega
theorem rowsG_some {l : List Ce} (h : 0 < rowsG l) : ∃ c ∈ l, c.row + 1 = rowsG l := by
  rcases Nat.eq_zero_or_pos l.length with h0 | h0
  · have : l = [] := List.eq_nil_of_length_eq_zero h0
    subst this; rw [rowsG_nil] at h; omega
  · exact ⟨_, List.getElem_mem _, (rowsG_last h0).symm⟩
theorem rowsG_16 {n : Nat} {l : List Ce} (h : OkG n l) : rowsG l ≤ 16 := by
  rcases Nat.eq_zero_or_pos (rowsG l) with h0 | h0
  · omega
  · obtain ⟨c, hc, e⟩ := rowsG_some h0
    have := (h.ce c hc).row
    omega
/-- Where a job's cell is. -/
def IsFind (l : List Ce) (id : Nat) (r : Option Nat) : Prop :=
  (r = none ∧ ∀ c ∈ l, c.1 ≠ id) ∨ ∃ k, ∃ h : k < l.length, r = some k ∧ l[k].1 = id ∧ ∀ j (hj : j < l.length), j < k → l[j].1 ≠ id
/-- The place that a job gets. -/
inductive IsPlace (n : Nat) (l : List Ce) (id o : Nat) : Option Ce → Prop
  | none (h : ∀ r, r < 16 → ∀ i, i < 2 ^ (n - o) → ¬ FreeG l r (i * 2 ^ o) o) : IsPlace n l id o none
  | some (r i : Nat) (hr : r < 16) (hi : i < 2 ^ (n - o)) (hf : FreeG l r (i * 2 ^ o) o) (h1 : ∀ r', r' < r → ∀ j, j < 2 ^ (n - o) → ¬ FreeG l r' (j * 2 ^ o) o) (h2 : ∀ j, j < i → ¬ FreeG l r (j * 2 ^ o) o) :
      IsPlace n l id o (some (id, r, i * 2 ^ o, o))
theorem IsPlace.ok {n : Nat} {l : List Ce} {id o : Nat} {c : Ce} (h : IsPlace n l id o (Option.some c)) (h1 : 1 ≤ id) (h2 : id < 4294967296) (ho : o ≤ n) : CeOk n c ∧ FreeG l c.row c.st c.ord ∧ c.1 = id ∧ c.ord = o := by
  cases h with
  | some r i hr hi hf =>
    refine ⟨⟨h1, h2, hr, ho, Nat.mul_mod_left _ _, ?_⟩, hf, rfl, rfl⟩
    show i * 2 ^ o + 2 ^ o ≤ 2 ^ n
    have := Nat.mul_le_mul_right (2 ^ o) (show i + 1 ≤ 2 ^ (n - o) from hi)
    rw [Nat.succ_mul, ← Nat.pow_add] at this
    have e : n - o + o = n := by omega
    rw [e] at this; exact this
theorem freeG_dec (l : List Ce) (r s o : Nat) : FreeG l r s o ∨ ¬ FreeG l r s o := Classical.em _
end Go.Proofs.Ytfobapnncjjeiaa
