/-
  The jobs of one array: who is ready, and what changes when one is started.
-/
import Derived.Test.YtfabjlhepadkpaaWtS
namespace Go.Proofs.Ytfabjlhepadkpaa
open Go Go.RowKit Go.Lib
set_option linter.unusedVariables false

/-- The array's job. -/
def arJ (i : Nat) (m how : Int) (dv : Value) : Jb := { mkJ (i + 1) 1 dv [] with arr := 1, idx := (i : Int), most := m, how := how }
theorem put_c1 (j : Jb) (a : Nat) : (jbC j).setIfInBounds 1 (.int .u32 (a : Nat)) = jbC { j with arr := a } := rfl
theorem put_c2 (j : Jb) (a : Int) : (jbC j).setIfInBounds 2 (.int .i64 a) = jbC { j with idx := a } := rfl
theorem put_c10 (j : Jb) (a : Int) : (jbC j).setIfInBounds 10 (.int .i64 a) = jbC { j with most := a } := rfl
theorem put_c19 (j : Jb) (a : Int) : (jbC j).setIfInBounds 19 (.int .i64 a) = jbC { j with how := a } := rfl
theorem mod_k (n : Int) : ∃ k : Nat, 1 ≤ k ∧ k ≤ 8 ∧ wrap64 (1 + wrap64 ((IntKind.u64.wrap n).tmod 8)) = (k : Int) := by
  obtain ⟨U, hU⟩ := Int.eq_ofNat_of_zero_le (show 0 ≤ IntKind.u64.wrap n by rw [IntKind.wrap_u64]; omega)
  refine ⟨1 + U % 8, by omega, by omega, ?_⟩
  rw [hU, Int.tmod_eq_emod_of_nonneg (by omega)]
  unfold wrap64
  omega
theorem mod_m (n : Int) : ∃ k : Nat, k < 6 ∧ wrap64 ((IntKind.u64.wrap n).tmod 6) = (k : Int) := by
  obtain ⟨U, hU⟩ := Int.eq_ofNat_of_zero_le (show 0 ≤ IntKind.u64.wrap n by rw [IntKind.wrap_u64]; omega)
  refine ⟨U % 6, by omega, ?_⟩
  rw [hU, Int.tmod_eq_emod_of_nonneg (by omega)]
  unfold wrap64
  omega
theorem below_set {u w : World} {g : Nat} (h : Below u.heap.size u w) (hg : u.heap.size ≤ g) (o : Nat) (v : Value) : Below u.heap.size u (w.setCell ⟨g, o, none⟩ v) :=
  h.trans ((Chg.setCell (own := fun k => k = g) o v rfl).to_below h.size (fun k hk e => by omega))
theorem nrw_nil {w w1 : World} {dv : Value} (h : NRw w1 dv []) : NRw w dv [] := by
  obtain ⟨a, c, e⟩ := h.row.slice
  exact ⟨.inl ⟨rfl, a, c, e⟩, by simp, by simp, by simp, by simp⟩
theorem grow_zero (w : World) : GRow w (.slice none 0 0) [] := GRow.none w
theorem cnt_set (p : Jb → Bool) : ∀ (l : List Jb) (k : Nat) (hk : k < l.length) (h : Int), (setH l k h).countP p + (if p l[k] = true then 1 else 0) = l.countP p + (if p { l[k] with how := h } = true then 1 else 0)
  | j :: t, 0, _, h => by
    rw [setH, List.countP_cons, List.countP_cons]
    simp only [List.getElem_cons_zero]
    omega
  | j :: t, k + 1, hk, h => by
    have := cnt_set p t k (by simpa using hk) h
    rw [setH, List.countP_cons, List.countP_cons]
    have e : (j :: t)[k + 1] = t[k]'(by simpa using hk) := rfl
    rw [e]
    omega
/-- How many run; how many wait. -/
def nR (l : List Jb) : Nat := l.countP fun j => decide (j.how = 3)
def nL (l : List Jb) : Nat := l.countP fun j => decide (j.how = 1)
structure Ar (w : World) (m : Int) (L : List Jb) : Prop where
  one : ∀ i (hi : i < L.length), L[i].id = i + 1 ∧ L[i].arr = 1 ∧ L[i].most = m ∧ L[i].any = false ∧ L[i].nd = [] ∧ L[i].beg = 0 ∧ (L[i].how = 1 ∨ L[i].how = 3 ∨ L[i].how = 5)
  orig : Orig w L
theorem Ar.ok {w : World} {m : Int} {L : List Jb} (h : Ar w m L) : okJs L = true := okJs_iff.2 fun i hi => by
  obtain ⟨h1, _, _, _, _, _, h2⟩ := h.one i hi
  refine ⟨h1, ?_⟩
  rcases h2 with e | e | e <;> rw [e] <;> decide
theorem sayB_nil (al : Bool) (ws : List (Nat × Int)) : sayB false al ws (ndsOf []) = 2 := by
  cases al <;> rfl
theorem Ar.run {w : World} {m : Int} {L : List Jb} (h : Ar w m L) {i : Nat} (hi : i < L.length) : L.countP (runJ L[i]) = nR L := by
  unfold nR
  apply List.countP_congr
  intro o ho
  obtain ⟨k, hk, rfl⟩ := List.getElem_of_mem ho
  obtain ⟨_, e1, _⟩ := h.one i hi
  obtain ⟨_, e2, _, _, _, _, e3⟩ := h.one k hk
  unfold runJ
  rw [e1, e2]
  rcases e3 with e | e | e <;> rw [e] <;> decide
theorem Ar.say {w : World} {m : Int} {L : List Jb} (h : Ar w m L) {i : Nat} (hi : i < L.length) : sayJ L L[i] 0 = 2 ↔ L[i].how = 1 ∧ (m = 0 ∨ (nR L : Int) < m) := by
  obtain ⟨_, e1, e2, e3, e4, e5, e6⟩ := h.one i hi
  have hr : roomJ L L[i] = true ↔ (m = 0 ∨ (nR L : Int) < m) := by
    unfold roomJ
    rw [h.run hi, e1, e2]
    simp
  unfold sayJ
  rw [e3, e4, sayB_nil, e5]
  rcases e6 with e | e | e
  · rw [e, if_pos (by decide)]
    by_cases hh : m = 0 ∨ (nR L : Int) < m
    · rw [if_neg]
      · exact ⟨fun _ => ⟨rfl, hh⟩, fun _ => rfl⟩
      · rintro ⟨_, h | h | h⟩
        · omega
        · omega
        · rw [hr.2 hh] at h; cases h
    · rw [if_pos ⟨rfl, .inr (.inr (by cases hx : roomJ L L[i] with | false => rfl | true => exact absurd (hr.1 hx) hh))⟩]
      exact ⟨fun h => by omega, fun h => absurd h.2 hh⟩
  · rw [e, if_neg (by decide)]; exact ⟨fun h => by omega, fun h => by omega⟩
  · rw [e, if_neg (by decide)]; exact ⟨fun h => by omega, fun h => by omega⟩
theorem Ar.none {w : World} {m : Int} {L : List Jb} (h : Ar w m L) (he : listJ L 0 2 = []) : nL L = 0 ∨ ¬ (m = 0 ∨ (nR L : Int) < m) := by
  by_cases hh : m = 0 ∨ (nR L : Int) < m
  · left
    unfold nL
    rw [List.countP_eq_zero]
    intro j hj e
    obtain ⟨i, hi, rfl⟩ := List.getElem_of_mem hj
    have : (i + 1) ∈ listJ L 0 2 := (mem_listJ h.ok).2 ⟨i, hi, rfl, (h.say hi).2 ⟨of_decide_eq_true e, hh⟩⟩
    rw [he] at this
    cases this
  · exact .inr hh
theorem Ar.start {w : World} {m : Int} {L : List Jb} (h : Ar w m L) {k : Nat} (hk : k < L.length) (h1 : L[k].how = 1) : Ar w m (setH L k 3) ∧ nR (setH L k 3) = nR L + 1 ∧ nL (setH L k 3) + 1 = nL L := by
  refine ⟨⟨fun i hi => ?_, h.orig.set (by decide)⟩, ?_, ?_⟩
  · have hi' : i < L.length := by rw [setH_len] at hi; exact hi
    rw [setH_at L k 3 i hi']
    obtain ⟨e1, e2, e3, e4, e5, e6, e7⟩ := h.one i hi'
    split
    · exact ⟨e1, e2, e3, e4, e5, e6, .inr (.inl rfl)⟩
    · exact ⟨e1, e2, e3, e4, e5, e6, e7⟩
  · have := cnt_set (fun j => decide (j.how = 3)) L k hk 3
    unfold nR
    rw [h1] at this
    simpa using this
  · have := cnt_set (fun j => decide (j.how = 1)) L k hk 3
    unfold nL
    rw [h1] at this
    simpa using this
theorem arJ_ok (i : Nat) (m how : Int) (dv : Value) (hi : i < 1000) (hm : (Lit.int .i64 m).wf = true) (hh : (Lit.int .i64 how).wf = true) : JbOk (arJ i m how dv) := by
  have h0 := mkJ_ok (i + 1) how dv [] (by omega) hh
  have hI : (Lit.int .i64 (i : Int)).wf = true := by simp [Lit.wf, IntKind.min, IntKind.max, IntKind.bits, IntKind.signed]; omega
  refine ⟨h0.id, by show (1 : Nat) < _; decide, fun z hz => ?_, h0.name, h0.acct, h0.prt, h0.qos, h0.run⟩
  unfold arJ mkJ zJb at hz
  simp only [List.mem_cons, List.not_mem_nil, or_false] at hz
  rcases hz with rfl | rfl | rfl | rfl | rfl | rfl | rfl | rfl | rfl | rfl | rfl | rfl | rfl | rfl
  all_goals first | exact hI | exact hm | exact hh | decide
theorem Ar.snoc {w w1 : World} {m how : Int} {L : List Jb} {dv : Value} (h : Ar w m L) (hn : NRw w1 dv []) (hl : L.length < 1000) (hm : (Lit.int .i64 m).wf = true) (hh : how = 1 ∨ how = 5) : Ar w m (L ++ [arJ L.length m how dv]) := by
  refine ⟨fun i hi => ?_, fun j hj => ?_⟩
  · rcases Nat.lt_or_ge i L.length with hlt | hge
    · rw [List.getElem_append_left hlt]; exact h.one i hlt
    · have e : i = L.length := by rw [List.length_append, List.length_singleton] at hi; omega
      subst e
      rw [List.getElem_append_right (Nat.le_refl _)]
      simp only [Nat.sub_self, List.getElem_cons_zero]
      exact ⟨rfl, rfl, rfl, rfl, rfl, rfl, by rcases hh with rfl | rfl; exact .inl rfl; exact .inr (.inr rfl)⟩
  · rcases List.mem_append.1 hj with hj | hj
    · exact h.orig j hj
    · rw [List.mem_singleton] at hj
      subst hj
      exact ⟨nrw_nil hn, GRow.none w, arJ_ok _ _ _ _ hl hm (by rcases hh with rfl | rfl <;> decide)⟩
theorem nR_snoc (L : List Jb) (i : Nat) (m how : Int) (dv : Value) (hh : how = 1 ∨ how = 5) : nR (L ++ [arJ i m how dv]) = nR L := by
  unfold nR
  rw [List.countP_append]
  rcases hh with rfl | rfl <;> simp [arJ]
theorem nL_le (l : List Jb) : nL l ≤ l.length := List.countP_le_length
theorem nL_take (l : List Jb) {i : Nat} (h : i < l.length) : nL (l.take (i + 1)) = nL (l.take i) + if l[i].how = 1 then 1 else 0 := by
  unfold nL
  rw [count_take _ l h]
  by_cases e : l[i].how = 1 <;> simp [e]
theorem src_jb {w : World} {g : Nat} {j : Jb} (h : Blk w g (jbV j).toArray 41) : Src w 26 (.slice (some ⟨g, 0, none⟩) 1 1) [j].length ([j].flatMap jbV) :=
  src_of_rowG jbV_len (by decide) (rowG_of_own jbV_len (by
    have := own_of_blk (base := 0) (n := 1) (s := 26) h (Nat.zero_le _) rfl (by decide)
    simpa using this))
end Go.Proofs.Ytfabjlhepadkpaa
