/-
  A row of jobs that the call owns: copied, and one job's state written over.
-/
import Derived.Test.YtfabjlhepadkpaaWtQR
import Derived.Test.YtfabjlhepadkpaaWtNO
import Derived.Test.YtfabjlhepadkpaaWtP
namespace Go.Proofs.Ytfabjlhepadkpaa
open Go Go.RowKit Go.Lib
set_option linter.unusedVariables false

/-- One job's state written over. -/
def setH : List Jb → Nat → Int → List Jb
  | [], _, _ => []
  | j :: t, 0, h => { j with how := h } :: t
  | j :: t, k + 1, h => j :: setH t k h
theorem setH_len : ∀ (l : List Jb) (k : Nat) (h : Int), (setH l k h).length = l.length
  | [], _, _ => rfl
  | _ :: _, 0, _ => rfl
  | j :: t, k + 1, h => by rw [setH, List.length_cons, List.length_cons, setH_len t k h]
theorem setH_at : ∀ (l : List Jb) (k : Nat) (h : Int) (i : Nat) (hi : i < l.length), (setH l k h)[i]'(by rw [setH_len]; exact hi) = if i = k then { l[i] with how := h } else l[i]
  | j :: t, 0, h, 0, _ => rfl
  | j :: t, 0, h, i + 1, _ => by rw [if_neg (by omega)]; rfl
  | j :: t, k + 1, h, 0, _ => by rw [if_neg (by omega)]; rfl
  | j :: t, k + 1, h, i + 1, hi => by
    have := setH_at t k h i (by simpa using hi)
    show (setH t k h)[i]'_ = _
    rw [this]
    by_cases e : i = k
    · rw [if_pos e, if_pos (by omega)]; rfl
    · rw [if_neg e, if_neg (by omega)]; rfl
theorem setH_mem {l : List Jb} {k : Nat} {h : Int} {j : Jb} (hj : j ∈ setH l k h) : j ∈ l ∨ ∃ o ∈ l, j = { o with how := h } := by
  obtain ⟨i, hi, rfl⟩ := List.getElem_of_mem hj
  rw [setH_len] at hi
  rw [setH_at l k h i hi]
  split
  · exact .inr ⟨_, List.getElem_mem hi, rfl⟩
  · exact .inl (List.getElem_mem hi)
theorem setH_flat : ∀ (l : List Jb) (k : Nat) (h : Int), k < l.length → (l.flatMap jbV).set (k * 26 + 19) (.int .i64 h) = (setH l k h).flatMap jbV
  | j :: t, 0, h, _ => by
    rw [setH, List.flatMap_cons, List.flatMap_cons, List.set_append_left _ _ (by rw [jbV_len]; decide)]
    rfl
  | j :: t, k + 1, h, hk => by
    rw [setH, List.flatMap_cons, List.flatMap_cons, List.set_append_right _ _ (by rw [jbV_len]; omega), jbV_len]
    rw [show (k + 1) * 26 + 19 - 26 = k * 26 + 19 by omega, setH_flat t k h (by simpa using hk)]
/-- How many wait. -/
def nW (l : List Jb) : Nat := l.countP fun j => decide (j.how ≤ 2)
theorem nW_le (l : List Jb) : nW l ≤ l.length := List.countP_le_length
theorem nW_nine : ∀ (l : List Jb) (k : Nat) (hk : k < l.length), nW (setH l k 9) + (if l[k].how ≤ 2 then 1 else 0) = nW l
  | j :: t, 0, _ => by
    unfold nW
    rw [setH, List.countP_cons, List.countP_cons]
    by_cases h : j.how ≤ 2 <;> simp [h]
  | j :: t, k + 1, hk => by
    have := nW_nine t k (by simpa using hk)
    unfold nW at this ⊢
    rw [setH, List.countP_cons, List.countP_cons]
    simp only [List.getElem_cons_succ]
    omega
theorem setH_ok {l : List Jb} (hok : okJs l = true) {k : Nat} {h : Int} (hh : howJ h ≠ 0) : okJs (setH l k h) = true := by
  rw [okJs_iff] at hok ⊢
  intro i hi
  have hi' : i < l.length := by rw [setH_len] at hi; exact hi
  rw [setH_at l k h i hi']
  split
  · exact ⟨(hok i hi').1, hh⟩
  · exact hok i hi'
/-- What a job's own rows are, in the memory from the beginning. -/
def Orig (w : World) (l : List Jb) : Prop := ∀ j ∈ l, NRw w j.dv j.nd ∧ GRow w j.av j.al ∧ JbOk j
theorem orig_of {w : World} {v : Value} {l : List Jb} (h : JRw w v l) : Orig w l := fun j hj => ⟨h.nds j hj, h.als j hj, h.ok j hj⟩
theorem Orig.set {w : World} {l : List Jb} (h : Orig w l) {k : Nat} {z : Int} (hz : (Lit.int .i64 z).wf = true) : Orig w (setH l k z) := fun j hj => by
  rcases setH_mem hj with hj | ⟨o, ho, rfl⟩
  · exact h j hj
  · obtain ⟨h1, h2, h3⟩ := h o ho
    refine ⟨h1, h2, ⟨h3.id, h3.arr, fun x hx => ?_, h3.name, h3.acct, h3.prt, h3.qos, h3.run⟩⟩
    have h4 := h3.ints
    simp only [List.mem_cons, List.not_mem_nil, or_false] at hx h4
    rcases hx with rfl | rfl | rfl | rfl | rfl | rfl | rfl | rfl | rfl | rfl | rfl | rfl | rfl | rfl
    all_goals first | exact hz | (apply h4; simp)
abbrev JOwn (w : World) (base : Nat) (v : Value) (n : Nat) (l : List Jb) : Prop := w.ownsRow base 41 26 v n (l.flatMap jbV)
theorem jrw_of_own {w0 w : World} {base : Nat} {v : Value} {n : Nat} {l : List Jb} (h : JOwn w base v n l) (hn : n = l.length) (ho : Orig w0 l) (hb : Below w0.heap.size w0 w) (hl : l.length ≤ 1048576) : JRw w v l := by
  subst hn
  exact ⟨rowG_of_own jbV_len h, fun j hj => (ho j hj).1.kept hb, fun j hj => (ho j hj).2.1.kept hb, fun j hj => (ho j hj).2.2, hl⟩
theorem own_how {w : World} {base g n c k : Nat} {l : List Jb} (h : JOwn w base (.slice (some ⟨g, 0, none⟩) n c) n l) (hn : n = l.length) (hk : k < n) (z : Int) :
    (∃ u, w.cell? ⟨g, k * 26 + 19, none⟩ = some u) ∧ w.frozen? ⟨g, k * 26 + 19, none⟩ = false ∧ JOwn (w.setCell ⟨g, k * 26 + 19, none⟩ (.int .i64 z)) base (.slice (some ⟨g, 0, none⟩) n c) n (setH l k z) ∧ Chg (fun b => b = g) w (w.setCell ⟨g, k * 26 + 19, none⟩ (.int .i64 z)) := by
  obtain ⟨h1, h2, h3, h4⟩ := owns_put h (j := k * 26 + 19) (by omega) (.int .i64 z)
  rw [setH_flat l k z (by omega)] at h3
  exact ⟨h1, h2, h3, h4⟩
theorem Try.infoJbB : (Try.prog.info? 41).map (fun i => (i.zero, i.size, decide (i.bytes ≤ 1000))) = some (some (.agg zJbC), 26, true) := by kernel_rfl
theorem jobs_one {l : List Jb} (h : ∀ j ∈ l, JbS j) : ∀ u ∈ l.flatMap jbV, u.oneCell' = true := fun u hu => by
  obtain ⟨j, hj, h2⟩ := List.mem_flatMap.1 hu
  exact jbV_one (h j hj) u h2
/-- A row of jobs behind another one, of the call's own. -/
theorem app_jobs {ops : Array Oper} {rest : List Oper} {o : Oper} {a : Act} {w : World} {Q : Exit → Act → World → Prop} (hgd : o.guard = none) (s x : Operand)
    (ho : o.op = .call { callee := .builtin .append, args := #[s, x], argTypes := #[22, 22] }) (base : Nat)
    (v : Value) (n : Nat) (xs : List Jb) (hs : a.eval s = v) (hown : JOwn w base v n xs) (hxs : n = xs.length)
    (sv : Value) (l : List Jb) (hx : a.eval x = sv) (hsrc : Src w 26 sv l.length (l.flatMap jbV)) (h1 : ∀ j ∈ l, JbS j)
    (hsm : n + l.length ≤ 1048576) (hbase : base ≤ w.heap.size)
    (h : ∀ v' w', JOwn w' base v' (n + l.length) (xs ++ l) → w.grownBy w' v.ownBlock → (v'.ownBlock = v.ownBlock ∨ v'.ownBlock = some w.heap.size) → wpList Try.prog ops Q rest (a.put o.dst v') w') :
    wpList Try.prog ops Q (o :: rest) a w := by
  have hi := Try.infoJbB
  cases hie : Try.prog.info? 41 with
  | none => rw [hie] at hi; cases hi
  | some ie =>
    rw [hie] at hi
    simp only [Option.map_some, Option.some.injEq, Prod.mk.injEq] at hi
    obtain ⟨hz, hsz, hby⟩ := hi
    have hby := of_decide_eq_true hby
    refine wpList_app hgd s x 22 ho base 41 ie (.agg zJbC) 26 ie.bytes Try.underlying22 hie hz hsz rfl rfl (by decide) v n (xs.flatMap jbV) hs hown sv l.length (l.flatMap jbV) hx hsrc (jobs_one h1) (by unfold maxLen; omega) ?_ hbase fun v' w' h2 h3 h4 => h v' w' ?_ h3 h4
    · refine Nat.le_trans (Nat.mul_le_mul hsm hby) (by decide)
    · show w'.ownsRow base _ 26 v' _ ((xs ++ l).flatMap jbV)
      rw [List.flatMap_append]; exact h2
theorem never_facts {l : List Jb} {j : Jb} {t : Int} (h : sayJ l j t = 3) : 1 ≤ j.how ∧ j.how ≤ 2 ∧ ∀ now, sayJ l j now = 3 := by
  refine ⟨?_, ?_, fun now => say_three.1 h⟩
  all_goals
    unfold sayJ at h
    split at h
    · rename_i h1
      have := howJ_one.1 h1; omega
    · omega
/-! When all others have ended. -/
structure Ended (L : List Jb) (k : Nat) (hk : k < L.length) : Prop where
  ok : okJs L = true
  one : L[k].how = 1
  rest : ∀ i (hi : i < L.length), i ≠ k → 5 ≤ L[i].how ∧ L[i].how ≤ 9
theorem howJ_end {h : Int} (h1 : 5 ≤ h ∧ h ≤ 9) : howJ h = 3 ∨ howJ h = 4 := by
  unfold howJ
  rw [if_neg (by omega), if_neg (by omega)]
  by_cases h5 : h = 5
  · rw [if_pos h5]; exact .inl rfl
  · rw [if_neg h5, if_pos (by omega)]; exact .inr rfl
theorem Ended.alone {L : List Jb} {k : Nat} {hk : k < L.length} (h : Ended L k hk) : aloneJ L L[k] = true := by
  unfold aloneJ
  have : L.any (busyJ L[k]) = false := by
    rw [List.any_eq_false]
    intro o ho
    obtain ⟨i, hi, rfl⟩ := List.getElem_of_mem ho
    by_cases e : i = k
    · subst e
      unfold busyJ otherJ
      simp
    · unfold busyJ stirJ
      rcases howJ_end (h.rest i hi e) with e1 | e1 <;> rw [e1] <;> simp
  rw [this]; rfl
theorem Ended.room {L : List Jb} {k : Nat} {hk : k < L.length} (h : Ended L k hk) (hm : 0 ≤ L[k].most) : roomJ L L[k] = true := by
  unfold roomJ
  by_cases h1 : L[k].arr = 0
  · rw [h1]; rfl
  by_cases h2 : L[k].most = 0
  · rw [h2]; simp
  have hz : L.countP (runJ L[k]) = 0 := by
    rw [List.countP_eq_zero]
    intro o ho
    obtain ⟨i, hi, rfl⟩ := List.getElem_of_mem ho
    unfold runJ
    by_cases e : i = k
    · subst e; rw [h.one]; simp [howJ]
    · rcases howJ_end (h.rest i hi e) with e1 | e1 <;> rw [e1] <;> simp
  rw [hz]
  have : decide (((0 : Nat) : Int) < L[k].most) = true := decide_eq_true (by omega)
  rw [this]; simp
theorem Ended.howAt {L : List Jb} {k : Nat} {hk : k < L.length} (h : Ended L k hk) {id : Nat} (h1 : 1 ≤ id) (hne : id ≠ k + 1) : howAt L id = 0 ∨ howAt L id = 3 ∨ howAt L id = 4 := by
  unfold Go.Proofs.Ytfabjlhepadkpaa.howAt
  by_cases hi : id - 1 < L.length
  · rw [List.getElem?_eq_getElem hi]
    exact .inr (howJ_end (h.rest _ hi (by omega)))
  · rw [List.getElem?_eq_none (by omega)]; exact .inl rfl
theorem worst_two {s : List Int} (h : ∀ x ∈ s, x = 2 ∨ x = 3) : worst s = 2 ∨ worst s = 3 := by
  unfold worst
  by_cases h3 : 3 ∈ s
  · rw [if_pos h3]; exact .inr rfl
  · rw [if_neg h3, if_neg]
    · exact .inl rfl
    · intro h1; rcases h 1 h1 with e | e <;> omega
theorem best_two {s : List Int} (h : ∀ x ∈ s, x = 2 ∨ x = 3) : best3 s = 2 ∨ best3 s = 3 := by
  unfold best3
  by_cases h3 : 2 ∈ s
  · rw [if_pos h3]; exact .inl rfl
  · rw [if_neg h3, if_neg]
    · exact .inr rfl
    · intro h1; rcases h 1 h1 with e | e <;> omega
theorem Ended.needs {L : List Jb} {k : Nat} {hk : k < L.length} (h : Ended L k hk) (hd : okD L[k].any (ndsOf L[k].nd)) (hs : ∀ p ∈ L[k].nd, (k + 1) ∉ p.2.2) : sayB L[k].any true (allW L) (ndsOf L[k].nd) = 2 ∨ sayB L[k].any true (allW L) (ndsOf L[k].nd) = 3 := by
  have hall : ∀ x ∈ (ndsOf L[k].nd).map (sayN true (allW L)), x = 2 ∨ x = 3 := fun x hx => by
    obtain ⟨n, hn, rfl⟩ := List.mem_map.1 hx
    obtain ⟨p, hp, rfl⟩ := List.mem_map.1 hn
    unfold sayN
    split
    · exact .inl rfl
    · apply worst_two
      intro y hy
      unfold sayJs at hy
      obtain ⟨j, hj, rfl⟩ := List.mem_map.1 hy
      have hj' : j ∈ p.2.2 := hj
      have h1 : 1 ≤ j := okN_pos (okD_mem hd hp) j hj
      have hne : j ≠ k + 1 := fun e => hs p hp (e ▸ hj')
      rw [howL_all h.ok h1]
      unfold ofT
      rcases h.howAt h1 hne with e | e | e <;> rw [e] <;> (repeat' split) <;> omega
  unfold sayB
  rw [if_pos hd]
  unfold sayD
  split
  · exact best_two hall
  · exact worst_two hall
theorem Ended.say {L : List Jb} {k : Nat} {hk : k < L.length} (h : Ended L k hk) (hd : okD L[k].any (ndsOf L[k].nd)) (hs : ∀ p ∈ L[k].nd, (k + 1) ∉ p.2.2) (hm : 0 ≤ L[k].most) : SayJ L (k + 1) L[k].beg = 2 ∨ SayJ L (k + 1) L[k].beg = 3 := by
  rw [SayJ_nth h.ok hk]
  have hn := h.needs hd hs
  rw [← h.alone] at hn
  unfold sayJ
  rw [if_pos (howJ_one.2 (.inl h.one)), if_neg]
  · exact hn
  · rintro ⟨_, e | e | e⟩
    · rw [h.one] at e; omega
    · omega
    · rw [h.room hm] at e; cases e
theorem Ended.bad {L : List Jb} {k : Nat} {hk : k < L.length} (h : Ended L k hk) (hd : ¬ okD L[k].any (ndsOf L[k].nd)) (t : Int) : SayJ L (k + 1) t = 0 := by
  rw [SayJ_nth h.ok hk]
  have e : ∀ al, sayB L[k].any al (allW L) (ndsOf L[k].nd) = 0 := fun al => by unfold sayB; rw [if_neg hd]
  unfold sayJ
  rw [if_pos (howJ_one.2 (.inl h.one)), e, if_neg (by rintro ⟨h, _⟩; omega)]
end Go.Proofs.Ytfabjlhepadkpaa
