/-
  Profiles, plainly: what the laws ask without the document's answer. No program is imported.
-/
import Derived.Test.YtnbgipegfnpobaaPr4
namespace Go.Proofs.Ytnbgipegfnpobaa
set_option linter.unusedVariables false

theorem course_val {g : Int → Int} : ∀ {S : List Lv} {n t : Int} {x : Lv}, Weak S → Course g S → x ∈ S → x.1 ≤ t → (∀ y ∈ S, y.1 ≤ t → y.1 ≤ x.1) → vG n S t = g x.1
  | [], _, _, _, _, _, hx, _, _ => by cases hx
  | a :: r, n, t, x, hw, hc, hx, h1, h2 => by
    show vG (if a.1 ≤ t then a.2 else n) r t = g x.1
    by_cases hr : ∃ y ∈ r, y.1 ≤ t
    · rcases List.mem_cons.1 hx with rfl | hx
      · obtain ⟨y, hy, hyt⟩ := hr
        have e : y.1 = x.1 := by
          have := h2 y (List.mem_cons_of_mem _ hy) hyt
          have := Weak.head hw y hy
          omega
        rw [course_val hw.tail (fun z hz => hc z (List.mem_cons_of_mem _ hz)) hy hyt fun z hz hzt => by rw [e]; exact h2 z (List.mem_cons_of_mem _ hz) hzt, e]
      · exact course_val hw.tail (fun z hz => hc z (List.mem_cons_of_mem _ hz)) hx h1 fun z hz hzt => h2 z (List.mem_cons_of_mem _ hz) hzt
    · have hn : ∀ y ∈ r, t < y.1 := fun y hy => by
        rcases Int.lt_or_le t y.1 with h | h
        · exact h
        · exact absurd ⟨y, hy, h⟩ hr
      rw [vG_none hn]
      rcases List.mem_cons.1 hx with rfl | hx
      · rw [if_pos h1]; exact hc x List.mem_cons_self
      · have := hn x hx; omega
/-- The last tick that has come. -/
theorem last_tick {E : List Lv} (h : Inc E) {t : Int} (h0 : ∃ x ∈ E, x.1 ≤ t) : ∃ x ∈ E, x.1 ≤ t ∧ ∀ y ∈ E, y.1 ≤ t → y.1 ≤ x.1 := by
  have hn : num E t ≠ 0 := fun e => by
    obtain ⟨x, hx, hxt⟩ := h0
    obtain ⟨i, hi, rfl⟩ := mem_lv hx
    have := num_ge h t i (by omega) hi
    omega
  have hl := num_le E t
  refine ⟨lv E (num E t - 1), lv_mem (by omega), num_lt E t _ (by omega), fun y hy hyt => ?_⟩
  obtain ⟨i, hi, rfl⟩ := mem_lv hy
  rcases Nat.lt_trichotomy i (num E t - 1) with h1 | h1 | h1
  · exact Int.le_of_lt (h.at i _ h1 (by omega))
  · rw [h1]; exact Int.le_refl _
  · have := num_ge h t i (by omega) hi; omega
theorem weak_head_min {S : List Lv} {b : Lv} (h : Weak (b :: S)) {x : Int} (hx : x ∈ ats (b :: S)) : b.1 ≤ x := by
  obtain ⟨y, hy, rfl⟩ := List.mem_map.1 hx
  rcases List.mem_cons.1 hy with rfl | hy
  · exact Int.le_refl _
  · exact Weak.head h y hy
theorem same_ticks {g : Int → Int} {E S : List Lv} (hE : Inc E) (hS : Weak S) (cE : Course g E) (cS : Course g S) (hm : ∀ x, x ∈ ats E ↔ x ∈ ats S) : cmpct S = cmpct E := by
  match E, S, hE, hS, cE, cS, hm with
  | [], [], _, _, _, _, _ => rfl
  | [], b :: S, _, _, _, _, hm => have := (hm b.1).2 (by simp [ats]); simp [ats] at this
  | a :: E, [], _, _, _, _, hm => have := (hm a.1).1 (by simp [ats]); simp [ats] at this
  | a :: E, b :: S, hE, hS, cE, cS, hm =>
    have hab : b.1 = a.1 := by
      have h1 := weak_head_min hS ((hm a.1).1 (by simp [ats]))
      have h2 := weak_head_min hE.weak ((hm b.1).2 (by simp [ats]))
      omega
    refine cmpct_uniq hS hE.weak cS cE hab fun t ht => ?_
    obtain ⟨x, hx, hxt, hmax⟩ := last_tick hE (t := t) ⟨a, List.mem_cons_self, by omega⟩
    obtain ⟨y, hy, hyx⟩ := List.mem_map.1 ((hm x.1).1 (List.mem_map.2 ⟨x, hx, rfl⟩))
    have hyx' : y.1 = x.1 := hyx
    show vG 0 (b :: S) t = vG 0 (a :: E) t
    rw [course_val hE.weak cE hx hxt hmax, course_val hS cS hy (by omega) fun z hz hzt => ?_, hyx']
    obtain ⟨u, hu, huz⟩ := List.mem_map.1 ((hm z.1).2 (List.mem_map.2 ⟨z, hz, rfl⟩))
    have huz' : u.1 = z.1 := huz
    have := hmax u hu (by omega)
    omega
/-- Nothing changes where no level begins. -/
theorem vA_const {p : List Lv} (hp : Inc p) {m t : Int} (h : m ≤ t) (hn : ∀ x ∈ p, m < x.1 → ¬ x.1 ≤ t) : vA p m = vA p t := by
  have : num p m = num p t := num_uniq hp (num_le p t) (fun i hi => by
    have h1 := num_lt p t i hi
    rcases Int.lt_or_le m (lv p i).1 with h2 | h2
    · exact absurd h1 (hn _ (lv_mem (Nat.lt_of_lt_of_le hi (num_le p t))) h2)
    · exact h2) (fun i h1 h2 => by have := num_ge hp t i h1 h2; omega)
  rw [vA_num hp, vA_num hp, this]
theorem map_inc {g : Int → Int} : ∀ {l : List Int}, l.Pairwise (· < ·) → Inc (l.map fun t => (t, g t))
  | [], _ => trivial
  | [_], _ => trivial
  | a :: b :: r, h => by
    obtain ⟨h1, h2⟩ := List.pairwise_cons.1 h
    exact ⟨h1 b List.mem_cons_self, map_inc h2⟩
theorem map_course (g : Int → Int) (l : List Int) : Course g (l.map fun t => (t, g t)) := fun x hx => by
  obtain ⟨t, _, rfl⟩ := List.mem_map.1 hx
  rfl
theorem ats_map (g : Int → Int) (l : List Int) : ats (l.map fun t => (t, g t)) = l := by
  unfold ats; rw [List.map_map]
  conv => rhs; rw [← List.map_id l]
  rfl
/-- The profile of a course that changes at some ticks alone. -/
structure Is (q : List Lv) (f : Int) (g : Int → Int) : Prop where
  ok : okP q
  head : (lv q 0).1 = f
  val : ∀ t, f ≤ t → vA q t = g t
theorem lv0_cmpct (a : Lv) (r : List Lv) : lv (cmpct (a :: r)) 0 = a := rfl
theorem is_of {f : Int} {ts : List Int} {g : Int → Int} (hr : ∀ t ∈ endsV f ts, okL (t, g t)) (hc : ∀ m t, f ≤ m → m ≤ t → (∀ s ∈ ts, m < s → ¬ s ≤ t) → g m = g t) :
    Is (cmpct ((endsV f ts).map fun t => (t, g t))) f g := by
  have hpw := ends_pw f ts
  have hmem := mem_ends f ts
  obtain ⟨r, hr'⟩ := ends_head f ts
  generalize endsV f ts = E at *
  subst hr'
  have hI := map_inc (g := g) hpw
  have hC := map_course g (f :: r)
  refine ⟨okP_of (by show (f, g f) :: _ ≠ []; simp) (cmpct_chain g hI.weak hC) fun x hx => ?_, rfl, fun t ht => ?_⟩
  · have : x ∈ (f :: r).map fun t => (t, g t) := by
      rcases List.mem_cons.1 hx with rfl | hx
      · exact List.mem_cons_self
      · exact List.mem_cons_of_mem _ (cmpR_sub _ _ x hx)
    obtain ⟨t, ht, rfl⟩ := List.mem_map.1 this
    exact hr t ht
  · show vG 0 (cmpct _) t = _
    rw [cmpct_val 0 _ hI.weak]
    obtain ⟨x, hx, hxt, hmax⟩ := last_tick hI (t := t) ⟨(f, g f), List.mem_cons_self, ht⟩
    rw [course_val hI.weak hC hx hxt hmax]
    obtain ⟨m, hm, rfl⟩ := List.mem_map.1 hx
    have hfm : f ≤ m := by
      rcases (hmem m).1 hm with rfl | ⟨_, h⟩
      · exact Int.le_refl _
      · omega
    exact hc m t hfm hxt fun s hs h1 h2 => by
      have := hmax (s, g s) (List.mem_map.2 ⟨s, (hmem s).2 (.inr ⟨hs, by omega⟩), rfl⟩) h2
      simp at this; omega
theorem Is.uniq {p q : List Lv} {f : Int} {g h : Int → Int} (hp : Is p f g) (hq : Is q f h) (e : ∀ t, f ≤ t → g t = h t) : p = q := by
  match p, q, hp, hq with
  | [], _, hp, _ => exact absurd rfl hp.ok.1
  | _ :: _, [], _, hq => exact absurd rfl hq.ok.1
  | a :: p, b :: q, hp, hq =>
    have ha : a.1 = f := hp.head
    have hb : b.1 = f := hq.head
    exact Go.Proofs.Ytnbgipegfnpobaa.uniq (n := 0) (m := 0) hp.ok.chain hq.ok.chain (by omega) fun t ht => by
      have h1 := hp.val t (by omega)
      have h2 := hq.val t (by omega)
      show vA (a :: p) t = vA (b :: q) t
      rw [h1, h2]; exact e t (by omega)
theorem Is.self {p : List Lv} (hp : okP p) : Is p (lv p 0).1 (vA p) := ⟨hp, rfl, fun _ _ => rfl⟩

/-! Changes. -/
theorem change_is {p : List Lv} (hp : okP p) {f n k : Int} (hb : ¬ badCh p f n k) (ho : ¬ ∃ t ∈ endsC p f n, overT (newG p f n k t)) : Is (changeV p f n k).1 (lv p 0).1 (newG p f n k) := by
  rw [change_ok hp hb ho]
  have hb' : ¬ (f < (lv p 0).1 ∨ MaxT < f ∨ n < 1 ∨ MaxT - f < n ∨ k < -MaxT ∨ MaxT < k) := hb
  have h0 := (hp.2 0 (List.length_pos_iff.2 hp.1)).1.1
  refine is_of (fun t ht => ?_) fun m t h1 h2 h3 => ?_
  · have hn : ¬ overT (newG p f n k t) := fun h => ho ⟨t, ht, h⟩
    unfold overT at hn
    refine ⟨?_, by show 0 ≤ newG p f n k t ∧ _; omega⟩
    show 0 ≤ t ∧ t ≤ MaxT
    rcases (mem_ends _ _ t).1 ht with rfl | ⟨h, h'⟩
    · exact h0
    · rcases List.mem_append.1 h with h | h
      · obtain ⟨x, hx, rfl⟩ := List.mem_map.1 h
        exact (hp.all x hx).1
      · simp at h; omega
  · unfold newG
    rw [vA_const hp.inc h2 fun x hx => h3 _ (List.mem_append_left _ (List.mem_map.2 ⟨x, hx, rfl⟩))]
    have a1 := h3 f (by simp)
    have a2 := h3 (f + n) (by simp)
    have : inW f n m ↔ inW f n t := by unfold inW; omega
    by_cases hw : inW f n m
    · rw [if_pos hw, if_pos (this.1 hw)]
    · rw [if_neg hw, if_neg fun h => hw (this.2 h)]
theorem change_err {p : List Lv} {f n k : Int} (h : (changeV p f n k).2 = 0) : okP p ∧ ¬ badCh p f n k ∧ ¬ ∃ t ∈ endsC p f n, overT (newG p f n k t) := by
  refine ⟨fun_or fun hp => ?_, fun hb => ?_, fun ho => ?_⟩
  · rw [change_no hp] at h; simp at h
  · by_cases hp : okP p
    · rw [change_bad hp hb] at h; simp at h
    · rw [change_no hp] at h; simp at h
  · by_cases hp : okP p
    · by_cases hb : badCh p f n k
      · rw [change_bad hp hb] at h; simp at h
      · rw [change_full hp hb ho] at h; simp at h
    · rw [change_no hp] at h; simp at h
where fun_or {p : Prop} (h : ¬ p → False) : p := Classical.byContradiction h
theorem change_zero {p : List Lv} {f n k : Int} (h : (changeV p f n k).2 = 0) : Is (changeV p f n k).1 (lv p 0).1 (newG p f n k) := by
  obtain ⟨h1, h2, h3⟩ := change_err h
  exact change_is h1 h2 h3
theorem ends_ge {p : List Lv} {f n t : Int} (h : t ∈ endsC p f n) : (lv p 0).1 ≤ t := by
  rcases (mem_ends _ _ t).1 h with rfl | ⟨_, h'⟩
  · exact Int.le_refl _
  · omega
/-- Given back, it is as it was. -/
theorem change_back {p : List Lv} {f n k : Int} (h : (changeV p f n k).2 = 0) : changeV (changeV p f n k).1 f n (-k) = (p, 0) := by
  obtain ⟨hp, hb, _⟩ := change_err h
  have I := change_zero h
  generalize (changeV p f n k).1 = a at *
  have hb' : ¬ (f < (lv p 0).1 ∨ MaxT < f ∨ n < 1 ∨ MaxT - f < n ∨ k < -MaxT ∨ MaxT < k) := hb
  have hba : ¬ badCh a f n (-k) := by unfold badCh; rw [I.head]; omega
  have hg : ∀ t, (lv p 0).1 ≤ t → newG a f n (-k) t = vA p t := fun t ht => by
    unfold newG; rw [I.val t ht]; unfold newG; split <;> omega
  have ho : ¬ ∃ t ∈ endsC a f n, overT (newG a f n (-k) t) := by
    rintro ⟨t, ht, h⟩
    have := ends_ge ht
    rw [I.head] at this
    rw [hg t this] at h
    exact val_ok hp t h
  have J := change_is I.ok hba ho
  rw [I.head] at J
  have e1 := J.uniq (Is.self hp) hg
  have e2 : (changeV a f n (-k)).2 = 0 := by rw [change_ok I.ok hba ho]
  exact Prod.ext e1 e2
/-- Two changes, in either order. -/
theorem change_swap {p : List Lv} {f n k o j : Int} (h : (changeV p f n k).2 = 0) (h1 : (changeV (changeV p f n k).1 o n j).2 = 0) (h2 : (changeV p o n j).2 = 0) :
    changeV (changeV p o n j).1 f n k = ((changeV (changeV p f n k).1 o n j).1, 0) := by
  obtain ⟨hp, hb, _⟩ := change_err h
  have A := change_zero h
  have C := change_zero h1
  have D := change_zero h2
  generalize (changeV p f n k).1 = a at *
  generalize (changeV a o n j).1 = c at *
  generalize (changeV p o n j).1 = d at *
  rw [A.head] at C
  have hb' : ¬ (f < (lv p 0).1 ∨ MaxT < f ∨ n < 1 ∨ MaxT - f < n ∨ k < -MaxT ∨ MaxT < k) := hb
  have hbd : ¬ badCh d f n k := by unfold badCh; rw [D.head]; omega
  have hg : ∀ t, (lv p 0).1 ≤ t → newG d f n k t = newG a o n j t := fun t ht => by
    unfold newG; rw [D.val t ht, A.val t ht]; unfold newG; omega
  have ho : ¬ ∃ t ∈ endsC d f n, overT (newG d f n k t) := by
    rintro ⟨t, ht, h⟩
    have := ends_ge ht
    rw [D.head] at this
    rw [hg t this, ← C.val t this] at h
    exact val_ok C.ok t h
  have Q := change_is D.ok hbd ho
  rw [D.head] at Q
  have e1 := Q.uniq C hg
  have e2 : (changeV d f n k).2 = 0 := by rw [change_ok D.ok hbd ho]
  exact Prod.ext e1 e2

/-! One course, one profile. -/
theorem one_iff {a b : List Lv} (ha : okP a) (hb : okP b) : ((lv a 0).1 = (lv b 0).1 ∧ (∀ i, i < a.length → vA b (lv a i).1 = (lv a i).2) ∧ (∀ i, i < b.length → vA a (lv b i).1 = (lv b i).2)) ↔ a = b := by
  constructor
  · rintro ⟨h0, h1, h2⟩
    refine (Is.self ha).uniq ⟨hb, h0.symm, fun _ _ => rfl⟩ fun t ht => ?_
    obtain ⟨x, hx, hxt, hxm⟩ := last_tick ha.inc (t := t) ⟨_, lv_mem (List.length_pos_iff.2 ha.1), ht⟩
    obtain ⟨y, hy, hyt, hym⟩ := last_tick hb.inc (t := t) ⟨_, lv_mem (List.length_pos_iff.2 hb.1), by omega⟩
    obtain ⟨i, hi, rfl⟩ := mem_lv hx
    obtain ⟨j, hj, rfl⟩ := mem_lv hy
    have ea : vA a (lv a i).1 = vA a t := vA_const ha.inc hxt fun z hz h1 h2 => by have := hxm z hz h2; omega
    have eb : vA b (lv b j).1 = vA b t := vA_const hb.inc hyt fun z hz h1 h2 => by have := hym z hz h2; omega
    have ca := course_self ha.inc _ (lv_mem hi)
    have cb := course_self hb.inc _ (lv_mem hj)
    rcases Int.lt_or_le (lv a i).1 (lv b j).1 with hlt | hle
    · have e : vA a (lv b j).1 = vA a t := vA_const ha.inc hyt fun z hz h1 h2 => by have := hxm z hz h2; omega
      rw [← e, h2 j hj, ← eb, ← cb]
    · have e : vA b (lv a i).1 = vA b t := vA_const hb.inc hxt fun z hz h1 h2 => by have := hym z hz h2; omega
      rw [← e, h1 i hi, ← ea, ← ca]
  · rintro rfl
    exact ⟨rfl, fun i hi => (course_self ha.inc _ (lv_mem hi)).symm, fun i hi => (course_self ha.inc _ (lv_mem hi)).symm⟩

/-! Where it fits. -/
structure FitAt (p : List Lv) (f n k t : Int) : Prop where
  ok : okP p
  nb : ¬ badFit f n k
  cand : Cand p f t
  free : Free p t n k
  least : ∀ s, Cand p f s → s < t → ¬ Free p s n k
theorem fit_case {p : List Lv} (hp : okP p) {f n k : Int} (hb : ¬ badFit f n k) : (∃ t, fitV p f n k = (t, 0) ∧ FitAt p f n k t) ∨ (fitV p f n k = (0, 5) ∧ ∀ s, Cand p f s → ¬ Free p s n k) := by
  have hb' : ¬ (n < 1 ∨ MaxT < n ∨ f < 0 ∨ MaxT < f ∨ k < 0) := hb
  have key : ∀ s, Cand p f s → (k ≤ leastV p s n ↔ Free p s n k) := fun s hs' => by
    obtain ⟨b1, b2⟩ := hs'.bounds hp (by omega)
    exact least_free hp (by omega) b1 b2 (by omega)
  have hpw := ends_pw (max f (lv p 0).1) (ats p)
  cases hf : (endsV (max f (lv p 0).1) (ats p)).find? (fun t => decide (k ≤ leastV p t n)) with
  | none =>
    have : ∀ s, Cand p f s → ¬ Free p s n k := fun s hs h => by
      have := List.find?_eq_none.1 hf s (cand_iff.2 hs)
      simp at this
      have := (key s hs).2 h; omega
    exact .inr ⟨fit_full hp hb this, this⟩
  | some t =>
    have ht := List.mem_of_find?_eq_some hf
    have hk := List.find?_some hf
    simp only [decide_eq_true_eq] at hk
    have hct := cand_iff.1 ht
    have hmin : ∀ s, Cand p f s → s < t → ¬ Free p s n k := fun s hs hlt h => by
      have hm := cand_iff.2 hs
      have hd := (key s hs).2 h
      obtain ⟨l1, l2, e, hno⟩ := List.find?_eq_some_iff_append.1 hf |>.2
      rw [e] at hpw hm
      obtain ⟨_, p2, p3⟩ := List.pairwise_append.1 hpw
      rcases List.mem_append.1 hm with h1 | h1
      · have := hno s h1; simp at this; omega
      · rcases List.mem_cons.1 h1 with rfl | h1
        · omega
        · have := (List.pairwise_cons.1 p2).1 s h1; omega
    exact .inl ⟨t, fit_at hp hb hct ((key t hct).1 hk) hmin, ⟨hp, hb, hct, (key t hct).1 hk, hmin⟩⟩
theorem fit_zero {p : List Lv} {f n k : Int} (h : (fitV p f n k).2 = 0) : FitAt p f n k (fitV p f n k).1 := by
  by_cases hp : okP p
  · by_cases hb : badFit f n k
    · rw [fit_bad hp hb] at h; simp at h
    · rcases fit_case hp hb with ⟨t, e, ht⟩ | ⟨e, _⟩
      · rw [e]; exact ht
      · rw [e] at h; simp at h
  · rw [fit_no hp] at h; simp at h
/-- No tick ahead of it does, may it be one that is tried or not. -/
theorem FitAt.first {p : List Lv} {f n k t : Int} (h : FitAt p f n k t) {s : Int} (h1 : max f (lv p 0).1 ≤ s) (h2 : s < t) : ¬ Free p s n k := by
  intro hf
  obtain ⟨x, hx, hxs, hmax⟩ := last_tick h.ok.inc (t := s) ⟨_, lv_mem (List.length_pos_iff.2 h.ok.1), by omega⟩
  obtain ⟨i, hi, rfl⟩ := mem_lv hx
  have go : ∀ c, Cand p f c → c ≤ s → (lv p i).1 ≤ c → False := fun c hc hcs hic => by
    refine h.least c hc (by omega) ⟨?_, fun y hy h3 h4 => hf.2 y hy ?_ (by omega)⟩
    · rw [vA_const h.ok.inc hcs fun z hz h3 h4 => by have := hmax z hz h4; omega]
      exact hf.1
    · rcases Int.lt_or_le s y.1 with h5 | h5
      · exact h5
      · have := hmax y hy h5; omega
  rcases Int.lt_or_le (max f (lv p 0).1) (lv p i).1 with h3 | h3
  · exact go _ (.inr ⟨⟨i, hi, rfl⟩, h3⟩) hxs (Int.le_refl _)
  · exact go _ (.inl rfl) h1 h3
theorem Cand.ge {p : List Lv} {f s : Int} (h : Cand p f s) : max f (lv p 0).1 ≤ s := by
  rcases h with rfl | ⟨_, h⟩ <;> omega
/-- Fewer, or for less long, fit no later. -/
theorem FitAt.less {p : List Lv} {f n k t n' k' : Int} (h : FitAt p f n k t) (hn : 1 ≤ n' ∧ n' ≤ n) (hk : 0 ≤ k' ∧ k' ≤ k) : (fitV p f n' k').2 = 0 ∧ (fitV p f n' k').1 ≤ t := by
  have hb' : ¬ (n < 1 ∨ MaxT < n ∨ f < 0 ∨ MaxT < f ∨ k < 0) := h.nb
  have hb : ¬ badFit f n' k' := by unfold badFit; omega
  have hF : Free p t n' k' := ⟨by have := h.free.1; omega, fun x hx h1 h2 => by have := h.free.2 x hx h1 (by omega); omega⟩
  rcases fit_case h.ok hb with ⟨u, e, hu⟩ | ⟨e, hno⟩
  · rw [e]
    refine ⟨rfl, ?_⟩
    show u ≤ t
    rcases Int.lt_or_le t u with h1 | h1
    · exact absurd hF (hu.least t h.cand h1)
    · exact h1
  · exact absurd hF (hno t h.cand)
/-- Later asked, no earlier. -/
theorem FitAt.later {p : List Lv} {f n k t g u : Int} (h : FitAt p f n k t) (hu : FitAt p g n k u) (hfg : f ≤ g) : t ≤ u := by
  rcases Int.lt_or_le u t with h1 | h1
  · have := hu.cand.ge
    exact absurd hu.free (h.first (by omega) h1)
  · exact h1
end Go.Proofs.Ytnbgipegfnpobaa
