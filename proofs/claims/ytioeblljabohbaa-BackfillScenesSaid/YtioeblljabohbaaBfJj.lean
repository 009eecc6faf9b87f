/-
  The first tick at which a block is free, step by step: as gangerref15.when goes.
  What a plan promises, plainly: places are free, apart from one another, the earliest ones.
  The earliest tick, plainly: for less long, and for less great, it is no later; a remainder of numbers without a sign.
-/
import Derived.Test.YtioeblljabohbaaBfTk
import Derived.Test.YtioeblljabohbaaBfPl
import Derived.Test.YtioeblljabohbaaBfZz
import Derived.Test.YtioeblljabohbaaBfF
namespace Go.Proofs.Ytioeblljabohbaa
set_option linter.unusedVariables false

section
open Go Go.RowKit Go.Lib Go.Sort
theorem earlyC_step {c : Sc} {q t len : Nat} {r : Option Nat} (h : IsNext (endsB c.hl) t r) :
    earlyC c q t len = match firstB c q t (t + len) with | some s => some (t, s) | none => match r with | some y => earlyC c q y len | none => none := by
  unfold earlyC
  rw [tks_step (endsC_sorted c)]
  have e := (find_next (endsC_sorted c) t).det (endsC_mem c) h
  rw [e]
  cases r with
  | none =>
    show earlyL c q len [t] = _
    rw [earlyL]
    cases firstB c q t (t + len) <;> rfl
  | some y =>
    show earlyL c q len (t :: tks (endsC c) y) = _
    rw [earlyL]
    cases firstB c q t (t + len) <;> rfl
/-- Ever fewer ends lie ahead. -/
theorem IsNext.fewer {B : List Nat} {t y : Nat} (h : IsNext B t (some y)) : (B.countP fun x => decide (y < x)) < B.countP fun x => decide (t < x) := by
  rcases h with ⟨h1, _⟩ | ⟨z, h1, h2, h3, _⟩
  · cases h1
  · injection h1 with h1
    subst h1
    have key : ∀ L : List Nat, (L.countP fun x => decide (y < x)) ≤ L.countP (fun x => decide (t < x)) ∧ (y ∈ L → (L.countP fun x => decide (y < x)) < L.countP fun x => decide (t < x)) := by
      intro L
      induction L with
      | nil => exact ⟨Nat.le_refl _, fun h => by cases h⟩
      | cons z L ihL =>
        rw [List.countP_cons, List.countP_cons]
        obtain ⟨i1, i2⟩ := ihL
        refine ⟨?_, fun hy => ?_⟩
        · by_cases hz : y < z
          · rw [decide_eq_true hz, decide_eq_true (show t < z by omega)]; simp; exact i1
          · rw [decide_eq_false hz]; simp; omega
        · rcases List.mem_cons.1 hy with rfl | h4
          · rw [decide_eq_false (Nat.lt_irrefl y), decide_eq_true h3]; simp; omega
          · have := i2 h4
            by_cases hz : y < z
            · rw [decide_eq_true hz, decide_eq_true (show t < z by omega)]; simp; omega
            · rw [decide_eq_false hz]; simp; omega
    exact (key B).2 h2
end

section
open Go Go.RowKit Go.Lib Go.Sort
theorem firstB_some {c : Sc} {q a b s : Nat} (h : firstB c q a b = some s) (hq : q ≤ c.n) : blkOk c.n s q ∧ freeB c s q a b = true := by
  unfold firstB at h
  obtain ⟨i, hi, rfl⟩ := Option.map_eq_some_iff.1 h
  obtain ⟨h1, h2, _⟩ := leastP_some.1 hi
  refine ⟨⟨hq, Nat.mul_mod_left _ _, ?_⟩, h2⟩
  have e : 2 ^ (c.n - q) * 2 ^ q = 2 ^ c.n := by rw [← Nat.pow_add]; congr 1; omega
  rw [← e, ← Nat.succ_mul]
  exact Nat.mul_le_mul_right _ h1
theorem firstB_none {c : Sc} {q a b s : Nat} (h : firstB c q a b = none) (hs : blkOk c.n s q) : freeB c s q a b = false := by
  unfold firstB at h
  have hn := Option.map_eq_none_iff.1 h
  obtain ⟨h1, h2, h3⟩ := hs
  obtain ⟨k, rfl⟩ := mod_dvd h2
  have e : 2 ^ (c.n - q) * 2 ^ q = 2 ^ c.n := by rw [← Nat.pow_add]; congr 1; omega
  have hk : k < 2 ^ (c.n - q) := by
    apply Nat.lt_of_mul_lt_mul_right (a := 2 ^ q)
    rw [e, Nat.mul_comm k]
    have := two_pos q
    omega
  have := leastP_none.1 hn k hk
  rwa [Nat.mul_comm] at this
theorem freeB_iff {c : Sc} {s o a b : Nat} : freeB c s o a b = true ↔ (∀ w ∈ c.fl, meetB w 0 s o = false) ∧ ∀ h ∈ c.hl, keeps h a b = true → meetB h.1 h.2.1 s o = false := by
  unfold freeB
  rw [Bool.and_eq_true, List.all_eq_true, List.all_eq_true]
  refine and_congr (forall_congr' fun w => forall_congr' fun _ => by simp) (forall_congr' fun h => forall_congr' fun _ => ?_)
  cases keeps h a b <;> simp
theorem keeps_iff {h : HeT} {a b : Nat} : keeps h a b = true ↔ h.2.2.1 < b ∧ a < h.2.2.2 := by
  unfold keeps; rw [Bool.and_eq_true, decide_eq_true_eq, decide_eq_true_eq]
theorem freeB_back {c : Sc} {s o u len t : Nat} (hle : t ≤ u) (hno : ∀ x ∈ endsB c.hl, t < x → u < x) (h : freeB c s o u (u + len) = true) : freeB c s o t (t + len) = true := by
  obtain ⟨h1, h2⟩ := freeB_iff.1 h
  refine freeB_iff.2 ⟨h1, fun x hx hk => ?_⟩
  obtain ⟨k1, k2⟩ := keeps_iff.1 hk
  exact h2 x hx (keeps_iff.2 ⟨by omega, hno _ (List.mem_map.2 ⟨x, hx, rfl⟩) k2⟩)
/-- For less long, or less great, it is free too. -/
theorem freeB_less {c : Sc} {s o o' t len len' : Nat} (ho : o' ≤ o) (hl : len' ≤ len) (h : freeB c s o t (t + len) = true) : freeB c s o' t (t + len') = true := by
  have hp : 2 ^ o' ≤ 2 ^ o := Nat.pow_le_pow_right (by omega) ho
  have hm : ∀ a b, meetB a b s o = false → meetB a b s o' = false := by
    intro a b hab
    unfold meetB at *
    rw [Bool.and_eq_false_iff, decide_eq_false_iff_not, decide_eq_false_iff_not] at *
    omega
  obtain ⟨h1, h2⟩ := freeB_iff.1 h
  refine freeB_iff.2 ⟨fun x hx => hm _ _ (h1 x hx), fun x hx hk => ?_⟩
  obtain ⟨k1, k2⟩ := keeps_iff.1 hk
  exact hm _ _ (h2 x hx (keeps_iff.2 ⟨by omega, k2⟩))
theorem blkOk_less {n s o o' : Nat} (ho : o' ≤ o) (h : blkOk n s o) : blkOk n s o' := by
  obtain ⟨h1, h2, h3⟩ := h
  have hp : 2 ^ o' ≤ 2 ^ o := Nat.pow_le_pow_right (by omega) ho
  refine ⟨by omega, ?_, by omega⟩
  exact Nat.mod_eq_zero_of_dvd (Nat.dvd_trans (Nat.pow_dvd_pow 2 ho) (Nat.dvd_of_mod_eq_zero h2))
theorem tks_ahead (B : List Nat) (hB : B.Pairwise (· ≤ ·)) : ∀ a u, a ≤ u → ∃ x ∈ tks B a, a ≤ x ∧ x ≤ u ∧ ∀ y ∈ B, x < y → u < y := by
  induction B with
  | nil => intro a u h; exact ⟨a, by simp [tks], Nat.le_refl _, h, by simp⟩
  | cons y B ih =>
    intro a u h
    obtain ⟨hy, hB'⟩ := List.pairwise_cons.1 hB
    rw [tks]
    split
    · rename_i hay
      by_cases huy : u < y
      · refine ⟨a, List.mem_cons_self .., Nat.le_refl _, h, fun z hz _ => ?_⟩
        rcases List.mem_cons.1 hz with rfl | hz
        · exact huy
        · have := hy z hz; omega
      · obtain ⟨x, hx, h1, h2, h3⟩ := ih hB' y u (by omega)
        refine ⟨x, List.mem_cons_of_mem _ hx, by omega, h2, fun z hz hlt => ?_⟩
        rcases List.mem_cons.1 hz with rfl | hz
        · omega
        · exact h3 z hz hlt
    · rename_i hay
      obtain ⟨x, hx, h1, h2, h3⟩ := ih hB' a u h
      refine ⟨x, hx, h1, h2, fun z hz hlt => ?_⟩
      rcases List.mem_cons.1 hz with rfl | hz
      · omega
      · exact h3 z hz hlt
theorem earlyL_some {c : Sc} {q len t s : Nat} : ∀ {L : List Nat}, L.Pairwise (· < ·) → earlyL c q len L = some (t, s) → t ∈ L ∧ firstB c q t (t + len) = some s ∧ ∀ x ∈ L, x < t → firstB c q x (x + len) = none := by
  intro L
  induction L with
  | nil => intro _ h; cases h
  | cons y L ih =>
    intro hL h
    obtain ⟨hy, hL'⟩ := List.pairwise_cons.1 hL
    rw [earlyL] at h
    cases hf : firstB c q y (y + len) with
    | some s' =>
      rw [hf] at h
      obtain ⟨rfl, rfl⟩ : y = t ∧ s' = s := by simpa using h
      refine ⟨List.mem_cons_self .., hf, fun x hx hlt => ?_⟩
      rcases List.mem_cons.1 hx with rfl | hx
      · omega
      · have := hy x hx; omega
    | none =>
      rw [hf] at h
      obtain ⟨h1, h2, h3⟩ := ih hL' h
      refine ⟨List.mem_cons_of_mem _ h1, h2, fun x hx hlt => ?_⟩
      rcases List.mem_cons.1 hx with rfl | hx
      · exact hf
      · exact h3 x hx hlt
theorem earlyL_none {c : Sc} {q len : Nat} : ∀ {L : List Nat}, earlyL c q len L = none → ∀ x ∈ L, firstB c q x (x + len) = none := by
  intro L
  induction L with
  | nil => intro _ x hx; cases hx
  | cons y L ih =>
    intro h x hx
    rw [earlyL] at h
    cases hf : firstB c q y (y + len) with
    | some s' => rw [hf] at h; cases h
    | none =>
      rw [hf] at h
      rcases List.mem_cons.1 hx with rfl | hx
      · exact hf
      · exact ih h x hx
theorem earlyC_some {c : Sc} {q a len t s : Nat} (h : earlyC c q a len = some (t, s)) : a ≤ t ∧ firstB c q t (t + len) = some s := by
  unfold earlyC at h
  obtain ⟨h1, h2, _⟩ := earlyL_some (tks_inc _ _) h
  obtain ⟨L, hL, hx⟩ := tks_head (endsC c) a
  rw [hL] at h1
  rcases List.mem_cons.1 h1 with rfl | h1
  · exact ⟨Nat.le_refl _, h2⟩
  · exact ⟨Nat.le_of_lt (hx _ h1), h2⟩
theorem earlyC_bound {c : Sc} {q a len t s M : Nat} (h : earlyC c q a len = some (t, s)) (ha : a ≤ M) (hM : ∀ x ∈ c.hl, x.2.2.2 ≤ M) : t ≤ M := by
  unfold earlyC at h
  refine tks_bound ha (fun x hx => ?_) t (earlyL_some (tks_inc _ _) h).1
  obtain ⟨y, hy, rfl⟩ := List.mem_map.1 ((endsC_mem c x).1 hx)
  exact hM y hy
/-- It is the earliest: what is free at a tick is free at the last end up to it. -/
theorem earlyC_le {c : Sc} {q a len u s : Nat} (hu : a ≤ u) (hs : blkOk c.n s q) (hf : freeB c s q u (u + len) = true) : ∃ t s', earlyC c q a len = some (t, s') ∧ t ≤ u := by
  obtain ⟨x, hx, h1, h2, h3⟩ := tks_ahead (endsC c) (endsC_sorted c) a u hu
  have hfx : freeB c s q x (x + len) = true := freeB_back h2 (fun y hy => h3 y ((endsC_mem c y).2 hy)) hf
  cases he : earlyC c q a len with
  | none =>
    have := firstB_none (earlyL_none (by unfold earlyC at he; exact he) x hx) hs
    rw [hfx] at this; cases this
  | some p =>
    obtain ⟨t, s'⟩ := p
    refine ⟨t, s', rfl, ?_⟩
    rcases Nat.lt_or_ge u t with hlt | hge
    · have := firstB_none ((earlyL_some (tks_inc _ _) (by unfold earlyC at he; exact he)).2.2 x hx (by omega)) hs
      rw [hfx] at this; cases this
    · exact hge
theorem earlyC_not {c : Sc} {q a len t s u : Nat} (hq : q ≤ c.n) (h : earlyC c q a len = some (t, s)) (hu : a ≤ u) (hlt : u < t) : firstB c q u (u + len) = none := by
  cases hf : firstB c q u (u + len) with
  | none => rfl
  | some s' =>
    obtain ⟨h1, h2⟩ := firstB_some hf hq
    obtain ⟨t', s2, h3, h4⟩ := earlyC_le hu h1 h2
    rw [h] at h3
    injection h3 with h3
    injection h3 with h3 _
    omega

/-- What a slot holds. -/
def heOf (x : SlT) : HeT := (x.2.1, x.2.2.1, x.2.2.2.1, x.2.2.2.1 + x.2.2.2.2)
def jobOf (x : SlT) : Nat × Nat × Nat := (x.1, x.2.2.1, x.2.2.2.2)
/-- Two slots that have no worker in common at a tick. -/
def noC (x y : SlT) : Prop := keeps (heOf x) y.2.2.2.1 (y.2.2.2.1 + y.2.2.2.2) = true → meetB x.2.1 x.2.2.1 y.2.1 y.2.2.1 = false
theorem noC.symm {x y : SlT} (h : noC x y) : noC y x := by
  intro k
  rw [meetB_comm]
  refine h (keeps_iff.2 ?_)
  have := keeps_iff.1 k
  unfold heOf at this ⊢
  dsimp only at this ⊢
  omega
theorem freeB_more {n : Nat} {fl : List Nat} {H : List HeT} {x y : SlT} : freeB ⟨n, fl, heOf x :: H⟩ y.2.1 y.2.2.1 y.2.2.2.1 (y.2.2.2.1 + y.2.2.2.2) = true ↔ noC x y ∧ freeB ⟨n, fl, H⟩ y.2.1 y.2.2.1 y.2.2.2.1 (y.2.2.2.1 + y.2.2.2.2) = true := by
  rw [freeB_iff, freeB_iff]
  dsimp only
  rw [List.forall_mem_cons]
  unfold noC
  constructor
  · rintro ⟨h1, h2, h3⟩; exact ⟨h2, h1, h3⟩
  · rintro ⟨h2, h1, h3⟩; exact ⟨h1, h2, h3⟩
theorem freeB_app {n : Nat} {fl : List Nat} {H : List HeT} {S : List SlT} {y : SlT} (h : freeB ⟨n, fl, H⟩ y.2.1 y.2.2.1 y.2.2.2.1 (y.2.2.2.1 + y.2.2.2.2) = true) (hS : ∀ x ∈ S, noC x y) : freeB ⟨n, fl, H ++ S.map heOf⟩ y.2.1 y.2.2.1 y.2.2.2.1 (y.2.2.2.1 + y.2.2.2.2) = true := by
  rw [freeB_iff] at *
  refine ⟨h.1, fun z hz hk => ?_⟩
  rcases List.mem_append.1 hz with hz | hz
  · exact h.2 z hz hk
  · obtain ⟨x, hx, rfl⟩ := List.mem_map.1 hz
    exact hS x hx hk
theorem placeB_ok {n : Nat} {fl : List Nat} {H : List HeT} {md q now len t s : Nat} (hq : q ≤ n) (h : placeB n fl H md q now len = some (t, s)) :
    blkOk n s q ∧ now ≤ t ∧ freeB ⟨n, fl, H⟩ s q t (t + len) = true ∧ ∀ M, now ≤ M → (∀ x ∈ H, x.2.2.2 ≤ M) → t ≤ M := by
  unfold placeB at h
  split at h
  · obtain ⟨s', h1, h2⟩ := Option.map_eq_some_iff.1 h
    injection h2 with e1 e2
    subst e1 e2
    obtain ⟨h3, h4⟩ := firstB_some h1 hq
    exact ⟨h3, Nat.le_refl _, h4, fun M hM _ => hM⟩
  · split at h
    · obtain ⟨h1, h2⟩ := earlyC_some h
      obtain ⟨h3, h4⟩ := firstB_some h2 hq
      exact ⟨h3, h1, h4, fun M hM hH => earlyC_bound h hM hH⟩
    · cases h
theorem placeB_now {n : Nat} {fl : List Nat} {H : List HeT} {q now len t s : Nat} (h : placeB n fl H 1 q now len = some (t, s)) : t = now := by
  unfold placeB at h
  rw [if_pos rfl] at h
  obtain ⟨s', h1, h2⟩ := Option.map_eq_some_iff.1 h
  injection h2 with e1 e2
  exact e1.symm
theorem everB_le {n : Nat} {fl : List Nat} {q : Nat} (h : ¬ everB n fl q = false) : q ≤ n := by
  unfold everB at h
  rcases Nat.lt_or_ge n q with h1 | h1
  · rw [decide_eq_false (show ¬ q ≤ n by omega), Bool.false_and] at h; exact absurd rfl h
  · exact h1
theorem planL_cases (n : Nat) (fl : List Nat) (now wait after id q len : Nat) (ws : List (Nat × Nat × Nat)) (H : List HeT) (find : Nat) (waits : Bool) :
    (∃ f' w', planL n fl now wait after ((id, q, len) :: ws) H find waits = planL n fl now wait after ws H f' w') ∨
    ∃ md f' w' t s, q ≤ n ∧ placeB n fl H md q now len = some (t, s) ∧ planL n fl now wait after ((id, q, len) :: ws) H find waits = (id, s, q, t, len) :: planL n fl now wait after ws ((s, q, t, t + len) :: H) f' w' := by
  rw [planL]
  split
  · exact .inl ⟨_, _, rfl⟩
  · rename_i he
    split
    · rename_i t s hp
      exact .inr ⟨_, _, _, t, s, everB_le he, hp, rfl⟩
    · split
      · exact .inl ⟨_, _, rfl⟩
      · split
        · rename_i t s hp
          exact .inr ⟨_, _, _, t, s, everB_le he, hp, rfl⟩
        · exact .inl ⟨_, _, rfl⟩
/-- Each place is free, and apart from the others. -/
theorem planL_free (n : Nat) (fl : List Nat) (now wait after : Nat) : ∀ (ws : List (Nat × Nat × Nat)) (H : List HeT) (find : Nat) (waits : Bool),
    (∀ x ∈ planL n fl now wait after ws H find waits, blkOk n x.2.1 x.2.2.1 ∧ now ≤ x.2.2.2.1 ∧ freeB ⟨n, fl, H⟩ x.2.1 x.2.2.1 x.2.2.2.1 (x.2.2.2.1 + x.2.2.2.2) = true) ∧ (planL n fl now wait after ws H find waits).Pairwise noC := by
  intro ws
  induction ws with
  | nil => intro H f w; exact ⟨(fun x hx => nomatch hx), List.Pairwise.nil⟩
  | cons j ws ih =>
    intro H f w
    obtain ⟨id, q, len⟩ := j
    rcases planL_cases n fl now wait after id q len ws H f w with ⟨f', w', e⟩ | ⟨md, f', w', t, s, hq, hp, e⟩
    · rw [e]; exact ih H f' w'
    · rw [e]
      obtain ⟨h1, h2⟩ := ih (heOf (id, s, q, t, len) :: H) f' w'
      obtain ⟨p1, p2, p3, _⟩ := placeB_ok hq hp
      refine ⟨fun x hx => ?_, List.pairwise_cons.2 ⟨fun x hx => (freeB_more.1 (h1 x hx).2.2).1, h2⟩⟩
      rcases List.mem_cons.1 hx with rfl | hx
      · exact ⟨p1, p2, p3⟩
      · obtain ⟨a, b, c⟩ := h1 x hx
        exact ⟨a, b, (freeB_more.1 c).2⟩
theorem planL_sub (n : Nat) (fl : List Nat) (now wait after : Nat) : ∀ (ws : List (Nat × Nat × Nat)) (H : List HeT) (find : Nat) (waits : Bool),
    ((planL n fl now wait after ws H find waits).map jobOf).Sublist ws := by
  intro ws
  induction ws with
  | nil => intro H f w; exact List.Sublist.slnil
  | cons j ws ih =>
    intro H f w
    obtain ⟨id, q, len⟩ := j
    rcases planL_cases n fl now wait after id q len ws H f w with ⟨f', w', e⟩ | ⟨md, f', w', t, s, hq, hp, e⟩
    · rw [e]; exact (ih H f' w').cons _
    · rw [e]; exact (ih _ f' w').cons_cons _
/-- Up to when slots go. -/
theorem planL_end (n : Nat) (fl : List Nat) (now wait after : Nat) : ∀ (ws : List (Nat × Nat × Nat)) (H : List HeT) (find : Nat) (waits : Bool) (M : Nat), now ≤ M → (∀ x ∈ H, x.2.2.2 ≤ M) →
    ∀ x ∈ planL n fl now wait after ws H find waits, (heOf x).2.2.2 ≤ M + (ws.map fun j => j.2.2).sum := by
  intro ws
  induction ws with
  | nil => intro H f w M _ _ x hx; cases hx
  | cons j ws ih =>
    intro H f w M hM hH
    obtain ⟨id, q, len⟩ := j
    rw [List.map_cons, List.sum_cons]
    rcases planL_cases n fl now wait after id q len ws H f w with ⟨f', w', e⟩ | ⟨md, f', w', t, s, hq, hp, e⟩
    · rw [e]
      intro x hx
      have := ih H f' w' M hM hH x hx
      dsimp only
      omega
    · rw [e]
      intro x hx
      have ht := (placeB_ok hq hp).2.2.2 M hM hH
      rcases List.mem_cons.1 hx with rfl | hx
      · unfold heOf; dsimp only; omega
      · have := ih _ f' w' (M + len) (by omega) (fun y hy => by
          rcases List.mem_cons.1 hy with rfl | hy
          · dsimp only; omega
          · have := hH y hy; omega) x hx
        dsimp only
        omega
/-- Easy, once one waits: all start now. -/
theorem planG_now (n : Nat) (fl : List Nat) (now wait : Nat) : ∀ (ws : List (Nat × Nat × Nat)) (H : List HeT), ∀ x ∈ planL n fl now wait 1 ws H 1 true, x.2.2.2.1 = now := by
  intro ws
  induction ws with
  | nil => intro H x hx; cases hx
  | cons j ws ih =>
    intro H x hx
    obtain ⟨id, q, len⟩ := j
    rw [planL] at hx
    split at hx
    · exact ih H x hx
    · split at hx
      · rename_i t s hp
        rcases List.mem_cons.1 hx with rfl | hx
        · exact placeB_now hp
        · exact ih _ x hx
      · rw [if_pos rfl] at hx
        exact ih H x hx
/-- Easy: the one that waits, those ahead of it and behind it. -/
theorem planE_head (n : Nat) (fl : List Nat) (now : Nat) : ∀ (ws : List (Nat × Nat × Nat)) (H : List HeT) (h : SlT), h ∈ planL n fl now 2 1 ws H 1 false → now < h.2.2.2.1 →
    ∃ ws1 ws2 A B, ws = ws1 ++ jobOf h :: ws2 ∧ planL n fl now 2 1 ws H 1 false = A ++ h :: B ∧ (∀ x ∈ A, x.2.2.2.1 = now) ∧ (∀ x ∈ B, x.2.2.2.1 = now) ∧ planL n fl now 2 1 (ws1 ++ [jobOf h]) H 1 false = A ++ [h] := by
  intro ws
  induction ws with
  | nil => intro H h hh; cases hh
  | cons j ws ih =>
    intro H h hh hlt
    obtain ⟨id, q, len⟩ := j
    rw [planL] at hh
    split at hh
    · rename_i he
      obtain ⟨ws1, ws2, A, B, e1, e2, e3, e4, e5⟩ := ih H h hh hlt
      refine ⟨(id, q, len) :: ws1, ws2, A, B, by rw [e1]; rfl, ?_, e3, e4, ?_⟩
      · rw [planL, if_pos he]; exact e2
      · show planL n fl now 2 1 ((id, q, len) :: (ws1 ++ [jobOf h])) H 1 false = _
        rw [planL, if_pos he]; exact e5
    · rename_i he
      cases hp : placeB n fl H 1 q now len with
      | some p =>
        obtain ⟨t, s⟩ := p
        rw [hp] at hh
        dsimp only at hh
        have ht := placeB_now hp
        rcases List.mem_cons.1 hh with rfl | hh
        · dsimp only at hlt; omega
        · obtain ⟨ws1, ws2, A, B, e1, e2, e3, e4, e5⟩ := ih _ h hh hlt
          refine ⟨(id, q, len) :: ws1, ws2, (id, s, q, t, len) :: A, B, by rw [e1]; rfl, ?_, fun x hx => ?_, e4, ?_⟩
          · rw [planL, if_neg he, hp]; dsimp only; rw [e2]; rfl
          · rcases List.mem_cons.1 hx with rfl | hx
            · exact ht
            · exact e3 x hx
          · show planL n fl now 2 1 ((id, q, len) :: (ws1 ++ [jobOf h])) H 1 false = _
            rw [planL, if_neg he, hp]; dsimp only; rw [e5]; rfl
      | none =>
        rw [hp] at hh
        dsimp only at hh
        rw [if_neg (by decide)] at hh
        cases hp2 : placeB n fl H 2 q now len with
        | some p =>
          obtain ⟨t, s⟩ := p
          rw [hp2] at hh
          dsimp only at hh
          rcases List.mem_cons.1 hh with rfl | hh
          · refine ⟨[], ws, [], _, rfl, ?_, (fun x hx => nomatch hx), planG_now n fl now 2 ws ((s, q, t, t + len) :: H), ?_⟩
            · rw [planL, if_neg he, hp]; dsimp only; rw [if_neg (by decide), hp2]; rfl
            · show planL n fl now 2 1 [(id, q, len)] H 1 false = _
              rw [planL, if_neg he, hp]; dsimp only; rw [if_neg (by decide), hp2]; rfl
          · have := planG_now n fl now 2 ws _ h hh; omega
        | none =>
          rw [hp2] at hh
          have := planG_now n fl now 2 ws _ h hh; omega
end

section
open Go Go.RowKit Go.Lib Go.Sort
theorem mod_pickL (x : Int) (n : Nat) (h : 0 < n) (hn : n ≤ 2199023255552) : ∃ U K : Nat, IntKind.u64.wrap x = (U : Int) ∧ (U : Int) % (n : Int) = (K : Int) ∧ K < n ∧ ¬ (n : Int) = 0 ∧ IntKind.u64.wrap (n : Int) = (n : Int) ∧ (U : Int).tmod (n : Int) = (K : Int) := by
  have hb : 0 ≤ IntKind.u64.wrap x := by rw [IntKind.wrap_u64]; omega
  obtain ⟨U, hU⟩ := Int.eq_ofNat_of_zero_le hb
  have e : (U : Int) % (n : Int) = ((U % n : Nat) : Int) := by simp
  have hl' : U % n < n := Nat.mod_lt _ h
  refine ⟨U, U % n, hU, e, hl', by omega, by rw [IntKind.wrap_u64]; omega, ?_⟩
  rw [Int.tmod_eq_emod_of_nonneg (by omega), e]
/-- What Earliest asks. -/
def AskE (N Q A L : Int) (FL : List Int) (HL : List HeI) : Prop := Good N FL HL ∧ (0 ≤ Q ∧ Q ≤ N) ∧ (0 ≤ A ∧ A ≤ 1099511627776) ∧ 1 ≤ L ∧ L ≤ 1099511627776
theorem askE_nat {N Q A L : Int} {FL : List Int} {HL : List HeI} (h : AskE N Q A L FL HL) : ∃ (c : Sc) (q a len : Nat), N = (c.n : Int) ∧ Q = (q : Int) ∧ A = (a : Int) ∧ L = (len : Int) ∧ FL = nsI c.fl ∧ HL = c.hl.map heZ ∧ ScOk c ∧ q ≤ c.n ∧ a ≤ 1099511627776 ∧ 1 ≤ len ∧ len ≤ 1099511627776 := by
  obtain ⟨⟨c, hc, rfl, rfl, rfl⟩, ⟨h1, h2⟩, ⟨h3, h4⟩, h5, h6⟩ := h
  exact ⟨c, Q.toNat, A.toNat, L.toNat, rfl, by omega, by omega, by omega, rfl, rfl, hc, by omega, by omega, by omega, by omega⟩
theorem earlyE_some {c : Sc} {q a len t s : Nat} (h : earlyC c q a len = some (t, s)) : earlyE c q a len = ((t : Int), (s : Int), 0) := by unfold earlyE; rw [h]
theorem earlyE_none {c : Sc} {q a len : Nat} (h : earlyC c q a len = none) : earlyE c q a len = (0, 0, 5) := by unfold earlyE; rw [h]
theorem early_less {c : Sc} {q a len t s q' len' : Nat} (hq : q ≤ c.n) (h : earlyC c q a len = some (t, s)) (hq' : q' ≤ q) (hl : len' ≤ len) : ∃ t' s', earlyC c q' a len' = some (t', s') ∧ t' ≤ t := by
  obtain ⟨h1, h2⟩ := earlyC_some h
  obtain ⟨h3, h4⟩ := firstB_some h2 hq
  exact earlyC_le h1 (blkOk_less hq' h3) (freeB_less hq' hl h4)
theorem early_t {c : Sc} {q a len t s : Nat} (hc : ScOk c) (ha : a ≤ 1099511627776) (h : earlyC c q a len = some (t, s)) : t ≤ 4398046511104 :=
  earlyC_bound h (by omega) fun x hx => (hc.he x hx).2.2
theorem atV_none {c : Sc} {q a b : Nat} (h : firstB c q a b = none) : atV c q a b = (0, false) := by unfold atV; rw [h]
end

end Go.Proofs.Ytioeblljabohbaa
