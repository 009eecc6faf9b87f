/-
  The marks of a board's earliest, plainly.
-/
import Derived.Test.YtioeblljabohbaaBfTU
namespace Go.Proofs.Ytioeblljabohbaa
open Go Go.RowKit Go.Lib Go.Sort
set_option linter.unusedVariables false

def hitQ (q i : Nat) (h : HeT) : Bool := meetB h.1 h.2.1 (i * 2 ^ q) q
def cF (F : List HeT) (q e i : Nat) : Nat := (F.take e).countP (hitQ q i)
theorem cF_zero (F : List HeT) (q i : Nat) : cF F q 0 i = 0 := by unfold cF; simp
theorem cF_succ {F : List HeT} {e : Nat} (h : e < F.length) (q i : Nat) : cF F q (e + 1) i = cF F q e i + if meetB F[e].1 F[e].2.1 (i * 2 ^ q) q = true then 1 else 0 := by
  unfold cF
  rw [List.take_add_one, List.getElem?_eq_getElem h, List.countP_append]
  by_cases hm : meetB F[e].1 F[e].2.1 (i * 2 ^ q) q = true
  · rw [if_pos hm]; simp [hitQ, hm]
  · rw [if_neg hm]; simp [hitQ, hm]
theorem cF_le (F : List HeT) (q e i : Nat) : cF F q e i ≤ F.length := by
  unfold cF
  exact Nat.le_trans List.countP_le_length (by rw [List.length_take]; omega)
/-- The marks C, when e have entered and l have left. -/
def Mk (fl : List Nat) (F T : List HeT) (q e l : Nat) (C : Nat → Nat) : Prop := ∀ i, C i + cF T q l i = markK fl q fl.length i + cF F q e i
theorem Mk.start (fl : List Nat) (F T : List HeT) (q : Nat) : Mk fl F T q 0 0 (markK fl q fl.length) := fun i => by rw [cF_zero, cF_zero]
theorem Mk.le {fl : List Nat} {F T : List HeT} {q e l : Nat} {C : Nat → Nat} (h : Mk fl F T q e l C) (i : Nat) : C i ≤ fl.length + F.length := by
  have := h i
  have h1 := markK_le fl q fl.length i
  have h2 := cF_le F q e i
  omega
theorem Mk.hit {fl : List Nat} {F T : List HeT} {q e l : Nat} {C : Nat → Nat} (h : Mk fl F T q e l C) (he : e < F.length) : Mk fl F T q (e + 1) l (hitC C F[e].1 F[e].2.1 q) := fun i => by
  have := h i
  rw [cF_succ he]
  unfold hitC
  split <;> omega
theorem Mk.miss {fl : List Nat} {F T : List HeT} {q e l : Nat} {C : Nat → Nat} (h : Mk fl F T q e l C) (hl : l < T.length) (hle : ∀ i, cF T q (l + 1) i ≤ cF F q e i) :
    Mk fl F T q e (l + 1) (missC C T[l].1 T[l].2.1 q) ∧ ∀ i, meetB T[l].1 T[l].2.1 (i * 2 ^ q) q = true → 1 ≤ C i := by
  refine ⟨fun i => ?_, fun i hm => ?_⟩
  · have h1 := h i
    have h2 := hle i
    rw [cF_succ hl] at h2 ⊢
    unfold missC
    split <;> rename_i hm
    · rw [if_pos hm] at h2; omega
    · rw [if_neg hm] at h2; omega
  · have h1 := h i
    have h2 := hle i
    rw [cF_succ hl, if_pos hm] at h2
    omega
/-- All that began before t have entered. -/
structure DoneF (F : List HeT) (t e : Nat) : Prop where
  lo : ∀ i (h : i < F.length), i < e → F[i].2.2.1 < t
  hi : ∀ i (h : i < F.length), e ≤ i → t ≤ F[i].2.2.1
structure DoneT (T : List HeT) (t l : Nat) : Prop where
  lo : ∀ i (h : i < T.length), i < l → T[i].2.2.2 ≤ t
  hi : ∀ i (h : i < T.length), l ≤ i → t < T[i].2.2.2
theorem count_split {F : List HeT} {e q i : Nat} (p : HeT → Bool) (lo : ∀ j (h : j < F.length), j < e → p F[j] = true) : cF F q e i + ((F.drop e).countP fun h => p h && hitQ q i h) = F.countP fun h => p h && hitQ q i h := by
  have e1 : F.countP (fun h => p h && hitQ q i h) = (F.take e).countP (fun h => p h && hitQ q i h) + (F.drop e).countP (fun h => p h && hitQ q i h) := by
    rw [← List.countP_append, List.take_append_drop]
  rw [e1]
  congr 1
  unfold cF
  refine List.countP_congr fun x hx => ?_
  obtain ⟨j, hj, rfl⟩ := List.mem_iff_getElem.1 hx
  rw [List.length_take] at hj
  rw [List.getElem_take, lo j (by omega) (by omega), Bool.true_and]
theorem cF_below {T : List HeT} {l q i : Nat} (p : HeT → Bool) (lo : ∀ j (h : j < T.length), j < l → p T[j] = true) : cF T q l i ≤ T.countP fun h => p h && hitQ q i h := by
  rw [← count_split p lo]; omega
theorem cF_done {T : List HeT} {l q i : Nat} (p : HeT → Bool) (lo : ∀ j (h : j < T.length), j < l → p T[j] = true) (hi : ∀ j (h : j < T.length), l ≤ j → p T[j] = false) : cF T q l i = T.countP fun h => p h && hitQ q i h := by
  rw [← count_split p lo]
  have : (T.drop l).countP (fun h => p h && hitQ q i h) = 0 := by
    rw [List.countP_eq_zero]
    intro x hx
    obtain ⟨j, hj, rfl⟩ := List.mem_iff_getElem.1 hx
    rw [List.length_drop] at hj
    rw [List.getElem_drop, hi (l + j) (by omega) (by omega)]
    simp
  omega
def pF (t : Nat) (h : HeT) : Bool := decide (h.2.2.1 < t)
def pT (t : Nat) (h : HeT) : Bool := decide (h.2.2.2 ≤ t)
theorem DoneF.eq {F : List HeT} {t e : Nat} (h : DoneF F t e) (q i : Nat) : cF F q e i = F.countP fun h => pF t h && hitQ q i h :=
  cF_done (pF t) (fun j hj hl => decide_eq_true (h.lo j hj hl)) (fun j hj hl => decide_eq_false (by have := h.hi j hj hl; omega))
theorem DoneT.eq {T : List HeT} {t l : Nat} (h : DoneT T t l) (q i : Nat) : cF T q l i = T.countP fun h => pT t h && hitQ q i h :=
  cF_done (pT t) (fun j hj hl => decide_eq_true (h.lo j hj hl)) (fun j hj hl => decide_eq_false (by have := h.hi j hj hl; omega))
theorem count_held {F : List HeT} {t len q i : Nat} (hF : ∀ h ∈ F, h.2.2.1 < h.2.2.2) : (F.countP fun h => pF (t + len) h && hitQ q i h) = (F.countP fun h => pT t h && hitQ q i h) + markH F q t (t + len) i := by
  unfold markH
  induction F with
  | nil => rfl
  | cons x F ih =>
    rw [List.countP_cons, List.countP_cons, List.countP_cons, ih fun h hh => hF h (List.mem_cons_of_mem _ hh)]
    have hx := hF x (List.mem_cons_self ..)
    have e : (pF (t + len) x && hitQ q i x) = ((pT t x && hitQ q i x) || (keeps x t (t + len) && hitQ q i x)) := by
      unfold pF pT keeps
      cases hitQ q i x
      · simp
      · simp
        by_cases h1 : x.2.2.2 ≤ t
        · simp [h1]; omega
        · simp [h1]; omega
    have e2 : (pT t x && hitQ q i x) = true → (keeps x t (t + len) && hitQ q i x) = false := by
      unfold pT keeps
      intro h
      rw [Bool.and_eq_true, decide_eq_true_eq] at h
      rw [decide_eq_false (show ¬ t < x.2.2.2 by omega)]
      simp
    rw [e]
    show _ = _ + (List.countP (fun h => keeps h t (t + len) && meetB h.fst h.snd.fst (i * 2 ^ q) q) F + if (keeps x t (t + len) && hitQ q i x) = true then 1 else 0)
    cases h1 : (pT t x && hitQ q i x)
    · cases (keeps x t (t + len) && hitQ q i x) <;> simp <;> omega
    · rw [e2 h1]; simp; omega
/-- What the marks mean at a tick. -/
theorem Mk.at {n t len : Nat} {fl : List Nat} {F T : List HeT} {q e l : Nat} {C : Nat → Nat} (h : Mk fl F T q e l C) (hF : DoneF F (t + len) e) (hT : DoneT T t l) (hp : T.Perm F) (hlt : ∀ h ∈ F, h.2.2.1 < h.2.2.2) :
    firstV q (2 ^ (n - q)) C = atV ⟨n, fl, F⟩ q t (t + len) := by
  rw [← firstV_at]
  have e : C = mkF fl F q t (t + len) F.length := by
    funext i
    have h1 := h i
    rw [hF.eq, hT.eq, hp.countP_eq, count_held hlt] at h1
    unfold mkF
    rw [List.take_length]
    omega
  rw [e]
theorem Mk.room {t len : Nat} {F T : List HeT} {q e l : Nat} (hF : DoneF F (t + len) e) (hT : ∀ i (h : i < T.length), i < l → T[i].2.2.2 ≤ t) (hp : T.Perm F) (hlt : ∀ h ∈ F, h.2.2.1 < h.2.2.2) (i : Nat) : cF T q l i ≤ cF F q e i := by
  rw [hF.eq]
  refine Nat.le_trans (cF_below (pT t) fun j hj hl => decide_eq_true (hT j hj hl)) ?_
  rw [hp.countP_eq, count_held hlt]
  omega
theorem sortedF_at {F : List HeT} (h : SortedF F) {i j : Nat} (hi : i ≤ j) (hj : j < F.length) : (F[i]'(by omega)).2.2.1 ≤ F[j].2.2.1 := by
  rcases Nat.lt_or_ge i j with h1 | h1
  · exact List.pairwise_iff_getElem.1 h i j (by omega) hj h1
  · obtain rfl : i = j := by omega
    exact Nat.le_refl _
theorem sortedT_at {F : List HeT} (h : SortedT F) {i j : Nat} (hi : i ≤ j) (hj : j < F.length) : (F[i]'(by omega)).2.2.2 ≤ F[j].2.2.2 := by
  rcases Nat.lt_or_ge i j with h1 | h1
  · exact List.pairwise_iff_getElem.1 h i j (by omega) hj h1
  · obtain rfl : i = j := by omega
    exact Nat.le_refl _
/-- What earliest answers. -/
def earlyV (c : Sc) (q len : Nat) (L : List Nat) : Int × Int × Bool := match earlyL c q len L with | some (t, s) => ((t : Int), (s : Int), true) | none => (0, 0, false)
theorem earlyL_hit {c : Sc} {q len t s : Nat} {L : List Nat} (h : firstB c q t (t + len) = some s) : earlyL c q len (t :: L) = some (t, s) := by rw [earlyL, h]
theorem earlyL_miss {c : Sc} {q len t : Nat} {L : List Nat} (h : firstB c q t (t + len) = none) : earlyL c q len (t :: L) = earlyL c q len L := by rw [earlyL, h]
/-- The ticks increase. -/
theorem tks_head (B : List Nat) (t : Nat) : ∃ L, tks B t = t :: L ∧ ∀ x ∈ L, t < x := by
  induction B generalizing t with
  | nil => exact ⟨[], rfl, by simp⟩
  | cons y B ih =>
    rw [tks]
    split
    · rename_i h
      obtain ⟨L, hL, hx⟩ := ih y
      refine ⟨_, rfl, fun x hx' => ?_⟩
      rw [hL] at hx'
      rcases List.mem_cons.1 hx' with rfl | h2
      · exact h
      · exact Nat.lt_trans h (hx x h2)
    · exact ih t
theorem tks_inc (B : List Nat) (t : Nat) : (tks B t).Pairwise (· < ·) := by
  induction B generalizing t with
  | nil => simp [tks]
  | cons y B ih =>
    rw [tks]
    split
    · rename_i h
      refine List.pairwise_cons.2 ⟨fun x hx => ?_, ih y⟩
      obtain ⟨L, hL, hy⟩ := tks_head B y
      rw [hL] at hx
      rcases List.mem_cons.1 hx with rfl | h2
      · exact h
      · exact Nat.lt_trans h (hy x h2)
    · exact ih t
theorem tks_bound {B : List Nat} {t M : Nat} (ht : t ≤ M) (hB : ∀ x ∈ B, x ≤ M) : ∀ x ∈ tks B t, x ≤ M := by
  induction B generalizing t with
  | nil => intro x hx; rw [tks, List.mem_singleton] at hx; omega
  | cons y B ih =>
    intro x hx
    rw [tks] at hx
    split at hx
    · rcases List.mem_cons.1 hx with rfl | h2
      · exact ht
      · exact ih (hB y (List.mem_cons_self ..)) (fun z hz => hB z (List.mem_cons_of_mem _ hz)) x h2
    · exact ih ht (fun z hz => hB z (List.mem_cons_of_mem _ hz)) x hx
theorem tks_len (B : List Nat) (t : Nat) : (tks B t).length ≤ B.length + 1 := by
  induction B generalizing t with
  | nil => exact Nat.le_refl _
  | cons y B ih =>
    rw [tks]
    split
    · have := ih y; simp; omega
    · have := ih t; simp; omega
end Go.Proofs.Ytioeblljabohbaa
