/-
  The lesser of two profiles, plainly. No program is imported.
-/
import Derived.Test.YtnbgipegfnpobaaPr5
namespace Go.Proofs.Ytnbgipegfnpobaa
set_option linter.unusedVariables false

def meetG (a b : List Lv) (t : Int) : Int := min (vA a t) (vA b t)
def meetF (a b : List Lv) : Int := max (lv a 0).1 (lv b 0).1
def endsM (a b : List Lv) : List Int := endsV (meetF a b) (ats a ++ ats b)
open Classical in
noncomputable def meetV (a b : List Lv) : List Lv × Int := if okP a ∧ okP b then (cmpct ((endsM a b).map fun t => (t, meetG a b t)), 0) else ([], 50)
theorem meet_ok {a b : List Lv} (ha : okP a) (hb : okP b) : meetV a b = (cmpct ((endsM a b).map fun t => (t, meetG a b t)), 0) := by unfold meetV; rw [if_pos ⟨ha, hb⟩]
theorem meet_no {a b : List Lv} (h : ¬ (okP a ∧ okP b)) : meetV a b = ([], 50) := by unfold meetV; rw [if_neg h]
theorem lv_okL {p : List Lv} (hp : okP p) {i : Nat} (hi : i < p.length) : okL (lv p i) := hp.all _ (lv_mem hi)
theorem val_bound {p : List Lv} (hp : okP p) (t : Int) : 0 ≤ vA p t ∧ vA p t ≤ MaxT := by
  have := val_ok hp t; unfold overT at this; omega
theorem meetG_bound {a b : List Lv} (ha : okP a) (hb : okP b) (t : Int) : 0 ≤ meetG a b t ∧ meetG a b t ≤ MaxT := by
  have h1 := val_bound ha t
  have h2 := val_bound hb t
  unfold meetG; omega
theorem meetF_bound {a b : List Lv} (ha : okP a) (hb : okP b) : 0 ≤ meetF a b ∧ meetF a b ≤ MaxT := by
  have h1 := (lv_okL ha (List.length_pos_iff.2 ha.1)).1
  have h2 := (lv_okL hb (List.length_pos_iff.2 hb.1)).1
  unfold meetF; omega
theorem ats_bound {p : List Lv} (hp : okP p) {t : Int} (h : t ∈ ats p) : 0 ≤ t ∧ t ≤ MaxT := by
  obtain ⟨x, hx, rfl⟩ := List.mem_map.1 h
  exact (hp.all x hx).1
theorem meet_is {a b : List Lv} (ha : okP a) (hb : okP b) : Is (meetV a b).1 (meetF a b) (meetG a b) := by
  rw [meet_ok ha hb]
  refine is_of (fun t ht => ⟨?_, meetG_bound ha hb t⟩) fun m t h1 h2 h3 => ?_
  · rcases (mem_ends _ _ t).1 ht with rfl | ⟨h, _⟩
    · exact meetF_bound ha hb
    · rcases List.mem_append.1 h with h | h
      · exact ats_bound ha h
      · exact ats_bound hb h
  · unfold meetG
    rw [vA_const ha.inc h2 fun x hx => h3 _ (List.mem_append_left _ (List.mem_map.2 ⟨x, hx, rfl⟩)), vA_const hb.inc h2 fun x hx => h3 _ (List.mem_append_right _ (List.mem_map.2 ⟨x, hx, rfl⟩))]
theorem meet_swap (a b : List Lv) : meetV a b = meetV b a := by
  by_cases h : okP a ∧ okP b
  · have e1 : (meetV a b).1 = (meetV b a).1 := by
      have I := meet_is h.1 h.2
      have J := meet_is h.2 h.1
      have ef : meetF b a = meetF a b := by unfold meetF; omega
      rw [ef] at J
      exact I.uniq J fun t _ => by unfold meetG; omega
    have e2 : (meetV a b).2 = (meetV b a).2 := by rw [meet_ok h.1 h.2, meet_ok h.2 h.1]
    exact Prod.ext e1 e2
  · rw [meet_no h, meet_no fun h' => h h'.symm]
/-- What the program lays into its row. -/
def metL (a b : List Lv) : List Lv := (a ++ b).map fun x => (max x.1 (meetF a b), meetG a b (max x.1 (meetF a b)))
theorem met_same {a b S : List Lv} (ha : okP a) (hb : okP b) (hS : Weak S) (hp : S.Perm (metL a b)) : cmpct S = (meetV a b).1 := by
  rw [meet_ok ha hb]
  have hpw := ends_pw (meetF a b) (ats a ++ ats b)
  refine same_ticks (g := meetG a b) (map_inc (g := meetG a b) hpw) hS (map_course (meetG a b) _) (fun x hx => ?_) fun t => ?_
  · obtain ⟨y, _, rfl⟩ := List.mem_map.1 (hp.mem_iff.1 hx)
    rfl
  · rw [ats_map]
    have hmem : t ∈ ats S ↔ ∃ x ∈ a ++ b, max x.1 (meetF a b) = t := by
      constructor
      · intro h
        obtain ⟨x, hx, rfl⟩ := List.mem_map.1 h
        obtain ⟨y, hy, rfl⟩ := List.mem_map.1 (hp.mem_iff.1 hx)
        exact ⟨y, hy, rfl⟩
      · rintro ⟨x, hx, rfl⟩
        exact List.mem_map.2 ⟨_, hp.mem_iff.2 (List.mem_map.2 ⟨x, hx, rfl⟩), rfl⟩
    rw [hmem, endsM, mem_ends]
    constructor
    · rintro (rfl | ⟨h, hf⟩)
      · have h0 : 0 < a.length := List.length_pos_iff.2 ha.1
        have h1 : 0 < b.length := List.length_pos_iff.2 hb.1
        by_cases hle : (lv b 0).1 ≤ (lv a 0).1
        · exact ⟨lv a 0, List.mem_append_left _ (lv_mem h0), by unfold meetF; omega⟩
        · exact ⟨lv b 0, List.mem_append_right _ (lv_mem h1), by unfold meetF; omega⟩
      · rcases List.mem_append.1 h with h | h
        · obtain ⟨x, hx, rfl⟩ := List.mem_map.1 h
          exact ⟨x, List.mem_append_left _ hx, by omega⟩
        · obtain ⟨x, hx, rfl⟩ := List.mem_map.1 h
          exact ⟨x, List.mem_append_right _ hx, by omega⟩
    · rintro ⟨x, hx, rfl⟩
      by_cases h : x.1 ≤ meetF a b
      · exact .inl (by omega)
      · refine .inr ⟨?_, by omega⟩
        rw [show max x.1 (meetF a b) = x.1 by omega]
        rcases List.mem_append.1 hx with hx | hx
        · exact List.mem_append_left _ (List.mem_map.2 ⟨x, hx, rfl⟩)
        · exact List.mem_append_right _ (List.mem_map.2 ⟨x, hx, rfl⟩)
theorem weak_of {S : List Lv} (h : ∀ i, i + 1 < S.length → (lv S i).1 ≤ (lv S (i + 1)).1) : Weak S := by
  match S, h with
  | [], _ => trivial
  | [_], _ => trivial
  | x :: y :: r, h =>
    refine ⟨by simpa [lv] using h 0 (by simp), weak_of (S := y :: r) fun i hi => ?_⟩
    have := h (i + 1) (by simp at hi ⊢; omega)
    simpa [lv] using this
end Go.Proofs.Ytnbgipegfnpobaa
