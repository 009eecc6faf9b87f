/-
  How long what comes out is, and what it tells. No program is imported.
-/
import Derived.Test.YtnbgipegfnpobaaPrK
import Derived.Test.YtnbgipegfnpobaaPr8
namespace Go.Proofs.Ytnbgipegfnpobaa
set_option linter.unusedVariables false

theorem cmpR_len (f : Int) (p : List Lv) : (cmpR f p).length ≤ p.length := by
  induction p generalizing f with
  | nil => exact Nat.le_refl _
  | cons b r ih =>
    unfold cmpR
    split
    · exact Nat.le_trans (ih _) (Nat.le_succ _)
    · exact Nat.succ_le_succ (ih _)
theorem cmpct_len (p : List Lv) : (cmpct p).length ≤ p.length := by
  cases p with
  | nil => exact Nat.le_refl _
  | cons a r => exact Nat.succ_le_succ (cmpR_len _ _)
theorem insT_length (t : Int) (l : List Int) : (insT t l).length ≤ l.length + 1 := by
  induction l with
  | nil => exact Nat.le_refl _
  | cons x r ih =>
    unfold insT
    split
    · simpa using ih
    · split <;> simp
theorem ends_length (f : Int) (ts : List Int) : (endsV f ts).length ≤ ts.length + 1 := by
  have key : ∀ (ts l : List Int), (ts.foldl (endsStep f) l).length ≤ l.length + ts.length := by
    intro ts
    induction ts with
    | nil => intro l; exact Nat.le_refl _
    | cons t r ih =>
      intro l
      have h1 := ih (endsStep f l t)
      have h2 : (endsStep f l t).length ≤ l.length + 1 := by
        unfold endsStep
        split
        · omega
        · exact insT_length _ _
      simp only [List.foldl_cons, List.length_cons]; omega
  have := key ts [f]
  simp only [List.length_singleton] at this
  unfold endsV; omega
theorem ats_length (p : List Lv) : (ats p).length = p.length := by unfold ats; rw [List.length_map]
theorem changeV_len (p : List Lv) (f n k : Int) : (changeV p f n k).1.length ≤ p.length + 3 := by
  unfold changeV
  split
  · simp
  · split
    · simp
    · split
      · simp
      · refine Nat.le_trans (cmpct_len _) ?_
        rw [List.length_map]
        have := ends_length (lv p 0).1 (ats p ++ [f, f + n])
        rw [List.length_append, ats_length] at this
        exact this
theorem trimV_len (p : List Lv) (t : Int) : (trimV p t).1.length ≤ p.length + 1 := by
  unfold trimV
  split
  · simp
  · split
    · simp
    · refine Nat.le_trans (cmpct_len _) ?_
      rw [List.length_map]
      have := ends_length t (ats p)
      rwa [ats_length] at this
theorem meetV_len (a b : List Lv) : (meetV a b).1.length ≤ a.length + b.length + 1 := by
  unfold meetV
  split
  · refine Nat.le_trans (cmpct_len _) ?_
    rw [List.length_map]
    have := ends_length (meetF a b) (ats a ++ ats b)
    rwa [List.length_append, ats_length, ats_length] at this
  · simp
theorem trim_zero {p : List Lv} {t : Int} (h : (trimV p t).2 = 0) : okP p ∧ ¬ badTr p t := by
  by_cases hp : okP p
  · by_cases hb : badTr p t
    · rw [trim_bad hp hb] at h; simp at h
    · exact ⟨hp, hb⟩
  · rw [trim_no hp] at h; simp at h
theorem trimV_is {p : List Lv} (hp : okP p) {t : Int} (hb : ¬ badTr p t) : Is (trimV p t).1 t (vA p) := by
  have e : trimV p t = (cmpct ((endsV t (ats p)).map fun s => (s, vA p s)), 0) := by unfold trimV; rw [if_neg (by simpa using hp), if_neg hb]
  have hb' : ¬ (t < (lv p 0).1 ∨ MaxT < t) := hb
  have h0 := (lv_okL hp (List.length_pos_iff.2 hp.1)).1
  rw [e]
  refine is_of (fun s hs => ⟨?_, val_bound hp s⟩) fun m s h1 h2 h3 => ?_
  · rcases (mem_ends _ _ s).1 hs with rfl | ⟨h, _⟩
    · show 0 ≤ s ∧ s ≤ MaxT
      omega
    · exact ats_bound hp h
  · exact vA_const hp.inc h2 fun x hx => h3 _ (List.mem_map.2 ⟨x, hx, rfl⟩)
theorem trim_tells {p : List Lv} {t s : Int} (h : (trimV p t).2 = 0) (hs : t ≤ s) : atV (trimV p t).1 s = atV p s := by
  obtain ⟨hp, hb⟩ := trim_zero h
  have I := trimV_is hp hb
  rw [atV_ok I.ok, atV_ok hp, I.val s hs]
theorem meet_zero {a b : List Lv} (h : (meetV a b).2 = 0) : okP a ∧ okP b := by
  by_cases hp : okP a ∧ okP b
  · exact hp
  · rw [meet_no hp] at h; simp at h
theorem meet_tells {a b : List Lv} {t : Int} (h : (meetV a b).2 = 0) (h1 : (lv a 0).1 ≤ t) (h2 : (lv b 0).1 ≤ t) : atV (meetV a b).1 t = min (atV a t) (atV b t) := by
  obtain ⟨ha, hb⟩ := meet_zero h
  have I := meet_is ha hb
  rw [atV_ok I.ok, atV_ok ha, atV_ok hb, I.val t (by unfold meetF; omega)]
  rfl
end Go.Proofs.Ytnbgipegfnpobaa
