/-
  The yard, plainly: taken blocks, failed workers, who is open; what each call makes of it. No program is imported.
-/
import Derived.Test.YtcdlfhheolbhaaaYdP
namespace Go.Proofs.Ytcdlfhheolbhaaa
set_option linter.unusedVariables false

/-- A block: its start, its order. -/
abbrev Bk := Nat × Nat
def heldB (tk : List Bk) (x : Nat) : Bool := tk.any fun b => decide (b.1 ≤ x ∧ x < b.1 + 2 ^ b.2)
theorem heldB_iff {tk : List Bk} {x : Nat} : heldB tk x = true ↔ ∃ b ∈ tk, inB b.2 b.1 x := by
  unfold heldB inB
  rw [List.any_eq_true]
  constructor
  · rintro ⟨b, h1, h2⟩; exact ⟨b, h1, of_decide_eq_true h2⟩
  · rintro ⟨b, h1, h2⟩; exact ⟨b, h1, decide_eq_true h2⟩
def opn (n : Nat) (tk : List Bk) (fl : List Nat) : Opn := fun x => decide (x < 2 ^ n) && !heldB tk x && !decide (x ∈ fl)
theorem opn_iff {n : Nat} {tk : List Bk} {fl : List Nat} {x : Nat} : opn n tk fl x = true ↔ x < 2 ^ n ∧ heldB tk x = false ∧ x ∉ fl := by
  unfold opn
  simp [and_assoc]
structure OkY (n : Nat) (tk : List Bk) (fl : List Nat) : Prop where
  hn : n ≤ 10
  ord : ∀ b ∈ tk, b.2 ≤ n
  al : ∀ b ∈ tk, b.1 % 2 ^ b.2 = 0
  le : ∀ b ∈ tk, b.1 + 2 ^ b.2 ≤ 2 ^ n
  srt : tk.Pairwise fun a b => a.1 + 2 ^ a.2 ≤ b.1
  fs : fl.Pairwise (· < ·)
  fr : ∀ w ∈ fl, w < 2 ^ n
theorem okY_new {n : Nat} (h : n ≤ 10) : OkY n [] [] := ⟨h, by simp, by simp, by simp, .nil, .nil, by simp⟩

/-! Put into a row by start. -/
def insT (tk : List Bk) (b : Bk) : List Bk := (tk.takeWhile fun a => decide (a.1 < b.1)) ++ b :: (tk.dropWhile fun a => decide (a.1 < b.1))
theorem mem_insT {tk : List Bk} {b x : Bk} : x ∈ insT tk b ↔ x = b ∨ x ∈ tk := by
  unfold insT
  rw [List.mem_append, List.mem_cons]
  have : x ∈ tk ↔ x ∈ tk.takeWhile (fun a => decide (a.1 < b.1)) ∨ x ∈ tk.dropWhile (fun a => decide (a.1 < b.1)) := by
    rw [← List.mem_append, List.takeWhile_append_dropWhile]
  rw [this]
  constructor
  · rintro (h | h | h)
    · exact .inr (.inl h)
    · exact .inl h
    · exact .inr (.inr h)
  · rintro (h | h | h)
    · exact .inr (.inl h)
    · exact .inl h
    · exact .inr (.inr h)
theorem heldB_ins {tk : List Bk} {b : Bk} {x : Nat} : heldB (insT tk b) x = (heldB tk x || decide (b.1 ≤ x ∧ x < b.1 + 2 ^ b.2)) := by
  rw [Bool.eq_iff_iff, Bool.or_eq_true, heldB_iff, heldB_iff, decide_eq_true_eq]
  constructor
  · rintro ⟨c, hc, hx⟩
    rcases mem_insT.1 hc with rfl | h
    · exact .inr hx
    · exact .inl ⟨c, h, hx⟩
  · rintro (⟨c, hc, hx⟩ | h)
    · exact ⟨c, mem_insT.2 (.inr hc), hx⟩
    · exact ⟨b, mem_insT.2 (.inl rfl), h⟩
/-- A block that is open is taken. -/
theorem opn_take {n : Nat} {tk : List Bk} {fl : List Nat} {b : Bk} (ha : allB (opn n tk fl) b.2 b.1) : opn n (insT tk b) fl = less (opn n tk fl) b.2 b.1 := by
  funext x
  by_cases hx : inB b.2 b.1 x
  · rw [less_in hx]
    unfold opn
    rw [heldB_ins, decide_eq_true (show b.1 ≤ x ∧ x < b.1 + 2 ^ b.2 from hx)]
    simp
  · rw [less_out hx]
    unfold opn
    rw [heldB_ins, decide_eq_false (show ¬ (b.1 ≤ x ∧ x < b.1 + 2 ^ b.2) from hx), Bool.or_false]
theorem dropWhile_ge (k : Nat) : ∀ tk : List Bk, tk.Pairwise (fun a b => a.1 + 2 ^ a.2 ≤ b.1) → ∀ c ∈ tk.dropWhile (fun a => decide (a.1 < k)), k ≤ c.1
  | [], _, c, hc => by simp at hc
  | d :: r, h, c, hc => by
    rw [List.pairwise_cons] at h
    by_cases hd : d.1 < k
    · rw [List.dropWhile_cons_of_pos (by simpa using hd)] at hc
      exact dropWhile_ge k r h.2 c hc
    · rw [List.dropWhile_cons_of_neg (by simpa using hd)] at hc
      rcases List.mem_cons.1 hc with rfl | hc
      · omega
      · have := h.1 c hc; have := two_pos d.2; omega
theorem tw_prop {α : Type} {p : α → Bool} : ∀ {l : List α} {c : α}, c ∈ l.takeWhile p → p c = true
  | [], c, h => by simp at h
  | d :: r, c, h => by
    by_cases hd : p d = true
    · rw [List.takeWhile_cons_of_pos hd] at h
      rcases List.mem_cons.1 h with rfl | h
      · exact hd
      · exact tw_prop h
    · rw [List.takeWhile_cons_of_neg hd] at h; cases h
theorem takeWhile_lt (k : Nat) : ∀ tk : List Bk, ∀ c ∈ tk.takeWhile (fun a => decide (a.1 < k)), c.1 < k := fun tk c hc => by
  have := tw_prop hc
  simpa using this
theorem okY_take {n : Nat} {tk : List Bk} {fl : List Nat} {b : Bk} (h : OkY n tk fl) (h1 : b.2 ≤ n) (h2 : b.1 % 2 ^ b.2 = 0) (h3 : b.1 + 2 ^ b.2 ≤ 2 ^ n) (ha : allB (opn n tk fl) b.2 b.1) : OkY n (insT tk b) fl := by
  have hdis : ∀ c ∈ tk, ∀ x, inB b.2 b.1 x → ¬ inB c.2 c.1 x := fun c hc x hx hcx => by
    have := (opn_iff.1 (ha x hx)).2.1
    rw [heldB_iff.2 ⟨c, hc, hcx⟩] at this
    cases this
  have hsep : ∀ c ∈ tk, c.1 + 2 ^ c.2 ≤ b.1 ∨ b.1 + 2 ^ b.2 ≤ c.1 := fun c hc => by
    apply Classical.byContradiction
    intro hno
    have hb := two_pos b.2
    have hc2 := two_pos c.2
    by_cases hle : b.1 ≤ c.1
    · exact hdis c hc c.1 ⟨hle, by omega⟩ (inB_self _ _)
    · exact hdis c hc b.1 (inB_self _ _) ⟨by omega, by omega⟩
  refine ⟨h.hn, fun c hc => ?_, fun c hc => ?_, fun c hc => ?_, ?_, h.fs, h.fr⟩
  · rcases mem_insT.1 hc with rfl | hc
    · exact h1
    · exact h.ord c hc
  · rcases mem_insT.1 hc with rfl | hc
    · exact h2
    · exact h.al c hc
  · rcases mem_insT.1 hc with rfl | hc
    · exact h3
    · exact h.le c hc
  · have hs := h.srt
    rw [← List.takeWhile_append_dropWhile (p := fun a => decide (a.1 < b.1)) (l := tk), List.pairwise_append] at hs
    unfold insT
    rw [List.pairwise_append, List.pairwise_cons]
    refine ⟨hs.1, ⟨fun c hc => ?_, hs.2.1⟩, fun c hc d hd => ?_⟩
    · have hm : c ∈ tk := (List.dropWhile_sublist _).mem hc
      have hge := dropWhile_ge b.1 tk h.srt c hc
      rcases hsep c hm with q | q
      · have := two_pos c.2; omega
      · exact q
    · have hm : c ∈ tk := (List.takeWhile_sublist _).mem hc
      have hlt := takeWhile_lt b.1 tk c hc
      rcases List.mem_cons.1 hd with rfl | hd
      · rcases hsep c hm with q | q
        · exact q
        · have := two_pos d.2; omega
      · exact hs.2.2 c hc d hd

/-! A block goes back. -/
def remT (tk : List Bk) (s : Nat) : List Bk := tk.filter fun a => decide (a.1 ≠ s)
open Classical in
noncomputable def moreF (op : Opn) (fl : List Nat) (o s : Nat) : Opn := fun x => if inB o s x then !decide (x ∈ fl) else op x
theorem srt_start {tk : List Bk} (h : tk.Pairwise fun a b => a.1 + 2 ^ a.2 ≤ b.1) {a b : Bk} (ha : a ∈ tk) (hb : b ∈ tk) {x : Nat} (hx : inB a.2 a.1 x) (hx' : inB b.2 b.1 x) : a = b := by
  induction tk with
  | nil => cases ha
  | cons c r ih =>
    rw [List.pairwise_cons] at h
    unfold inB at hx hx'
    rcases List.mem_cons.1 ha with ea | ha <;> rcases List.mem_cons.1 hb with eb | hb
    · rw [ea, eb]
    · have := h.1 b hb; rw [← ea] at this; omega
    · have := h.1 a ha; rw [← eb] at this; omega
    · exact ih h.2 ha hb
theorem opn_give {n : Nat} {tk : List Bk} {fl : List Nat} {b : Bk} (h : OkY n tk fl) (hb : b ∈ tk) : opn n (remT tk b.1) fl = moreF (opn n tk fl) fl b.2 b.1 := by
  funext x
  unfold moreF
  by_cases hx : inB b.2 b.1 x
  · rw [if_pos hx]
    have hno : heldB (remT tk b.1) x = false := by
      cases hh : heldB (remT tk b.1) x
      · rfl
      · obtain ⟨c, hc, hcx⟩ := heldB_iff.1 hh
        unfold remT at hc
        rw [List.mem_filter] at hc
        have := srt_start h.srt hc.1 hb hcx hx
        rw [this] at hc
        simp at hc
    have hxn : x < 2 ^ n := by have := h.le b hb; have := hx.2; omega
    unfold opn
    rw [hno, decide_eq_true hxn]; simp
  · rw [if_neg hx]
    have he : heldB (remT tk b.1) x = heldB tk x := by
      rw [Bool.eq_iff_iff, heldB_iff, heldB_iff]
      constructor
      · rintro ⟨c, hc, hcx⟩
        unfold remT at hc
        exact ⟨c, (List.mem_filter.1 hc).1, hcx⟩
      · rintro ⟨c, hc, hcx⟩
        refine ⟨c, List.mem_filter.2 ⟨hc, decide_eq_true fun e => hx ?_⟩, hcx⟩
        have : c = b := srt_start h.srt hc hb (inB_self c.2 c.1) (by rw [e]; exact inB_self _ _)
        rw [← this]; exact hcx
    unfold opn
    rw [he]
theorem okY_give {n : Nat} {tk : List Bk} {fl : List Nat} (s : Nat) (h : OkY n tk fl) : OkY n (remT tk s) fl :=
  ⟨h.hn, fun b hb => h.ord b (List.mem_filter.1 hb).1, fun b hb => h.al b (List.mem_filter.1 hb).1, fun b hb => h.le b (List.mem_filter.1 hb).1, List.Pairwise.filter _ h.srt, h.fs, h.fr⟩
/-- No failed one in it: the whole block. -/
theorem moreF_whole {op : Opn} {fl : List Nat} {o s : Nat} (h : ∀ w ∈ fl, ¬ inB o s w) : moreF op fl o s = more op o s := by
  funext x
  unfold moreF
  by_cases hx : inB o s x
  · rw [if_pos hx, more_in hx, decide_eq_false fun hm => h x hm hx]; rfl
  · rw [if_neg hx, more_out hx]
/-- One worker, and that has failed: nothing. -/
theorem moreF_one {op : Opn} {fl : List Nat} {s : Nat} (h : s ∈ fl) (ho : op s = false) : moreF op fl 0 s = op := by
  funext x
  unfold moreF
  by_cases hx : inB 0 s x
  · have e : x = s := by unfold inB at hx; simp at hx; omega
    rw [if_pos hx, e, decide_eq_true h, ho]; rfl
  · rw [if_neg hx]
/-- Half by half. -/
theorem moreF_halves {op : Opn} {fl : List Nat} {o s : Nat} : moreF (moreF op fl o s) fl o (s + 2 ^ o) = moreF op fl (o + 1) s := by
  funext x
  have e2 := pow_two o
  have hp := two_pos o
  by_cases h1 : inB o (s + 2 ^ o) x
  · have h2 : inB (o + 1) s x := by unfold inB at *; omega
    unfold moreF; rw [if_pos h1, if_pos h2]
  · by_cases h3 : inB o s x
    · have h2 : inB (o + 1) s x := by unfold inB at *; omega
      unfold moreF; rw [if_neg h1, if_pos h3, if_pos h2]
    · have h2 : ¬ inB (o + 1) s x := by unfold inB at *; omega
      unfold moreF; rw [if_neg h1, if_neg h3, if_neg h2]

/-! A worker fails, or comes back. -/
def insF (fl : List Nat) (w : Nat) : List Nat := (fl.takeWhile fun a => decide (a < w)) ++ w :: (fl.dropWhile fun a => decide (a < w))
def remF (fl : List Nat) (w : Nat) : List Nat := fl.filter fun a => decide (a ≠ w)
theorem mem_insF {fl : List Nat} {w x : Nat} : x ∈ insF fl w ↔ x = w ∨ x ∈ fl := by
  unfold insF
  rw [List.mem_append, List.mem_cons]
  have : x ∈ fl ↔ x ∈ fl.takeWhile (fun a => decide (a < w)) ∨ x ∈ fl.dropWhile (fun a => decide (a < w)) := by
    rw [← List.mem_append, List.takeWhile_append_dropWhile]
  rw [this]
  constructor
  · rintro (h | h | h)
    · exact .inr (.inl h)
    · exact .inl h
    · exact .inr (.inr h)
  · rintro (h | h | h)
    · exact .inr (.inl h)
    · exact .inl h
    · exact .inr (.inr h)
theorem dropF_ge (k : Nat) : ∀ fl : List Nat, fl.Pairwise (· < ·) → ∀ c ∈ fl.dropWhile (fun a => decide (a < k)), k ≤ c
  | [], _, c, hc => by simp at hc
  | d :: r, h, c, hc => by
    rw [List.pairwise_cons] at h
    by_cases hd : d < k
    · rw [List.dropWhile_cons_of_pos (by simpa using hd)] at hc
      exact dropF_ge k r h.2 c hc
    · rw [List.dropWhile_cons_of_neg (by simpa using hd)] at hc
      rcases List.mem_cons.1 hc with rfl | hc
      · omega
      · have := h.1 c hc; omega
theorem okY_fail {n : Nat} {tk : List Bk} {fl : List Nat} {w : Nat} (h : OkY n tk fl) (hw : w < 2 ^ n) (hn : w ∉ fl) : OkY n tk (insF fl w) := by
  refine ⟨h.hn, h.ord, h.al, h.le, h.srt, ?_, fun x hx => ?_⟩
  · have hs := h.fs
    rw [← List.takeWhile_append_dropWhile (p := fun a => decide (a < w)) (l := fl), List.pairwise_append] at hs
    unfold insF
    rw [List.pairwise_append, List.pairwise_cons]
    refine ⟨hs.1, ⟨fun c hc => ?_, hs.2.1⟩, fun c hc d hd => ?_⟩
    · have hm : c ∈ fl := (List.dropWhile_sublist _).mem hc
      have hge := dropF_ge w fl h.fs c hc
      have : c ≠ w := fun e => hn (e ▸ hm)
      omega
    · have hlt : c < w := by have := tw_prop hc; simpa using this
      rcases List.mem_cons.1 hd with rfl | hd
      · exact hlt
      · exact hs.2.2 c hc d hd
  · rcases mem_insF.1 hx with rfl | hx
    · exact hw
    · exact h.fr x hx
theorem okY_heal {n : Nat} {tk : List Bk} {fl : List Nat} (w : Nat) (h : OkY n tk fl) : OkY n tk (remF fl w) :=
  ⟨h.hn, h.ord, h.al, h.le, h.srt, List.Pairwise.filter _ h.fs, fun x hx => h.fr x (List.mem_filter.1 hx).1⟩
theorem one_in (w x : Nat) : inB 0 w x ↔ x = w := by unfold inB; simp; omega
/-- A worker that is in a taken block: the open ones are as they were. -/
theorem opn_fail_held {n : Nat} {tk : List Bk} {fl : List Nat} {w : Nat} (h : heldB tk w = true) : opn n tk (insF fl w) = opn n tk fl := by
  funext x
  rw [Bool.eq_iff_iff, opn_iff, opn_iff, mem_insF]
  constructor
  · rintro ⟨h1, h2, h3⟩; exact ⟨h1, h2, fun q => h3 (.inr q)⟩
  · rintro ⟨h1, h2, h3⟩
    refine ⟨h1, h2, ?_⟩
    rintro (rfl | q)
    · rw [h] at h2; cases h2
    · exact h3 q
theorem opn_fail {n : Nat} {tk : List Bk} {fl : List Nat} {w : Nat} : opn n tk (insF fl w) = less (opn n tk fl) 0 w := by
  funext x
  by_cases hx : inB 0 w x
  · rw [less_in hx]
    have e := (one_in w x).1 hx
    cases hh : opn n tk (insF fl w) x
    · rfl
    · exact absurd (mem_insF.2 (.inl e)) (opn_iff.1 hh).2.2
  · rw [less_out hx]
    have e : x ≠ w := fun e => hx ((one_in w x).2 e)
    rw [Bool.eq_iff_iff, opn_iff, opn_iff, mem_insF]
    constructor
    · rintro ⟨h1, h2, h3⟩; exact ⟨h1, h2, fun q => h3 (.inr q)⟩
    · rintro ⟨h1, h2, h3⟩
      exact ⟨h1, h2, fun q => q.elim e h3⟩
theorem opn_heal_held {n : Nat} {tk : List Bk} {fl : List Nat} {w : Nat} (h : heldB tk w = true) : opn n tk (remF fl w) = opn n tk fl := by
  funext x
  rw [Bool.eq_iff_iff, opn_iff, opn_iff]
  unfold remF
  rw [List.mem_filter]
  constructor
  · rintro ⟨h1, h2, h3⟩
    refine ⟨h1, h2, fun q => h3 ⟨q, decide_eq_true ?_⟩⟩
    rintro rfl
    rw [h] at h2; cases h2
  · rintro ⟨h1, h2, h3⟩; exact ⟨h1, h2, fun q => h3 q.1⟩
theorem opn_heal {n : Nat} {tk : List Bk} {fl : List Nat} {w : Nat} (hw : w < 2 ^ n) (h : heldB tk w = false) : opn n tk (remF fl w) = more (opn n tk fl) 0 w := by
  funext x
  by_cases hx : inB 0 w x
  · rw [more_in hx]
    have e := (one_in w x).1 hx
    subst e
    exact opn_iff.2 ⟨hw, h, fun q => by unfold remF at q; rw [List.mem_filter] at q; simp at q⟩
  · rw [more_out hx]
    have e : x ≠ w := fun e => hx ((one_in w x).2 e)
    rw [Bool.eq_iff_iff, opn_iff, opn_iff]
    unfold remF
    rw [List.mem_filter]
    constructor
    · rintro ⟨h1, h2, h3⟩
      exact ⟨h1, h2, fun q => h3 ⟨q, decide_eq_true e⟩⟩
    · rintro ⟨h1, h2, h3⟩; exact ⟨h1, h2, fun q => h3 q.1⟩
end Go.Proofs.Ytcdlfhheolbhaaa
