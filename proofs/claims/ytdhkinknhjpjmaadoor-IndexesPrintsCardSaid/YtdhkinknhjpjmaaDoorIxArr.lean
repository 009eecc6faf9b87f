/-
  Indexes, for the laws that take an array: the argument opened; what is printed, read again; where a text is wrong.
-/
import Derived.Test.YtdhkinknhjpjmaaDoorIxY
import Derived.Test.YtdhkinknhjpjmaaDoorArgs2
namespace Go.Proofs.YtdhkinknhjpjmaaDoor
open Go Go.RowKit Go.Lib
set_option linter.unusedVariables false

section
open Go.ChangeShapes Go.WideShapes Go.ChangeAt Go.Deep
variable {H : Type} {enc : TypeId × Value → H} {P : Program} {W : World}
/-- A field that is a slice of integers. -/
theorem field_nrow {t e : TypeId} {n : Nat} {c : Value} {y : DataW H × List MemPlace} (ht : P.underlying t = some (.slice e)) (he : P.underlying e = some (.int .i64)) (hc : P.cellsOf e = 1)
    (h : DataW.trod enc P W 0 (fun _ => true) true n t [c] = some y) : ∃ zs, NRow W c zs ∧ ∀ z ∈ zs, (Lit.int .i64 z).wf = true := by
  rcases open_ints ht he hc h with ⟨hcs, _⟩ | ⟨a, len, cap, zs, hcs, _, hl, hm, hz, _, hcell, hwz⟩
  · obtain rfl : c = .slice none 0 0 := by simpa using hcs
    exact ⟨[], NRow.none _, fun z hz => by cases hz⟩
  · obtain rfl : c = .slice (some a) len cap := by simpa using hcs
    simp only [if_true] at hz
    by_cases h0 : len = 0
    · subst h0; exact ⟨[], .inl ⟨rfl, some a, cap, rfl, hm⟩, fun z hz => by cases hz⟩
    · obtain ⟨b, off, spot⟩ := a
      have hspot : spot = none := by simpa [Addr.add] using World.cell?_spot (hcell 0 (by omega))
      subst hspot
      have hlen : (zs.take len).length = len := by rw [List.length_take]; omega
      have hg : ∀ j, j < len → (zs.take len).getD j 0 = zs.getD j 0 := fun j hj => by simp [List.getD, hj]
      refine ⟨zs.take len, .inr ⟨b, off, cap, by rw [hlen], by omega, by omega, hm, ?_, ?_⟩, fun z hz' => hwz z (List.mem_of_mem_take hz')⟩
      · have := World.block_lt_of_cell? W _ (hcell 0 (by omega))
        simpa [Addr.add] using this
      · intro j hj
        rw [hlen] at hj
        rw [hg j hj, ← hcell j (by omega), Addr.add_lit]
end

theorem printZ_ok {l : List Int} {m : Int} (h : OkZ l m) : printZ l m = ⟨(printT (toN l) m.toNat).toArray⟩ := if_pos h
theorem printZ_no {l : List Int} {m : Int} (h : ¬ OkZ l m) : printZ l m = ⟨#[]⟩ := if_neg h
theorem printZ_list {l : List Int} {m : Int} (h : OkZ l m) : (printZ l m).data.toList = printT (toN l) m.toNat := by rw [printZ_ok h]
theorem toN_len (l : List Int) : (toN l).length = l.length := by simp [toN]
theorem toN_ofN (l : List Nat) : toN (ofN l) = l := by
  unfold toN ofN
  rw [List.map_map]
  exact (List.map_congr_left fun x _ => by simp).trans (List.map_id _)
/-- What was printed, read again. -/
theorem back_at {l : List Int} {m : Int} (h : OkZ l m) : ∃ f, parseM (printZ l m).data.toList = .ok f m.toNat ∧ listF f = toN l := by
  obtain ⟨f, h1, h2⟩ := ix_print (okN_of h)
  exact ⟨f, by rw [printZ_list h]; exact h1, list_print (okN_of h) h2⟩
theorem back_size {l : List Int} {m : Int} (h : OkZ l m) : (printZ l m).size ≤ 5 * l.length + 5 := by
  have := print_len (okN_of h)
  rw [toN_len] at this
  rw [printZ_ok h]
  show (printT (toN l) m.toNat).toArray.size ≤ _
  simpa using this
/-- What is read. -/
theorem read_okZ {t : Bs} {f : Nat → Bool} {k : Nat} (h : parseM t = .ok f k) : OkZ (ofN (listF f)) k := okZ_of (parse_okN h)

/-! Where a text is wrong. -/
theorem run_lt : ∀ (r : Bs) (s : St) (t p : Nat), run s t r = .inl p → p < t + r.length
  | [], s, t, p, h => by cases h
  | c :: r, s, t, p, h => by
    cases hs : s.step t c.toNat with
    | none => rw [run_none hs] at h; cases h; simp
    | some s' => rw [run_some hs] at h; have := run_lt r s' (t + 1) p h; simp; omega
def Bd (s : St) (t : Nat) : Prop := s.bg ≤ t ∧ ∀ p, s.fault = some p → p ≤ t
theorem fin_bd {s : St} {t : Nat} (h : Bd s t) : s.fin.bg = s.bg ∧ ∀ p, s.fin.fault = some p → p ≤ t := by
  unfold St.fin
  split
  · refine ⟨rfl, fun p hp => ?_⟩
    have hp : some (s.fault.getD s.bg) = some p := hp
    cases hf : s.fault with
    | none => rw [hf] at hp; injection hp with hp; rw [← hp]; exact h.1
    | some q => rw [hf] at hp; injection hp with hp; rw [← hp]; exact h.2 q hf
  · split
    · exact ⟨rfl, h.2⟩
    · exact ⟨rfl, h.2⟩
theorem step_bd {s s' : St} {t c : Nat} (h : Bd s t) (hs : s.step t c = some s') : Bd s' (t + 1) := by
  have hf := fin_bd h
  have h' : Bd s (t + 1) := ⟨Nat.le_succ_of_le h.1, fun p hp => Nat.le_succ_of_le (h.2 p hp)⟩
  unfold St.step at hs
  split at hs
  · unfold St.digit at hs
    split at hs
    · cases hs
    · injection hs with hs; subst hs; exact h'
  · split at hs
    · cases hs
    · split at hs
      · injection hs with hs; subst hs; exact h'
      · split at hs
        · injection hs with hs; subst hs; exact h'
        · split at hs
          · injection hs with hs; subst hs; exact ⟨Nat.le_refl _, fun p hp => Nat.le_succ_of_le (hf.2 p hp)⟩
          · split at hs
            · injection hs with hs; subst hs; exact ⟨Nat.le_succ _, fun p hp => Nat.le_succ_of_le (hf.2 p hp)⟩
            · cases hs
theorem run_bd : ∀ (r : Bs) (s s' : St) (t : Nat), Bd s t → run s t r = .inr s' → Bd s' (t + r.length)
  | [], s, s', t, h, hr => by injection hr with hr; subst hr; exact h
  | c :: r, s, s', t, h, hr => by
    cases hs : s.step t c.toNat with
    | none => rw [run_none hs] at hr; cases hr
    | some s1 =>
      rw [run_some hs] at hr
      have := run_bd r s1 s' (t + 1) (step_bd h hs) hr
      rwa [show t + 1 + r.length = t + (c :: r).length by simp; omega] at this
theorem parse_pos (l : Bs) : posO (parseM l) ≤ l.length := by
  unfold parseM
  cases hr : run St.init 0 l with
  | inl p => have := run_lt l _ _ _ hr; show p ≤ _; omega
  | inr s =>
    have hb := run_bd l St.init s 0 ⟨Nat.le_refl _, fun p hp => by cases hp⟩ hr
    rw [Nat.zero_add] at hb
    show posO (if s.dg = 0 then Out.txt l.length else endV s) ≤ _
    split
    · exact Nat.le_refl _
    · unfold endV
      cases hf : s.fin.fault with
      | none => exact Nat.zero_le _
      | some p => exact (fin_bd hb).2 p hf
theorem no_of {o : Out} (he : errO o ≠ 0) : listO o = [] ∧ mostO o = 0 := by
  cases o with
  | txt p => exact ⟨rfl, rfl⟩
  | arg p => exact ⟨rfl, rfl⟩
  | ok f k => exact absurd rfl he
theorem ok_out {o : Out} (he : errO o = 0) : ∃ f k, o = .ok f k := by
  cases o with
  | txt p => exact absurd he (by show ¬ (60 : Int) = 0; decide)
  | arg p => exact absurd he (by show ¬ (2 : Int) = 0; decide)
  | ok f k => exact ⟨f, k, rfl⟩
end Go.Proofs.YtdhkinknhjpjmaaDoor
