/-
  Layer 18: each call of a spool, at any state.
-/
import Derived.Test.YtgohnidndjbjiaaSpoolB
namespace Go.Proofs.Ytgohnidndjbjiaa
open Go Go.RowKit Go.Lib
set_option linter.unusedVariables false

theorem Sp.to {w w' : World} {base sb : Nat} {N : Nat → Prop} {s s' : St} {dv' : Value} (h : Sp w base N sb s) (hO : s'.Ok) (hB : SB w' sb s'.room dv' s'.sure s'.left s'.off) (hD : Dat w' base 5 dv' (bts s'.xs))
    (hv : ∀ g, dv'.ownBlock = some g → N g ∨ w.heap.size ≤ g) (hF : Fr N w w') : SpTo w base N sb s' w' := by
  obtain ⟨h1, h2, h3, dv, h4, h5, h6⟩ := h
  refine ⟨fun b => (b < w.heap.size ∧ N b) ∨ (w.heap.size ≤ b ∧ b < w'.heap.size), fun b hb => ⟨?_, fun h => .inl ⟨hb, h⟩⟩, ⟨hO, fun b hb => ?_, .inl ⟨(h2 sb h3).2, h3⟩, dv', hB, hD, fun g hg => ?_⟩, hF⟩
  · rintro (h | h)
    · exact h.2
    · omega
  · have := h2 sb h3
    rcases hb with hb | hb
    · exact ⟨(h2 b hb.2).1, Nat.lt_of_lt_of_le hb.1 hF.size⟩
    · exact ⟨by omega, hb.2⟩
  · have hlt := (hD.lt g hg).1
    rcases hv g hg with h | h
    · exact .inl ⟨(h2 g h).2, h⟩
    · exact .inr ⟨h, hlt⟩
theorem Sp.same {w w' : World} {base sb : Nat} {N : Nat → Prop} {s : St} (h : Sp w base N sb s) (hF : Fr (fun _ => False) w w') : SpTo w base N sb s w' :=
  ⟨N, fun _ _ => Iff.rfl, h.fr hF (fun _ _ h => h), hF.mono fun _ _ h => h.elim⟩
/-- One of its own cells is written. -/
theorem Sp.put {w w0 : World} {base sb : Nat} {N : Nat → Prop} {s s' : St} {dv : Value} (h : Sp w base N sb s) (hF : Fr N w w0) (o : Nat) (v : Value) (hO : s'.Ok) (hB : SB (w0.setCell ⟨sb, o, none⟩ v) sb s'.room dv s'.sure s'.left s'.off)
    (hb0 : ∀ g, dv.ownBlock = some g → g ≠ sb) (hD : Dat w0 base 5 dv (bts s'.xs)) (hv : ∀ g, dv.ownBlock = some g → N g) : SpTo w base N sb s' (w0.setCell ⟨sb, o, none⟩ v) :=
  h.to hO hB (hD.fr (N := fun b => b = sb) (Fr.one w0 sb o v) fun g hg e => hb0 g hg e) (fun g hg => .inl (hv g hg))
    (Fr.setCell hF (a := ⟨sb, o, none⟩) (.inl h.2.2.1) v)

theorem St.Ok.offed {s : St} (h : s.Ok) : ({ s with off := true } : St).Ok := h
theorem tick_bd {l : Int} (h : -1 ≤ l) (h2 : l ≤ 9223372036854775807) : -1 ≤ tick l ∧ tick l ≤ 9223372036854775807 := by unfold tick; split <;> omega

theorem rd_form {w : World} {K : Nat → Prop} {v : Value} {ys : List UInt8} (h : Rd w K v (bts ys)) : ∃ B d, v = .slice B ys.length d ∧ ys.length ≤ maxLen := by
  obtain ⟨A, c, h1, h2, h3, _⟩ := h
  rw [bts_len] at h1 h2
  exact ⟨A, c, h1, by omega⟩
theorem dat_form {w : World} {base : Nat} {e : TypeId} {v : Value} {ys : List UInt8} (h : Dat w base e v (bts ys)) : ∃ B d, v = .slice B ys.length d ∧ ys.length ≤ d ∧ d ≤ maxLen ∧ ∀ n, n ≤ ys.length → Dat w base e (.slice B n n) (bts (ys.take n)) := by
  obtain ⟨A, c, h1, h2, h3, h4⟩ := h.form
  rw [bts_len] at h1 h2
  exact ⟨A, c, h1, h2, h3, fun n hn => by rw [bts_take]; exact h4 n (by rw [bts_len]; exact hn)⟩

/-- Add. -/
theorem add_any {w : World} {base sb : Nat} {N K : Nat → Prop} {s : St} {bv : Value} {ys : List UInt8} (h : Sp w base N sb s) (hS : Rd w K bv (bts ys)) (hK : ∀ b, K b → ¬ N b) :
    Calls Try.prog 29 #[.pointer (some ⟨sb, 0, none⟩), bv] w fun e w' => e = .returned (.int .i64 (addS s ys).2) ∧ SpTo w base N sb (addS s ys).1 w' := by
  have h' := h
  obtain ⟨⟨o1, o2, o3, o4, o5⟩, h2, h3, dv, hB, hD, hN⟩ := h'
  obtain ⟨room, xs, sure, left, off⟩ := s
  dsimp only at *
  obtain ⟨B, d, rfl, hm⟩ := rd_form hS
  obtain ⟨A, c, rfl, hc, hcm, _⟩ := dat_form hD
  have hne : ∀ g, (Value.slice A xs.length c).ownBlock = some g → g ≠ sb := fun g hg e => dat_ne hB hD (hg.trans (by rw [e]))
  unfold addS
  dsimp only
  cases off with
  | true =>
    rw [if_pos rfl]
    refine (add_off w sb room _ sure left _ hB).mono fun e w' ⟨he, hw⟩ => ⟨he, ?_⟩
    subst hw; exact h.same (Fr.refl _ _)
  | false =>
    rw [if_neg (by decide)]
    by_cases hf : room - xs.length < ys.length
    · rw [if_pos hf]
      refine (add_full w sb room A B xs.length c ys.length d sure left hB (by omega) o3 (by omega) hm hf).mono fun e w' ⟨he, k, hw⟩ => ⟨he, ?_⟩
      subst hw; exact h.same ((Fr.refl _ _).drewN k)
    · rw [if_neg hf]
      by_cases hl : left = 0
      · subst hl
        rw [if_pos rfl]
        refine (add_lost w sb room A B xs.length c ys.length d sure hB (by omega) o3 (by omega) hm hf).mono fun e w' ⟨he, k, hw⟩ => ⟨he, ?_⟩
        subst hw
        exact h.put ((Fr.refl _ _).drewN k) 4 (.bool true) ⟨o1, o2, o3, o4, o5⟩ (Blk.set (w := w.drewN k) hB 4 (.bool true)) hne hD hN
      · rw [if_neg hl]
        refine (add_ok w base sb room A B xs.length c ys.length d sure left hB (by omega) o3 (by omega) hm hf hl o5 (bts xs) (bts ys) (by simp) (by simp) hD K hS (fun b hb e => hK b hb (e ▸ h3)) (bts_one ys) ?_).mono fun e w' ⟨he, dv', h7, h8, h9, h10⟩ => ⟨he, ?_⟩
        · have := h2 sb h3; omega
        · have := tick_bd o4 o5
          refine h.to ⟨?_, ?_, o3, this.1, this.2⟩ h7 (by dsimp only; rw [bts_app]; exact h8) (fun g hg => ?_) (h10.mono fun b _ hb => ?_)
          · dsimp only; rw [List.length_append]; omega
          · dsimp only; rw [List.length_append]; omega
          · rcases h9 with h9 | ⟨g', h9, h11⟩
            · exact .inl (hN g (h9 ▸ hg))
            · rw [h9] at hg; obtain rfl : g' = g := by simpa using hg
              exact .inr h11
          · rcases hb with rfl | hb
            · exact h3
            · exact hN b hb
end Go.Proofs.Ytgohnidndjbjiaa
