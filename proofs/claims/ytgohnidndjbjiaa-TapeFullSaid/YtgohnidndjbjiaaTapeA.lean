/-
  Layer 19: a tape's state, plainly; a tape in the memory.
-/
import Derived.Test.YtgohnidndjbjiaaCrateR
import Derived.Test.YtgohnidndjbjiaaSpoolN
namespace Go.Proofs.Ytgohnidndjbjiaa
open Go Go.RowKit Go.Lib
set_option linter.unusedVariables false

/-- A tape's state: its spool's, its records, whether it is lost. -/
structure TS where
  s : St
  l : List (List UInt8)
  lost : Bool
/-- One more record, written. -/
def appT (t : TS) (r : List UInt8) : TS × Int :=
  if (addS t.s (putB r)).2 = 0 then
    if (syncS (addS t.s (putB r)).1).2 = 0 then (⟨(syncS (addS t.s (putB r)).1).1, t.l ++ [r], false⟩, 0)
    else (⟨(syncS (addS t.s (putB r)).1).1, t.l, false⟩, (syncS (addS t.s (putB r)).1).2)
  else (⟨(addS t.s (putB r)).1, t.l, false⟩, (addS t.s (putB r)).2)
/-- What a lost spool makes of a tape. -/
def notT (p : TS × Int) : TS × Int := if p.2 = 190 then (⟨p.1.s, [], true⟩, 190) else p
def addT (t : TS) (r : List UInt8) : TS × Int :=
  if t.lost then (t, 190) else if 8000 < r.length then (t, 3) else notT (appT t r)
def packLp : TS → List (List UInt8) → TS × Int
  | t, [] => (t, 0)
  | t, r :: l => if (appT t r).2 = 0 then packLp (appT t r).1 l else appT t r
def longL (l : List (List UInt8)) : Bool := l.any fun r => decide (8000 < r.length)
def packT (t : TS) (l : List (List UInt8)) : TS × Int :=
  if t.lost then (t, 190) else if longL l then (t, 3) else
    if (cutS t.s 0).2 = 0 then notT (packLp ⟨(cutS t.s 0).1, [], false⟩ l) else notT (⟨(cutS t.s 0).1, t.l, false⟩, (cutS t.s 0).2)
/-- What Open leaves of the spool, and answers. -/
def openS (s : St) : St × Int :=
  if s.off then (s, 190) else if endL (rowsB s.xs) < s.xs.length then cutS s (endL (rowsB s.xs)) else (s, 0)

theorem addS_len (s : St) (ys : List UInt8) : s.xs.length ≤ (addS s ys).1.xs.length ∧ ((addS s ys).2 = 0 → (addS s ys).1.xs.length = s.xs.length + ys.length) := by
  unfold addS
  split <;> (try split) <;> (try split) <;> simp
theorem syncS_len (s : St) : (syncS s).1.xs = s.xs := by
  unfold syncS
  split <;> (try split) <;> rfl
/-- The tape's own blocks: itself, its row, its records. -/
structure Tp (w : World) (base : Nat) (R : Nat → Prop) (sb tb : Nat) (l : List (List UInt8)) (lost : Bool) : Prop where
  lt : ∀ b, R b → base ≤ b ∧ b < w.heap.size
  mem : R tb
  own : lost = true → l = []
  shrt : ∀ x ∈ l, x.length ≤ 8000
  row : ∃ rv vs, Blk w tb #[.pointer (some ⟨sb, 0, none⟩), rv, .bool lost] 65 ∧ w.ownsRow base 37 1 rv vs.length vs ∧ Bods w base vs l ∧ (∀ g, rv.ownBlock = some g → R g) ∧ ∀ (i : Nat) (v : Value) (g : Nat), vs[i]? = some v → v.ownBlock = some g → R g
/-- A tape on its spool; all their blocks are those of N. -/
def Tk (w : World) (base : Nat) (N : Nat → Prop) (sb tb : Nat) (t : TS) : Prop :=
  ∃ M R, Sp w base M sb t.s ∧ Tp w base R sb tb t.l t.lost ∧ (∀ b, M b → ¬ R b) ∧ (∀ b, N b ↔ M b ∨ R b) ∧ t.l.length ≤ t.s.xs.length
def TkTo (w : World) (base : Nat) (N : Nat → Prop) (sb tb : Nat) (t : TS) (w' : World) : Prop :=
  ∃ N', (∀ b, b < w.heap.size → (N' b ↔ N b)) ∧ Tk w' base N' sb tb t ∧ Fr N w w'
section
variable {w w' : World} {base sb tb : Nat} {M N R K : Nat → Prop} {l : List (List UInt8)} {lost : Bool} {t t' : TS} {s' : St}
theorem Tp.fr (h : Tp w base R sb tb l lost) (f : Fr K w w') (hk : ∀ b, R b → ¬ K b) : Tp w' base R sb tb l lost := by
  obtain ⟨h1, h2, h3, h3', rv, vs, h4, h5, h6, h7, h8⟩ := h
  exact ⟨fun b hb => ⟨(h1 b hb).1, Nat.lt_of_lt_of_le (h1 b hb).2 f.size⟩, h2, h3, h3', rv, vs, h4.fr f (hk tb h2), owns_fr h5 f fun g hg => hk g (h7 g hg), h6.fr f fun i v g hv hg => hk g (h8 i v g hv hg), h7, h8⟩
theorem Tk.lt (h : Tk w base N sb tb t) : ∀ b, N b → base ≤ b ∧ b < w.heap.size := by
  obtain ⟨M, R, h1, h2, h3, h4, h5⟩ := h
  intro b hb
  rcases (h4 b).1 hb with h | h
  · exact h1.2.1 b h
  · exact h2.lt b h
theorem Tk.fr (h : Tk w base N sb tb t) (f : Fr K w w') (hk : ∀ b, N b → ¬ K b) : Tk w' base N sb tb t := by
  obtain ⟨M, R, h1, h2, h3, h4, h5⟩ := h
  exact ⟨M, R, h1.fr f fun b hb => hk b ((h4 b).2 (.inl hb)), h2.fr f fun b hb => hk b ((h4 b).2 (.inr hb)), h3, h4, h5⟩
theorem Tk.kept (h : Tk w base N sb tb t) (f : Below w.heap.size w w') : Tk w' base N sb tb t :=
  h.fr (K := fun _ => False) (fr_of_below f fun b h1 h2 => by omega) fun _ _ h => h
theorem Tk.baseLe (h : Tk w base N sb tb t) : base ≤ w.heap.size := by
  obtain ⟨M, R, h1, h2, h3, h4, h5⟩ := h; exact h1.baseLe
theorem Tk.below (h : Tk w base N sb tb t) (f : Fr N w w') : Below base w w' := f.below h.baseLe fun b hb => (h.lt b hb).1
theorem TkTo.refl (h : Tk w base N sb tb t) : TkTo w base N sb tb t w := ⟨N, fun _ _ => Iff.rfl, h, Fr.refl _ _⟩
/-- The spool goes on by itself. -/
theorem Tk.spool (h : Tk w base N sb tb t) (hs : t.l.length ≤ s'.xs.length) {f : FuncId} {args : Array Value} {Q : Ending → Prop} (k : ∀ M, Sp w base M sb t.s → (∀ b, M b → N b) → Calls Try.prog f args w fun e w' => Q e ∧ SpTo w base M sb s' w') :
    Calls Try.prog f args w fun e w' => Q e ∧ TkTo w base N sb tb ⟨s', t.l, t.lost⟩ w' := by
  obtain ⟨M, R, h1, h2, h3, h4, h5⟩ := h
  refine (k M h1 fun b hb => (h4 b).2 (.inl hb)).mono fun e w' ⟨he, M', e1, e2, e3⟩ => ⟨he, ?_⟩
  refine ⟨fun b => M' b ∨ R b, fun b hb => ?_, ⟨M', R, e2, h2.fr e3 fun b hb hm => h3 b hm hb, fun b hm hr => h3 b ((e1 b (h2.lt b hr).2).1 hm) hr, fun b => Iff.rfl, hs⟩, e3.mono fun b _ hb => (h4 b).2 (.inl hb)⟩
  show M' b ∨ R b ↔ N b
  rw [h4 b, e1 b hb]
theorem TkTo.trans {w1 : World} (h : TkTo w base N sb tb t w1) (k : ∀ N', Tk w1 base N' sb tb t → TkTo w1 base N' sb tb t' w') : TkTo w base N sb tb t' w' := by
  obtain ⟨N1, h1, h2, h3⟩ := h
  obtain ⟨N2, k1, k2, k3⟩ := k N1 h2
  exact ⟨N2, fun b hb => (k1 b (Nat.lt_of_lt_of_le hb h3.size)).trans (h1 b hb), k2, h3.trans k3 fun b hb hN => (h1 b hb).1 hN⟩
theorem TkTo.kept {w1 : World} (h : TkTo w base N sb tb t w1) (f : Below w1.heap.size w1 w') : TkTo w base N sb tb t w' := by
  obtain ⟨N1, h1, h2, h3⟩ := h
  exact ⟨N1, h1, h2.kept f, h3.trans (M := fun _ => False) (fr_of_below f fun b h1 h2 => by omega) fun _ _ h => h.elim⟩
/-- The tape's own cells, laid anew; its row and records lie in its old blocks, or in new ones. -/
theorem Tp.to {rv : Value} {vs : List Value} (h : Tp w base R sb tb l lost) {l' : List (List UInt8)} {lost' : Bool} (ho : lost' = true → l' = []) (hsh : ∀ x ∈ l', x.length ≤ 8000) (hB : Blk w' tb #[.pointer (some ⟨sb, 0, none⟩), rv, .bool lost'] 65)
    (hr : w'.ownsRow base 37 1 rv vs.length vs) (hb : Bods w' base vs l') (h1 : ∀ g, rv.ownBlock = some g → R g ∨ w.heap.size ≤ g) (h2 : ∀ (i : Nat) (v : Value) (g : Nat), vs[i]? = some v → v.ownBlock = some g → R g ∨ w.heap.size ≤ g)
    (hF : w.heap.size ≤ w'.heap.size) : ∃ R', (∀ b, b < w.heap.size → (R' b ↔ R b)) ∧ Tp w' base R' sb tb l' lost' := by
  refine ⟨fun b => (b < w.heap.size ∧ R b) ∨ (w.heap.size ≤ b ∧ b < w'.heap.size), fun b hb => ⟨?_, fun h => .inl ⟨hb, h⟩⟩, ⟨fun b hb => ?_, .inl ⟨(h.lt tb h.mem).2, h.mem⟩, ho, hsh, rv, vs, hB, hr, hb, fun g hg => ?_, fun i v g hv hg => ?_⟩⟩
  · rintro (h | h)
    · exact h.2
    · omega
  · have := h.lt tb h.mem
    rcases hb with hb | hb
    · exact ⟨(h.lt b hb.2).1, Nat.lt_of_lt_of_le hb.1 hF⟩
    · exact ⟨by omega, hb.2⟩
  · have hl := owns_lt hr hg
    rcases h1 g hg with e | e
    · exact .inl ⟨(h.lt g e).2, e⟩
    · exact .inr ⟨e, hl⟩
  · have hl := hb.lt hv hg
    rcases h2 i v g hv hg with e | e
    · exact .inl ⟨(h.lt g e).2, e⟩
    · exact .inr ⟨e, hl⟩
/-- The tape goes on by itself, its spool unturned. -/
theorem TkTo.of {s : St} {l' : List (List UInt8)} {lost' : Bool} (h1 : Sp w base M sb s) (h2 : Tp w base R sb tb l lost) (h3 : ∀ b, M b → ¬ R b) (h4 : ∀ b, N b ↔ M b ∨ R b) (h5 : l'.length ≤ s.xs.length)
    (k : (∃ R', (∀ b, b < w.heap.size → (R' b ↔ R b)) ∧ Tp w' base R' sb tb l' lost') ∧ Fr R w w') : TkTo w base N sb tb ⟨s, l', lost'⟩ w' := by
  obtain ⟨⟨R', e1, e2⟩, e3⟩ := k
  refine ⟨fun b => M b ∨ R' b, fun b hb => ?_, ⟨M, R', h1.fr e3 fun b hb hr => h3 b hb hr, e2, fun b hm hr => h3 b hm ((e1 b (h1.2.1 b hm).2).1 hr), fun b => Iff.rfl, h5⟩, e3.mono fun b _ hb => (h4 b).2 (.inr hb)⟩
  show M b ∨ R' b ↔ N b
  rw [h4 b, e1 b hb]
theorem Tk.own (h : Tk w base N sb tb t) {l' : List (List UInt8)} {lost' : Bool} (h5 : l'.length ≤ t.s.xs.length) (k : ∀ R, Tp w base R sb tb t.l t.lost → (∃ R', (∀ b, b < w.heap.size → (R' b ↔ R b)) ∧ Tp w' base R' sb tb l' lost') ∧ Fr R w w') : TkTo w base N sb tb ⟨t.s, l', lost'⟩ w' := by
  obtain ⟨M, R, h1, h2, h3, h4, _⟩ := h
  exact TkTo.of h1 h2 h3 h4 h5 (k R h2)
theorem Tk.cells (h : Tk w base N sb tb t) : ∃ rv vs, w.cell? ⟨tb, 0, none⟩ = some (.pointer (some ⟨sb, 0, none⟩)) ∧ w.cell? ⟨tb, 1, none⟩ = some rv ∧ w.cell? ⟨tb, 2, none⟩ = some (.bool t.lost) ∧ w.ownsRow base 37 1 rv vs.length vs ∧ Bods w base vs t.l := by
  obtain ⟨M, R, h1, ⟨_, _, _, _, rv, vs, h2, h5, h6, _⟩, h3, h4, _⟩ := h
  exact ⟨rv, vs, h2.cell 0, h2.cell 1, h2.cell 2, h5, h6⟩
theorem Tk.few (h : Tk w base N sb tb t) : t.l.length ≤ t.s.xs.length ∧ t.l.length ≤ 1048576 := by
  obtain ⟨M, R, ⟨⟨_, h1, h2, _⟩, _⟩, _, _, _, h3⟩ := h
  exact ⟨h3, by omega⟩
theorem Tk.shrt (h : Tk w base N sb tb t) : ∀ x ∈ t.l, x.length ≤ 8000 := by
  obtain ⟨M, R, _, h, _⟩ := h
  exact h.shrt
theorem Tk.frees (h : Tk w base N sb tb t) : ∀ o, w.frozen? ⟨tb, o, none⟩ = false := by
  obtain ⟨M, R, h1, ⟨_, _, _, _, rv, vs, h2, h5, h6, _⟩, h3, h4, _⟩ := h
  exact h2.frees
end
end Go.Proofs.Ytgohnidndjbjiaa
