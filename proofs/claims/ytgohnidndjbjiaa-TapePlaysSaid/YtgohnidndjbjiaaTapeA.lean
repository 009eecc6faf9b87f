/-
  Layer 19: a tape's state, plainly; a tape in the memory.
  Layer 19: a record more, on the spool and in the row: the tape's append; its notice.
-/
import Derived.Test.YtgohnidndjbjiaaCrateR
import Derived.Test.YtgohnidndjbjiaaSpoolN
import Derived.Test.YtgohnidndjbjiaaShelf
import Derived.Deep.RegionLaw
import Derived.Deep.AppendLies
namespace Go.Proofs.Ytgohnidndjbjiaa
set_option linter.unusedVariables false

section
open Go Go.RowKit Go.Lib
/-- A tape's state: its spool's, its records, whether it is lost. -/
structure TS where
  s : St
  l : List (List UInt8)
  lost : Bool
/-- One more record, written. -/
def appT (t : TS) (r : List UInt8) : TS × Int :=
  if (addS t.s (putB r)).2 = 0 then
    if (syncS (addS t.s (putB r)).1).2 = 0 then (⟨(syncS (addS t.s (putB r)).1).1, t.l ++ [r], false⟩, 0)
    else (⟨(syncS (addS t.s (putB r)).1).1, t.l, false⟩, (syncS (addS t.s (putB r)).1).2)
  else (⟨(addS t.s (putB r)).1, t.l, false⟩, (addS t.s (putB r)).2)
/-- What a lost spool makes of a tape. -/
def notT (p : TS × Int) : TS × Int := if p.2 = 190 then (⟨p.1.s, [], true⟩, 190) else p
def addT (t : TS) (r : List UInt8) : TS × Int :=
  if t.lost then (t, 190) else if 8000 < r.length then (t, 3) else notT (appT t r)
def packLp : TS → List (List UInt8) → TS × Int
  | t, [] => (t, 0)
  | t, r :: l => if (appT t r).2 = 0 then packLp (appT t r).1 l else appT t r
def longL (l : List (List UInt8)) : Bool := l.any fun r => decide (8000 < r.length)
def packT (t : TS) (l : List (List UInt8)) : TS × Int :=
  if t.lost then (t, 190) else if longL l then (t, 3) else
    if (cutS t.s 0).2 = 0 then notT (packLp ⟨(cutS t.s 0).1, [], false⟩ l) else notT (⟨(cutS t.s 0).1, t.l, false⟩, (cutS t.s 0).2)
/-- What Open leaves of the spool, and answers. -/
def openS (s : St) : St × Int :=
  if s.off then (s, 190) else if endL (rowsB s.xs) < s.xs.length then cutS s (endL (rowsB s.xs)) else (s, 0)

theorem addS_len (s : St) (ys : List UInt8) : s.xs.length ≤ (addS s ys).1.xs.length ∧ ((addS s ys).2 = 0 → (addS s ys).1.xs.length = s.xs.length + ys.length) := by
  unfold addS
  split <;> (try split) <;> (try split) <;> simp
theorem syncS_len (s : St) : (syncS s).1.xs = s.xs := by
  unfold syncS
  split <;> (try split) <;> rfl
/-- The tape's own blocks: itself, its row, its records. -/
structure Tp (w : World) (base : Nat) (R : Nat → Prop) (sb tb : Nat) (l : List (List UInt8)) (lost : Bool) : Prop where
  lt : ∀ b, R b → base ≤ b ∧ b < w.heap.size
  mem : R tb
  own : lost = true → l = []
  shrt : ∀ x ∈ l, x.length ≤ 8000
  row : ∃ rv vs, Blk w tb #[.pointer (some ⟨sb, 0, none⟩), rv, .bool lost] 65 ∧ w.ownsRow base 37 1 rv vs.length vs ∧ Bods w base vs l ∧ (∀ g, rv.ownBlock = some g → R g) ∧ ∀ (i : Nat) (v : Value) (g : Nat), vs[i]? = some v → v.ownBlock = some g → R g
/-- A tape on its spool; all their blocks are those of N. -/
def Tk (w : World) (base : Nat) (N : Nat → Prop) (sb tb : Nat) (t : TS) : Prop :=
  ∃ M R, Sp w base M sb t.s ∧ Tp w base R sb tb t.l t.lost ∧ (∀ b, M b → ¬ R b) ∧ (∀ b, N b ↔ M b ∨ R b) ∧ t.l.length ≤ t.s.xs.length
def TkTo (w : World) (base : Nat) (N : Nat → Prop) (sb tb : Nat) (t : TS) (w' : World) : Prop :=
  ∃ N', (∀ b, b < w.heap.size → (N' b ↔ N b)) ∧ Tk w' base N' sb tb t ∧ Fr N w w'
section
variable {w w' : World} {base sb tb : Nat} {M N R K : Nat → Prop} {l : List (List UInt8)} {lost : Bool} {t t' : TS} {s' : St}
theorem Tp.fr (h : Tp w base R sb tb l lost) (f : Fr K w w') (hk : ∀ b, R b → ¬ K b) : Tp w' base R sb tb l lost := by
  obtain ⟨h1, h2, h3, h3', rv, vs, h4, h5, h6, h7, h8⟩ := h
  exact ⟨fun b hb => ⟨(h1 b hb).1, Nat.lt_of_lt_of_le (h1 b hb).2 f.size⟩, h2, h3, h3', rv, vs, h4.fr f (hk tb h2), owns_fr h5 f fun g hg => hk g (h7 g hg), h6.fr f fun i v g hv hg => hk g (h8 i v g hv hg), h7, h8⟩
theorem Tk.lt (h : Tk w base N sb tb t) : ∀ b, N b → base ≤ b ∧ b < w.heap.size := by
  obtain ⟨M, R, h1, h2, h3, h4, h5⟩ := h
  intro b hb
  rcases (h4 b).1 hb with h | h
  · exact h1.2.1 b h
  · exact h2.lt b h
theorem Tk.fr (h : Tk w base N sb tb t) (f : Fr K w w') (hk : ∀ b, N b → ¬ K b) : Tk w' base N sb tb t := by
  obtain ⟨M, R, h1, h2, h3, h4, h5⟩ := h
  exact ⟨M, R, h1.fr f fun b hb => hk b ((h4 b).2 (.inl hb)), h2.fr f fun b hb => hk b ((h4 b).2 (.inr hb)), h3, h4, h5⟩
theorem Tk.kept (h : Tk w base N sb tb t) (f : Below w.heap.size w w') : Tk w' base N sb tb t :=
  h.fr (K := fun _ => False) (fr_of_below f fun b h1 h2 => by omega) fun _ _ h => h
theorem Tk.baseLe (h : Tk w base N sb tb t) : base ≤ w.heap.size := by
  obtain ⟨M, R, h1, h2, h3, h4, h5⟩ := h; exact h1.baseLe
theorem Tk.below (h : Tk w base N sb tb t) (f : Fr N w w') : Below base w w' := f.below h.baseLe fun b hb => (h.lt b hb).1
theorem TkTo.refl (h : Tk w base N sb tb t) : TkTo w base N sb tb t w := ⟨N, fun _ _ => Iff.rfl, h, Fr.refl _ _⟩
/-- The spool goes on by itself. -/
theorem Tk.spool (h : Tk w base N sb tb t) (hs : t.l.length ≤ s'.xs.length) {f : FuncId} {args : Array Value} {Q : Ending → Prop} (k : ∀ M, Sp w base M sb t.s → (∀ b, M b → N b) → Calls Try.prog f args w fun e w' => Q e ∧ SpTo w base M sb s' w') :
    Calls Try.prog f args w fun e w' => Q e ∧ TkTo w base N sb tb ⟨s', t.l, t.lost⟩ w' := by
  obtain ⟨M, R, h1, h2, h3, h4, h5⟩ := h
  refine (k M h1 fun b hb => (h4 b).2 (.inl hb)).mono fun e w' ⟨he, M', e1, e2, e3⟩ => ⟨he, ?_⟩
  refine ⟨fun b => M' b ∨ R b, fun b hb => ?_, ⟨M', R, e2, h2.fr e3 fun b hb hm => h3 b hm hb, fun b hm hr => h3 b ((e1 b (h2.lt b hr).2).1 hm) hr, fun b => Iff.rfl, hs⟩, e3.mono fun b _ hb => (h4 b).2 (.inl hb)⟩
  show M' b ∨ R b ↔ N b
  rw [h4 b, e1 b hb]
theorem TkTo.trans {w1 : World} (h : TkTo w base N sb tb t w1) (k : ∀ N', Tk w1 base N' sb tb t → TkTo w1 base N' sb tb t' w') : TkTo w base N sb tb t' w' := by
  obtain ⟨N1, h1, h2, h3⟩ := h
  obtain ⟨N2, k1, k2, k3⟩ := k N1 h2
  exact ⟨N2, fun b hb => (k1 b (Nat.lt_of_lt_of_le hb h3.size)).trans (h1 b hb), k2, h3.trans k3 fun b hb hN => (h1 b hb).1 hN⟩
theorem TkTo.kept {w1 : World} (h : TkTo w base N sb tb t w1) (f : Below w1.heap.size w1 w') : TkTo w base N sb tb t w' := by
  obtain ⟨N1, h1, h2, h3⟩ := h
  exact ⟨N1, h1, h2.kept f, h3.trans (M := fun _ => False) (fr_of_below f fun b h1 h2 => by omega) fun _ _ h => h.elim⟩
/-- The tape's own cells, laid anew; its row and records lie in its old blocks, or in new ones. -/
theorem Tp.to {rv : Value} {vs : List Value} (h : Tp w base R sb tb l lost) {l' : List (List UInt8)} {lost' : Bool} (ho : lost' = true → l' = []) (hsh : ∀ x ∈ l', x.length ≤ 8000) (hB : Blk w' tb #[.pointer (some ⟨sb, 0, none⟩), rv, .bool lost'] 65)
    (hr : w'.ownsRow base 37 1 rv vs.length vs) (hb : Bods w' base vs l') (h1 : ∀ g, rv.ownBlock = some g → R g ∨ w.heap.size ≤ g) (h2 : ∀ (i : Nat) (v : Value) (g : Nat), vs[i]? = some v → v.ownBlock = some g → R g ∨ w.heap.size ≤ g)
    (hF : w.heap.size ≤ w'.heap.size) : ∃ R', (∀ b, b < w.heap.size → (R' b ↔ R b)) ∧ Tp w' base R' sb tb l' lost' := by
  refine ⟨fun b => (b < w.heap.size ∧ R b) ∨ (w.heap.size ≤ b ∧ b < w'.heap.size), fun b hb => ⟨?_, fun h => .inl ⟨hb, h⟩⟩, ⟨fun b hb => ?_, .inl ⟨(h.lt tb h.mem).2, h.mem⟩, ho, hsh, rv, vs, hB, hr, hb, fun g hg => ?_, fun i v g hv hg => ?_⟩⟩
  · rintro (h | h)
    · exact h.2
    · omega
  · have := h.lt tb h.mem
    rcases hb with hb | hb
    · exact ⟨(h.lt b hb.2).1, Nat.lt_of_lt_of_le hb.1 hF⟩
    · exact ⟨by omega, hb.2⟩
  · have hl := owns_lt hr hg
    rcases h1 g hg with e | e
    · exact .inl ⟨(h.lt g e).2, e⟩
    · exact .inr ⟨e, hl⟩
  · have hl := hb.lt hv hg
    rcases h2 i v g hv hg with e | e
    · exact .inl ⟨(h.lt g e).2, e⟩
    · exact .inr ⟨e, hl⟩
/-- The tape goes on by itself, its spool unturned. -/
theorem TkTo.of {s : St} {l' : List (List UInt8)} {lost' : Bool} (h1 : Sp w base M sb s) (h2 : Tp w base R sb tb l lost) (h3 : ∀ b, M b → ¬ R b) (h4 : ∀ b, N b ↔ M b ∨ R b) (h5 : l'.length ≤ s.xs.length)
    (k : (∃ R', (∀ b, b < w.heap.size → (R' b ↔ R b)) ∧ Tp w' base R' sb tb l' lost') ∧ Fr R w w') : TkTo w base N sb tb ⟨s, l', lost'⟩ w' := by
  obtain ⟨⟨R', e1, e2⟩, e3⟩ := k
  refine ⟨fun b => M b ∨ R' b, fun b hb => ?_, ⟨M, R', h1.fr e3 fun b hb hr => h3 b hb hr, e2, fun b hm hr => h3 b hm ((e1 b (h1.2.1 b hm).2).1 hr), fun b => Iff.rfl, h5⟩, e3.mono fun b _ hb => (h4 b).2 (.inr hb)⟩
  show M b ∨ R' b ↔ N b
  rw [h4 b, e1 b hb]
theorem Tk.own (h : Tk w base N sb tb t) {l' : List (List UInt8)} {lost' : Bool} (h5 : l'.length ≤ t.s.xs.length) (k : ∀ R, Tp w base R sb tb t.l t.lost → (∃ R', (∀ b, b < w.heap.size → (R' b ↔ R b)) ∧ Tp w' base R' sb tb l' lost') ∧ Fr R w w') : TkTo w base N sb tb ⟨t.s, l', lost'⟩ w' := by
  obtain ⟨M, R, h1, h2, h3, h4, _⟩ := h
  exact TkTo.of h1 h2 h3 h4 h5 (k R h2)
theorem Tk.cells (h : Tk w base N sb tb t) : ∃ rv vs, w.cell? ⟨tb, 0, none⟩ = some (.pointer (some ⟨sb, 0, none⟩)) ∧ w.cell? ⟨tb, 1, none⟩ = some rv ∧ w.cell? ⟨tb, 2, none⟩ = some (.bool t.lost) ∧ w.ownsRow base 37 1 rv vs.length vs ∧ Bods w base vs t.l := by
  obtain ⟨M, R, h1, ⟨_, _, _, _, rv, vs, h2, h5, h6, _⟩, h3, h4, _⟩ := h
  exact ⟨rv, vs, h2.cell 0, h2.cell 1, h2.cell 2, h5, h6⟩
theorem Tk.few (h : Tk w base N sb tb t) : t.l.length ≤ t.s.xs.length ∧ t.l.length ≤ 1048576 := by
  obtain ⟨M, R, ⟨⟨_, h1, h2, _⟩, _⟩, _, _, _, h3⟩ := h
  exact ⟨h3, by omega⟩
theorem Tk.shrt (h : Tk w base N sb tb t) : ∀ x ∈ t.l, x.length ≤ 8000 := by
  obtain ⟨M, R, _, h, _⟩ := h
  exact h.shrt
theorem Tk.frees (h : Tk w base N sb tb t) : ∀ o, w.frozen? ⟨tb, o, none⟩ = false := by
  obtain ⟨M, R, h1, ⟨_, _, _, _, rv, vs, h2, h5, h6, _⟩, h3, h4, _⟩ := h
  exact h2.frees
end
end

section
open Go Go.RowKit Go.Lib
theorem clone_any {w : World} {K : Nat → Prop} {v : Value} {xs : List UInt8} (h : Rd w K v (bts xs)) (hn : xs.length ≤ 1048576) :
    Calls Try.prog 35 #[v] w (CopyTo w xs) := by
  obtain ⟨A, c, rfl, hc, hm, hr⟩ := h
  rw [bts_len] at *
  cases A with
  | none =>
    have h0 : xs = [] := by
      rcases Nat.eq_zero_or_pos xs.length with h | h
      · exact List.eq_nil_of_length_eq_zero h
      · obtain ⟨_, _, h, _⟩ := hr h; cases h
    subst h0
    exact (Try.bytes_Clone_nil 0 c w).mono fun e w' ⟨he, hw⟩ => ⟨_, he, by subst hw; exact World.ownsRow_nil _ _ _ _, by subst hw; exact Below.refl _ _⟩
  | some a =>
    refine (Try.bytes_Clone_at a xs.length c (xs.map fun b => (b.toNat : Int)) w (by simp) (by omega) fun i hi => ?_).mono fun e w' ⟨v', he, ho, _, hb⟩ => ⟨v', he, by rw [List.map_map] at ho; exact ho, hb⟩
    obtain ⟨b, off, e, _, _, hcell⟩ := hr (by omega)
    injection e with e
    subst e
    rw [Addr.add_lit, hcell i _ (bts_get xs i hi)]
    simp [List.getD, hi]

section
variable {w w' : World} {base sb tb : Nat} {M N R K : Nat → Prop} {l : List (List UInt8)} {lost : Bool} {t t' : TS} {s' : St}
/-- A record more in the tape's row. -/
theorem Tp.grow {w3 w4 : World} {rv hv v : Value} {vs : List Value} {r : List UInt8} {o : Obj} (h : Tp w base R sb tb l false)
    (hB : Blk w tb #[.pointer (some ⟨sb, 0, none⟩), rv, .bool false] 65) (hr : w.ownsRow base 37 1 rv vs.length vs) (hb : Bods w base vs l) (h1 : ∀ g, rv.ownBlock = some g → R g) (h2 : ∀ (i : Nat) (v : Value) (g : Nat), vs[i]? = some v → v.ownBlock = some g → R g)
    (hbase : base ≤ w.heap.size) (B3 : Below w.heap.size w w3) (o3 : w3.ownsRow w.heap.size 5 1 v r.length (bts r)) (g4 : (w3.alloc o).grownBy w4 rv.ownBlock) (o4 : w4.ownsRow base 37 1 hv (vs.length + 1) (vs ++ [v])) (h4 : hv.ownBlock = rv.ownBlock ∨ ∀ g, hv.ownBlock = some g → w.heap.size ≤ g) (hr8 : r.length ≤ 8000) :
    (∃ R', (∀ b, b < w.heap.size → (R' b ↔ R b)) ∧ Tp (w4.setCell ⟨tb, 1, none⟩ hv) base R' sb tb (l ++ [r]) false) ∧ Fr R w (w4.setCell ⟨tb, 1, none⟩ hv) := by
  have hl : (vs ++ [v]).length = vs.length + 1 := by simp
  have ht := (h.lt tb h.mem).2
  have F3 : Fr (fun _ => False) w w3 := fr_of_below B3 fun b h1 h2 => by omega
  have F4 : Fr (fun b => rv.ownBlock = some b) w w4 := ((F3.mono fun b _ h => h.elim).alloc o).grown g4 fun b hb => .inl hb
  have F5 : Fr (fun b => b = tb) w4 (w4.setCell ⟨tb, 1, none⟩ hv) := Fr.one w4 tb 1 hv
  have nrow : rv.ownBlock ≠ some tb := fun e => by
    obtain ⟨_, ⟨rfl, _⟩ | ⟨g', _, _, rfl, _, hc, _⟩⟩ := hr
    · cases e
    · obtain rfl : g' = tb := by simpa [Value.ownBlock] using e
      exact Blk.ne_ (w := w) (b := g') (b' := g') hc hB (by decide) rfl
  have hB4 : Blk w4 tb #[.pointer (some ⟨sb, 0, none⟩), rv, .bool false] 65 := hB.fr F4 nrow
  have hb4 : Bods w4 base (vs ++ [v]) (l ++ [r]) := by
    have p1 : Bods w3 base (vs ++ [v]) (l ++ [r]) := (hb.kept B3).push o3 hbase fun i u g hu hg => hb.lt hu hg
    refine (p1.fr ((Fr.refl (fun _ => False) w3).alloc o) fun _ _ _ _ _ h => h).fr (N := fun b => rv.ownBlock = some b) ((Fr.refl _ _).grown g4 fun b hb => .inl hb) fun i u g hu hg hh => ?_
    obtain ⟨x, _, ho⟩ := p1.at_ hu
    exact head_ne (owns_next hr B3) ho g hh hg
  have ntb : ∀ (i : Nat) (u : Value) (g : Nat), (vs ++ [v])[i]? = some u → u.ownBlock = some g → g ≠ tb := fun i u g hu hg e => by
    subst e
    obtain ⟨x, _, ⟨_, ⟨rfl, _⟩ | ⟨g', _, _, rfl, _, hc, _⟩⟩⟩ := hb4.at_ hu
    · cases hg
    · obtain rfl : g' = g := by simpa [Value.ownBlock] using hg
      exact Blk.ne_ (w := w4) (b := g') (b' := g') hc hB4 (by decide) rfl
  have nhv : ∀ g, hv.ownBlock = some g → g ≠ tb := fun g hg e => by
    rcases h4 with h4 | h4
    · exact nrow (by rw [← h4, hg, e])
    · have := h4 g hg; omega
  refine ⟨h.to (l' := l ++ [r]) (lost' := false) (rv := hv) (vs := vs ++ [v]) (fun h => by cases h) (fun x hx => by rcases List.mem_append.1 hx with h' | h'; exact h.shrt x h'; rw [List.mem_singleton.1 h']; exact hr8) ?_ ?_ (hb4.fr F5 ntb) (fun g hg => ?_) (fun i u g hu hg => ?_) ?_, ?_⟩
  · exact Blk.set hB4 1 hv
  · rw [hl]; exact owns_fr o4 F5 nhv
  · rcases h4 with h4 | h4
    · exact .inl (h1 g (h4 ▸ hg))
    · exact .inr (h4 g hg)
  · rcases Nat.lt_or_ge i vs.length with hi | hi
    · rw [List.getElem?_append_left hi] at hu
      exact .inl (h2 i u g hu hg)
    · rw [List.getElem?_append_right hi] at hu
      obtain ⟨_, rfl⟩ : i - vs.length = 0 ∧ v = u := by
        cases hk : i - vs.length with
        | zero => rw [hk] at hu; simpa using hu
        | succ k => rw [hk] at hu; simp at hu
      exact .inr (owns_base o3 hg)
  · exact Nat.le_trans F4.size F5.size
  · exact (F4.mono fun b _ hb => h1 b hb).trans F5 fun b _ e => e ▸ h.mem
end

theorem below_undrew {w w1 : World} (h : Below w.drew.heap.size w.drew w1) : Below w.heap.size w w1 := by
  have := (Below.refl w.heap.size w).drew.trans h
  exact this
theorem at_of {w w3 : World} {A : Option Addr} {n c g m cap : Nat} (h : (Value.slice A n c).ownBlock = some g ∨ g = w3.heap.size + 1) (b3 : Below w.drew.heap.size w.drew w3) :
    (Value.slice (some ⟨g, 0, none⟩) m cap).ownBlock = (Value.slice A n c).ownBlock ∨ ∀ g', (Value.slice (some ⟨g, 0, none⟩) m cap).ownBlock = some g' → w.heap.size ≤ g' := by
  rcases h with h | h
  · exact .inl (by rw [h]; rfl)
  · refine .inr fun g' hg => ?_
    obtain rfl : g = g' := by simpa [Value.ownBlock] using hg
    have := (below_undrew b3).size
    omega
theorem one_slice (A : Option Addr) (n c : Nat) : ∀ u ∈ [Value.slice A n c], u.oneCell' = true := by
  intro u hu
  obtain rfl : u = .slice A n c := by simpa using hu
  rfl
theorem notT_snd (p : TS × Int) : (notT p).2 = p.2 := by unfold notT; split <;> simp_all
theorem notice_no (w : World) (tb : Nat) (r : Int) (h : r ≠ 190) :
    Calls Try.prog 37 #[.pointer (some ⟨tb, 0, none⟩), .int .i64 r] w fun e w' => e = .returned (.tuple #[]) ∧ w' = w := by
  have t1 : (r == 190) = false := by simpa using h
  clear h
  go_enter Try.func37, Try.ntmps37
  go_wp2_with fail
  go_returns
  exact ⟨rfl, rfl⟩
theorem notice_yes (w : World) (tb : Nat) (u v : Value) (c1 : w.cell? ⟨tb, 1, none⟩ = some u) (c2 : w.cell? ⟨tb, 2, none⟩ = some v) (f1 : w.frozen? ⟨tb, 1, none⟩ = false) (f2 : w.frozen? ⟨tb, 2, none⟩ = false) :
    Calls Try.prog 37 #[.pointer (some ⟨tb, 0, none⟩), .int .i64 190] w fun e w' => e = .returned (.tuple #[]) ∧ w' = (w.setCell ⟨tb, 2, none⟩ (.bool true)).setCell ⟨tb, 1, none⟩ (.slice none 0 0) := by
  go_enter Try.func37, Try.ntmps37
  go_wp2_with fail
  go_returns
  exact ⟨rfl, rfl⟩
theorem TkTo.join {w w1 w' : World} {base sb tb : Nat} {N N1 : Nat → Prop} {t : TS} (h : TkTo w1 base N1 sb tb t w') (n1 : ∀ b, b < w.heap.size → (N1 b ↔ N b)) (f1 : Fr N w w1) : TkTo w base N sb tb t w' := by
  obtain ⟨N2, k1, k2, k3⟩ := h
  exact ⟨N2, fun b hb => (k1 b (Nat.lt_of_lt_of_le hb f1.size)).trans (n1 b hb), k2, f1.trans k3 fun b hb hN => (n1 b hb).1 hN⟩
section
variable {w w' : World} {base sb tb : Nat} {M N R K Kb : Nat → Prop} {l : List (List UInt8)} {lost : Bool} {t t' : TS} {s' : St}
/-- The tape is lost. -/
theorem Tk.lose (h : Tk w base N sb tb t) : TkTo w base N sb tb ⟨t.s, [], true⟩ ((w.setCell ⟨tb, 2, none⟩ (.bool true)).setCell ⟨tb, 1, none⟩ (.slice none 0 0)) := by
  refine h.own (Nat.zero_le _) fun R hT => ?_
  have hT' := hT
  obtain ⟨h1, h2, h3, _, rv, vs, h4, h5, h6, h7, h8⟩ := hT'
  have hF := (Fr.one w tb 2 (.bool true)).trans (Fr.one _ tb 1 (.slice none 0 0)) fun _ _ h => h
  exact ⟨hT.to (l' := []) (lost' := true) (rv := .slice none 0 0) (vs := []) (fun _ => rfl) (fun x hx => by simp at hx) (Blk.set (Blk.set h4 2 (.bool true)) 1 (.slice none 0 0)) (World.ownsRow_nil _ _ _ _) (Bods.nil _ _) (fun g hg => by cases hg) (fun i v g hv => by simp at hv) hF.size, hF.mono fun b _ e => e ▸ h2⟩
theorem notice_any (h : Tk w base N sb tb t) (r : Int) :
    Calls Try.prog 37 #[.pointer (some ⟨tb, 0, none⟩), .int .i64 r] w fun e w' => e = .returned (.tuple #[]) ∧ TkTo w base N sb tb (notT (t, r)).1 w' := by
  by_cases hr : r = 190
  · subst hr
    obtain ⟨rv, vs, c0, c1, c2, _⟩ := h.cells
    refine (notice_yes w tb rv (.bool t.lost) c1 c2 (h.frees 1) (h.frees 2)).mono fun e w' ⟨he, hw⟩ => ⟨he, ?_⟩
    subst hw
    exact h.lose
  · refine (notice_no w tb r hr).mono fun e w' ⟨he, hw⟩ => ⟨he, ?_⟩
    subst hw
    unfold notT
    rw [if_neg hr]
    exact TkTo.refl h
theorem late_any (h : Tk w base N sb tb t) (p q : Nat) (r : Int) (hp : w.cell? ⟨p, 0, none⟩ = some (.pointer (some ⟨tb, 0, none⟩))) (hq : w.cell? ⟨q, 0, none⟩ = some (.int .i64 r)) :
    CallsD Try.prog 36 #[.pointer (some ⟨p, 0, none⟩), .pointer (some ⟨q, 0, none⟩)] .returning w fun e u' w' => u' = .returning ∧ e = .returned (.tuple #[]) ∧ TkTo w base N sb tb (notT (t, r)).1 w' := by
  have HN := Lib.hid (notice_any h r)
  clear h
  go_enter_d Try.func36, Try.ntmps36
  go_wp2_with fail
  refine HN.out.mono ?_; rintro e w1 ⟨rfl, h1⟩
  have H1 := Lib.hid h1
  clear h1
  go_wp2_with fail
  go_returns
  exact ⟨rfl, H1.out⟩
/-- The tape's append. -/
theorem append_any {rv bv : Value} {r : List UInt8} (h : Tk w base N sb tb t) (hl : t.lost = false) (hR : Rd w K rv (bts r)) (hK : ∀ b, K b → ¬ N b) (hC : Rd w Kb bv (bts (putB r))) (hKb : ∀ b, Kb b → ¬ N b) (hr : r.length ≤ 8000) :
    Calls Try.prog 39 #[.pointer (some ⟨tb, 0, none⟩), rv, bv] w fun e w' => e = .returned (.int .i64 (appT t r).2) ∧ TkTo w base N sb tb (appT t r).1 w' := by
  obtain ⟨i0, hi, hz0, hz1, hz2⟩ := info_parts Try.infoL
  obtain ⟨s, l, lost⟩ := t
  dsimp only at hl
  subst hl
  unfold appT
  dsimp only
  obtain ⟨s1, e1, ha⟩ : ∃ s1 e1, addS s (putB r) = (s1, e1) := ⟨_, _, rfl⟩
  obtain ⟨s2, e2, hy⟩ : ∃ s2 e2, syncS s1 = (s2, e2) := ⟨_, _, rfl⟩
  rw [ha]
  dsimp only
  rw [hy]
  dsimp only
  have HR := Lib.hid hR
  have HC := Lib.hid hC
  have H := Lib.hid h
  obtain ⟨Ar, cr, rfl, _⟩ := rd_form hR
  obtain ⟨Ab, cb, rfl, _⟩ := rd_form hC
  obtain ⟨rv, vs, c0, c1, c2, ho, hbd⟩ := h.cells
  have A1 : Hid (Calls Try.prog 29 #[.pointer (some ⟨sb, 0, none⟩), .slice Ab (putB r).length cb] w fun e w' => e = .returned (.int .i64 e1) ∧ TkTo w base N sb tb ⟨s1, l, false⟩ w') :=
    h.spool (by have := addS_len s (putB r); rw [ha] at this; exact Nat.le_trans h.few.1 this.1) fun M hM hN => add_at ha hM hC fun b hb hm => hKb b hb (hN b hm)
  clear h hR hC
  by_cases h1 : e1 = 0
  · subst h1
    rw [if_pos rfl]
    by_cases h2 : e2 = 0
    · subst h2
      rw [if_pos rfl]
      go_enter Try.func39, Try.ntmps39
      go_wp2_with fail
      refine A1.out.mono ?_; rintro e w1 ⟨rfl, N1, n1, k1, f1⟩
      obtain ⟨_, _, d0, _⟩ := k1.cells
      have A2 := Lib.hid (k1.spool (s' := s2) (by have := syncS_len s1; rw [hy] at this; rw [this]; exact k1.few.1) fun M hM hN => sync_at hy hM)
      have N1' := Lib.hid n1
      have F1 := Lib.hid f1
      clear n1 k1 f1 c0 c1 c2
      go_wp2_with fail
      refine A2.out.mono ?_; rintro e w2 ⟨rfl, N2, n2, k2, f2⟩
      have F2 : Hid (Fr N w w2) := F1.out.trans f2 fun b hb hN => (N1'.out b hb).1 hN
      have N2' : Hid (∀ b, b < w.heap.size → (N2 b ↔ N b)) := fun b hb => (n2 b (Nat.lt_of_lt_of_le hb F1.out.size)).trans (N1'.out b hb)
      have HR2 : Hid (Rd w2 K (.slice Ar r.length cr) (bts r)) := HR.out.fr F2.out fun b hb _ => hK b hb
      have KB := k2.baseLe
      have hfew := k2.few.2
      obtain ⟨M2, R2, hsp, htp, hdi, hiff, _⟩ := k2
      have HSP := Lib.hid hsp
      have HDI := Lib.hid hdi
      have HIF := Lib.hid hiff
      have HT := Lib.hid htp
      obtain ⟨_, _, _, _, rv2, vs2, hB2, ho2, hb2, hr1, hr2⟩ := htp
      have HO3 := Lib.hid ho2
      obtain ⟨V, hV⟩ : ∃ V, V = vs2.length := ⟨_, rfl⟩
      rw [← hV] at ho2
      obtain ⟨A1v, c1v, rfl⟩ := owned_slice ho2
      have HV := Lib.hid hV
      have HB2 := Lib.hid hB2
      have HO2 := Lib.hid ho2
      have HBD2 := Lib.hid hb2
      have H1 := Lib.hid hr1
      have H2 := Lib.hid hr2
      have x1 := hB2.cell 1
      have fx := hB2.free 1
      simp at x1
      have htb : tb < w2.heap.size := hB2.lt
      have hne : Hid ((Value.slice A1v V c1v).ownBlock ≠ some tb) := fun e => by
        obtain ⟨_, ⟨e1, _⟩ | ⟨g', _, _, e1, _, hc, _⟩⟩ := ho2
        · rw [e1] at e; cases e
        · rw [e1] at e
          obtain rfl : g' = tb := by simpa [Value.ownBlock] using e
          exact Blk.ne_ (w := w2) (b := g') (b' := g') hc hB2 (by decide) rfl
      have HK : Hid (∀ w4 {w3 : World}, Below w2.heap.size w2.drew w3 → ∀ o, (w3.alloc o).grownBy w4 (Value.slice A1v V c1v).ownBlock → w4.cell? ⟨tb, 1, none⟩ = some (.slice A1v V c1v) ∧ w4.frozen? ⟨tb, 1, none⟩ = false) := fun w4 w3 b3 o g4 => by
        have F : Fr (fun b => (Value.slice A1v V c1v).ownBlock = some b) w2 w4 := ((((Fr.refl (fun _ => False) w2).drew.trans (fr_of_below b3 fun b h1 h2 => by simp at h1; omega) fun _ _ h => h).mono fun b _ h => h.elim).alloc o).grown g4 fun b h => .inl h
        exact ⟨(HB2.out.fr F hne.out).cell 1, (HB2.out.fr F hne.out).free 1⟩
      have hVb : V ≤ 1048576 := by rw [hV, hb2.len]; exact hfew
      have HL : Hid ((l ++ [r]).length ≤ s2.xs.length) := by
        have q1 := addS_len s (putB r)
        have q2 := syncS_len s1
        have q3 := H.out.few.1
        rw [ha] at q1; rw [hy] at q2
        dsimp only at q1 q2 q3
        have := q1.2 rfl
        rw [putB_len] at this
        unfold Hid
        rw [q2, List.length_append, List.length_singleton]; omega
      have HCL : Hid (Calls Try.prog 35 #[.slice Ar r.length cr] w2.drew (CopyTo w2.drew r)) := clone_any (HR2.out.fr (N := fun _ => False) (Fr.refl _ _).drew fun _ _ _ h => h) (by omega)
      clear n2 f2 hsp hdi hiff hV hB2 ho2 hb2 hr1 hr2 d0
      go_wp2_with fail
      go_region_law
        (first
          | (go_simp; go_at_call 35; ((with_reducible refine HCL.out.mono ?_); rintro e w3 ⟨v3, rfl, o3, b3⟩; have o3' := Lib.hid o3; obtain ⟨A3, c3, rfl⟩ := owned_slice o3; have x3 : w3.cell? ⟨tb, 1, none⟩ = some (.slice A1v V c1v) := cell_next (W := w2.drew) b3 x1; have hz3 : tb < w3.heap.size := Nat.lt_of_lt_of_le htb b3.size; clear o3; try dsimp only))
          | (refine step_append_lies _ (by rfl) _ _ 38 (by rfl) base 37 i0 _ 1 24 Try.underlying38 hi hz0 hz1 hz2 rfl (by decide) _ V vs2 (by rfl) (owns_alloc (owns_next (w := w2.drew) HO2.out b3) _) ⟨w3.heap.size, 0, none⟩ 1 1 [.slice A3 r.length c3] (by rfl) (by rfl) (news_alloc w3 [.slice A3 r.length c3] 37) (one_slice _ _ _) (by decide) (by unfold maxLen; omega) (by omega) (by have h1 := b3.size; simp at h1 ⊢; omega) (w3.heap.size + 1) (by simp) ?_; intro g4 cap4 w4 hown4 hgrow4 hat4 _; obtain ⟨x4, fx4⟩ := HK.out w4 b3 _ hgrow4))
      all_goals
        go_wp2_with fail
        go_returns
        refine ⟨rfl, TkTo.join (TkTo.of HSP.out HT.out HDI.out HIF.out HL.out (HT.out.grow HB2.out (by rw [← HV.out]; exact HO2.out) HBD2.out H1.out H2.out KB (below_undrew b3) o3'.out hgrow4 (by rw [← HV.out]; exact hown4) (at_of hat4 b3) hr)) N2'.out F2.out⟩
    · rw [if_neg h2]
      have t2 : (e2 != 0) = true := bne_iff_ne.2 h2
      clear h2
      go_enter Try.func39, Try.ntmps39
      go_wp2_with fail
      refine A1.out.mono ?_; rintro e w1 ⟨rfl, N1, n1, k1, f1⟩
      obtain ⟨_, _, d0, _⟩ := k1.cells
      have A2 := Lib.hid (k1.spool (s' := s2) (by have := syncS_len s1; rw [hy] at this; rw [this]; exact k1.few.1) fun M hM hN => sync_at hy hM)
      have N1' := Lib.hid n1
      have F1 := Lib.hid f1
      clear n1 k1 f1 c0 c1 c2
      go_wp2_with fail
      refine A2.out.mono ?_; rintro e w2 ⟨rfl, h2⟩
      have H2 := Lib.hid h2
      clear h2
      go_wp2_with fail
      go_returns
      exact ⟨rfl, H2.out.join N1'.out F1.out⟩
  · rw [if_neg h1]
    have t1 : (e1 != 0) = true := bne_iff_ne.2 h1
    clear h1
    go_enter Try.func39, Try.ntmps39
    go_wp2_with fail
    refine A1.out.mono ?_; rintro e w1 ⟨rfl, h1⟩
    have H1 := Lib.hid h1
    clear h1
    go_wp2_with fail
    go_returns
    exact ⟨rfl, H1.out⟩
end
end

end Go.Proofs.Ytgohnidndjbjiaa
