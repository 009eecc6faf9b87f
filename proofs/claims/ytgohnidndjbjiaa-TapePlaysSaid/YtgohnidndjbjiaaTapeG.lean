/-
  gangerref19: the document's tape in the memory; each of its calls at any state.
  gangerref19: Records, Open, Add.
  gangerref19: Add.
-/
import Derived.Test.YtgohnidndjbjiaaTapeC
import Derived.Test.YtgohnidndjbjiaaSpoolU
import Derived.Test.YtgohnidndjbjiaaCrateN
import Derived.Test.YtgohnidndjbjiaaCrateO
import Derived.Deep.RegionLaw
namespace Go.Proofs.Ytgohnidndjbjiaa
set_option linter.unusedVariables false

section
open Go Go.RowKit Go.Lib
/-- The document's tape's own blocks. -/
structure Rp (w : World) (base : Nat) (R : Nat → Prop) (mb rb : Nat) (l : List (List UInt8)) (lost : Bool) : Prop where
  lt : ∀ b, R b → base ≤ b ∧ b < w.heap.size
  mem : R rb
  row : ∃ rv vs, Blk w rb #[.pointer (some ⟨mb, 0, none⟩), rv, .bool lost] 67 ∧ w.ownsRow base 37 1 rv vs.length vs ∧ Bods w base vs l ∧ (∀ g, rv.ownBlock = some g → R g) ∧ ∀ (i : Nat) (v : Value) (g : Nat), vs[i]? = some v → v.ownBlock = some g → R g
/-- It, on its spool; all their blocks are those of N. -/
def Rk (w : World) (base : Nat) (N : Nat → Prop) (mb rb : Nat) (t : TS) : Prop :=
  ∃ M R ll, Rf w base M mb t.s ∧ Rp w base R mb rb ll t.lost ∧ (∀ b, M b → ¬ R b) ∧ (∀ b, N b ↔ M b ∨ R b) ∧ (t.lost = false → ll = t.l ∧ t.l.length ≤ t.s.xs.length) ∧ (t.lost = true → t.l = [])
def RkTo (w : World) (base : Nat) (N : Nat → Prop) (mb rb : Nat) (t : TS) (w' : World) : Prop :=
  ∃ N', (∀ b, b < w.heap.size → (N' b ↔ N b)) ∧ Rk w' base N' mb rb t ∧ Fr N w w'
section
variable {w w' : World} {base mb rb : Nat} {M N R K : Nat → Prop} {l ll : List (List UInt8)} {lost : Bool} {t t' : TS} {s s' : St}
theorem Rf.lt (h : Rf w base M mb s) : ∀ b, M b → base ≤ b ∧ b < w.heap.size := h.2.1
theorem Rf.baseLe (h : Rf w base M mb s) : base ≤ w.heap.size := by have := h.2.1 mb h.2.2.1; omega
theorem Rf.kept (h : Rf w base M mb s) (f : Below w.heap.size w w') : Rf w' base M mb s :=
  h.fr (N := fun _ => False) (fr_of_below f fun b h1 h2 => by omega) fun _ _ h => h
theorem Rf.below (h : Rf w base M mb s) (f : Fr M w w') : Below base w w' := f.below h.baseLe fun b hb => (h.lt b hb).1
theorem Rp.fr (h : Rp w base R mb rb l lost) (f : Fr K w w') (hk : ∀ b, R b → ¬ K b) : Rp w' base R mb rb l lost := by
  obtain ⟨h1, h2, rv, vs, h4, h5, h6, h7, h8⟩ := h
  exact ⟨fun b hb => ⟨(h1 b hb).1, Nat.lt_of_lt_of_le (h1 b hb).2 f.size⟩, h2, rv, vs, h4.fr f (hk rb h2), owns_fr h5 f fun g hg => hk g (h7 g hg), h6.fr f fun i v g hv hg => hk g (h8 i v g hv hg), h7, h8⟩
theorem Rk.lt (h : Rk w base N mb rb t) : ∀ b, N b → base ≤ b ∧ b < w.heap.size := by
  obtain ⟨M, R, ll, h1, h2, h3, h4, h5⟩ := h
  intro b hb
  rcases (h4 b).1 hb with h | h
  · exact h1.2.1 b h
  · exact h2.lt b h
theorem Rk.fr (h : Rk w base N mb rb t) (f : Fr K w w') (hk : ∀ b, N b → ¬ K b) : Rk w' base N mb rb t := by
  obtain ⟨M, R, ll, h1, h2, h3, h4, h5⟩ := h
  exact ⟨M, R, ll, h1.fr f fun b hb => hk b ((h4 b).2 (.inl hb)), h2.fr f fun b hb => hk b ((h4 b).2 (.inr hb)), h3, h4, h5⟩
theorem Rk.kept (h : Rk w base N mb rb t) (f : Below w.heap.size w w') : Rk w' base N mb rb t :=
  h.fr (K := fun _ => False) (fr_of_below f fun b h1 h2 => by omega) fun _ _ h => h
theorem Rk.baseLe (h : Rk w base N mb rb t) : base ≤ w.heap.size := by
  obtain ⟨M, R, ll, h1, h2, h3, h4, h5⟩ := h; exact h1.baseLe
theorem Rk.below (h : Rk w base N mb rb t) (f : Fr N w w') : Below base w w' := f.below h.baseLe fun b hb => (h.lt b hb).1
theorem Rk.mem (h : Rk w base N mb rb t) : N rb := by obtain ⟨_, _, _, _, h2, _, h4, _⟩ := h; exact (h4 rb).2 (.inr h2.mem)
theorem RkTo.refl (h : Rk w base N mb rb t) : RkTo w base N mb rb t w := ⟨N, fun _ _ => Iff.rfl, h, Fr.refl _ _⟩
theorem RkTo.get (h : Rk w base N mb rb t) (k : RkTo w base N mb rb t' w') : ∃ N', Rk w' base N' mb rb t' ∧ Below base w w' := by
  obtain ⟨N', _, h1, h2⟩ := k
  exact ⟨N', h1, h.below h2⟩
theorem RkTo.join {w1 : World} {N1 : Nat → Prop} (h : RkTo w1 base N1 mb rb t w') (n1 : ∀ b, b < w.heap.size → (N1 b ↔ N b)) (f1 : Fr N w w1) : RkTo w base N mb rb t w' := by
  obtain ⟨N2, k1, k2, k3⟩ := h
  exact ⟨N2, fun b hb => (k1 b (Nat.lt_of_lt_of_le hb f1.size)).trans (n1 b hb), k2, f1.trans k3 fun b hb hN => (n1 b hb).1 hN⟩
theorem Rk.sp (h : Rk w base N mb rb t) : ∃ M, Rf w base M mb t.s ∧ ∀ b, M b → N b := by
  obtain ⟨M, R, ll, h1, _, _, h4, _⟩ := h
  exact ⟨M, h1, fun b hb => (h4 b).2 (.inl hb)⟩
theorem Rk.few (h : Rk w base N mb rb t) : t.l.length ≤ t.s.xs.length ∧ t.l.length ≤ 1048576 := by
  obtain ⟨M, R, ll, ⟨⟨_, h1, h2, _⟩, _⟩, _, _, _, h3, h4⟩ := h
  cases hl : t.lost with
  | false => have := (h3 hl).2; exact ⟨this, by omega⟩
  | true => rw [h4 hl]; simp
/-- The spool goes on by itself. -/
theorem Rk.spool (h : Rk w base N mb rb t) (hs : t.l.length ≤ s'.xs.length) {f : FuncId} {args : Array Value} {Q : Ending → Prop} (k : ∀ M, Rf w base M mb t.s → (∀ b, M b → N b) → Calls Try.prog f args w fun e w' => Q e ∧ RfTo w base M mb s' w') :
    Calls Try.prog f args w fun e w' => Q e ∧ RkTo w base N mb rb ⟨s', t.l, t.lost⟩ w' := by
  obtain ⟨M, R, ll, h1, h2, h3, h4, h5, h6⟩ := h
  refine (k M h1 fun b hb => (h4 b).2 (.inl hb)).mono fun e w' ⟨he, M', e1, e2, e3⟩ => ⟨he, ?_⟩
  refine ⟨fun b => M' b ∨ R b, fun b hb => ?_, ⟨M', R, ll, e2, h2.fr e3 fun b hb hm => h3 b hm hb, fun b hm hr => h3 b ((e1 b (h2.lt b hr).2).1 hm) hr, fun b => Iff.rfl, fun h => ⟨(h5 h).1, hs⟩, h6⟩, e3.mono fun b _ hb => (h4 b).2 (.inl hb)⟩
  show M' b ∨ R b ↔ N b
  rw [h4 b, e1 b hb]
/-- The tape's own cells, laid anew. -/
theorem Rp.to {rv : Value} {vs : List Value} (h : Rp w base R mb rb l lost) {l' : List (List UInt8)} {lost' : Bool} (hB : Blk w' rb #[.pointer (some ⟨mb, 0, none⟩), rv, .bool lost'] 67)
    (hr : w'.ownsRow base 37 1 rv vs.length vs) (hb : Bods w' base vs l') (h1 : ∀ g, rv.ownBlock = some g → R g ∨ w.heap.size ≤ g) (h2 : ∀ (i : Nat) (v : Value) (g : Nat), vs[i]? = some v → v.ownBlock = some g → R g ∨ w.heap.size ≤ g)
    (hF : w.heap.size ≤ w'.heap.size) : ∃ R', (∀ b, b < w.heap.size → (R' b ↔ R b)) ∧ Rp w' base R' mb rb l' lost' := by
  refine ⟨fun b => (b < w.heap.size ∧ R b) ∨ (w.heap.size ≤ b ∧ b < w'.heap.size), fun b hb => ⟨?_, fun h => .inl ⟨hb, h⟩⟩, ⟨fun b hb => ?_, .inl ⟨(h.lt rb h.mem).2, h.mem⟩, rv, vs, hB, hr, hb, fun g hg => ?_, fun i v g hv hg => ?_⟩⟩
  · rintro (h | h)
    · exact h.2
    · omega
  · have := h.lt rb h.mem
    rcases hb with hb | hb
    · exact ⟨(h.lt b hb.2).1, Nat.lt_of_lt_of_le hb.1 hF⟩
    · exact ⟨by omega, hb.2⟩
  · have hl := owns_lt hr hg
    rcases h1 g hg with e | e
    · exact .inl ⟨(h.lt g e).2, e⟩
    · exact .inr ⟨e, hl⟩
  · have hl := hb.lt hv hg
    rcases h2 i v g hv hg with e | e
    · exact .inl ⟨(h.lt g e).2, e⟩
    · exact .inr ⟨e, hl⟩
/-- The tape goes on by itself, its spool unturned. -/
theorem RkTo.of {l' ll' : List (List UInt8)} {lost' : Bool} (h1 : Rf w base M mb s) (h2 : Rp w base R mb rb ll lost) (h3 : ∀ b, M b → ¬ R b) (h4 : ∀ b, N b ↔ M b ∨ R b) (h5 : lost' = false → ll' = l' ∧ l'.length ≤ s.xs.length) (h6 : lost' = true → l' = [])
    (k : (∃ R', (∀ b, b < w.heap.size → (R' b ↔ R b)) ∧ Rp w' base R' mb rb ll' lost') ∧ Fr R w w') : RkTo w base N mb rb ⟨s, l', lost'⟩ w' := by
  obtain ⟨⟨R', e1, e2⟩, e3⟩ := k
  refine ⟨fun b => M b ∨ R' b, fun b hb => ?_, ⟨M, R', ll', h1.fr e3 fun b hb hr => h3 b hb hr, e2, fun b hm hr => h3 b hm ((e1 b (h1.2.1 b hm).2).1 hr), fun b => Iff.rfl, h5, h6⟩, e3.mono fun b _ hb => (h4 b).2 (.inr hb)⟩
  show M b ∨ R' b ↔ N b
  rw [h4 b, e1 b hb]
theorem Rk.cells (h : Rk w base N mb rb t) : ∃ rv vs ll, w.cell? ⟨rb, 0, none⟩ = some (.pointer (some ⟨mb, 0, none⟩)) ∧ w.cell? ⟨rb, 1, none⟩ = some rv ∧ w.cell? ⟨rb, 2, none⟩ = some (.bool t.lost) ∧ w.ownsRow base 37 1 rv vs.length vs ∧ Bods w base vs ll ∧ (t.lost = false → ll = t.l) := by
  obtain ⟨M, R, ll, h1, ⟨_, _, rv, vs, h2, h5, h6, _⟩, h3, h4, h7, _⟩ := h
  exact ⟨rv, vs, ll, h2.cell 0, h2.cell 1, h2.cell 2, h5, h6, fun h => (h7 h).1⟩
theorem Rk.frees (h : Rk w base N mb rb t) : ∀ o, w.frozen? ⟨rb, o, none⟩ = false := by
  obtain ⟨M, R, ll, h1, ⟨_, _, rv, vs, h2, h5, h6, _⟩, h3, h4⟩ := h
  exact h2.frees
/-- A record more in the row. -/
theorem Rp.grow {w3 w4 : World} {rv hv v : Value} {vs : List Value} {r : List UInt8} {o : Obj} (h : Rp w base R mb rb l false)
    (hB : Blk w rb #[.pointer (some ⟨mb, 0, none⟩), rv, .bool false] 67) (hr : w.ownsRow base 37 1 rv vs.length vs) (hb : Bods w base vs l) (h1 : ∀ g, rv.ownBlock = some g → R g) (h2 : ∀ (i : Nat) (v : Value) (g : Nat), vs[i]? = some v → v.ownBlock = some g → R g)
    (hbase : base ≤ w.heap.size) (B3 : Below w.heap.size w w3) (o3 : w3.ownsRow w.heap.size 5 1 v r.length (bts r)) (g4 : (w3.alloc o).grownBy w4 rv.ownBlock) (o4 : w4.ownsRow base 37 1 hv (vs.length + 1) (vs ++ [v])) (h4 : hv.ownBlock = rv.ownBlock ∨ ∀ g, hv.ownBlock = some g → w.heap.size ≤ g) :
    (∃ R', (∀ b, b < w.heap.size → (R' b ↔ R b)) ∧ Rp (w4.setCell ⟨rb, 1, none⟩ hv) base R' mb rb (l ++ [r]) false) ∧ Fr R w (w4.setCell ⟨rb, 1, none⟩ hv) ∧ Blk (w4.setCell ⟨rb, 1, none⟩ hv) rb #[.pointer (some ⟨mb, 0, none⟩), hv, .bool false] 67 := by
  have hl : (vs ++ [v]).length = vs.length + 1 := by simp
  have ht := (h.lt rb h.mem).2
  have F3 : Fr (fun _ => False) w w3 := fr_of_below B3 fun b h1 h2 => by omega
  have F4 : Fr (fun b => rv.ownBlock = some b) w w4 := ((F3.mono fun b _ h => h.elim).alloc o).grown g4 fun b hb => .inl hb
  have F5 : Fr (fun b => b = rb) w4 (w4.setCell ⟨rb, 1, none⟩ hv) := Fr.one w4 rb 1 hv
  have nrow : rv.ownBlock ≠ some rb := fun e => by
    obtain ⟨_, ⟨rfl, _⟩ | ⟨g', _, _, rfl, _, hc, _⟩⟩ := hr
    · cases e
    · obtain rfl : g' = rb := by simpa [Value.ownBlock] using e
      exact Blk.ne_ (w := w) (b := g') (b' := g') hc hB (by decide) rfl
  have hB4 : Blk w4 rb #[.pointer (some ⟨mb, 0, none⟩), rv, .bool false] 67 := hB.fr F4 nrow
  have hb4 : Bods w4 base (vs ++ [v]) (l ++ [r]) := by
    have p1 : Bods w3 base (vs ++ [v]) (l ++ [r]) := (hb.kept B3).push o3 hbase fun i u g hu hg => hb.lt hu hg
    refine (p1.fr ((Fr.refl (fun _ => False) w3).alloc o) fun _ _ _ _ _ h => h).fr (N := fun b => rv.ownBlock = some b) ((Fr.refl _ _).grown g4 fun b hb => .inl hb) fun i u g hu hg hh => ?_
    obtain ⟨x, _, ho⟩ := p1.at_ hu
    exact head_ne (owns_next hr B3) ho g hh hg
  have ntb : ∀ (i : Nat) (u : Value) (g : Nat), (vs ++ [v])[i]? = some u → u.ownBlock = some g → g ≠ rb := fun i u g hu hg e => by
    subst e
    obtain ⟨x, _, ⟨_, ⟨rfl, _⟩ | ⟨g', _, _, rfl, _, hc, _⟩⟩⟩ := hb4.at_ hu
    · cases hg
    · obtain rfl : g' = g := by simpa [Value.ownBlock] using hg
      exact Blk.ne_ (w := w4) (b := g') (b' := g') hc hB4 (by decide) rfl
  have nhv : ∀ g, hv.ownBlock = some g → g ≠ rb := fun g hg e => by
    rcases h4 with h4 | h4
    · exact nrow (by rw [← h4, hg, e])
    · have := h4 g hg; omega
  have hB5 := Blk.set hB4 1 hv
  refine ⟨h.to (l' := l ++ [r]) (lost' := false) (rv := hv) (vs := vs ++ [v]) hB5 ?_ (hb4.fr F5 ntb) (fun g hg => ?_) (fun i u g hu hg => ?_) ?_, ?_, hB5⟩
  · rw [hl]; exact owns_fr o4 F5 nhv
  · rcases h4 with h4 | h4
    · exact .inl (h1 g (h4 ▸ hg))
    · exact .inr (h4 g hg)
  · rcases Nat.lt_or_ge i vs.length with hi | hi
    · rw [List.getElem?_append_left hi] at hu
      exact .inl (h2 i u g hu hg)
    · rw [List.getElem?_append_right hi] at hu
      obtain ⟨_, rfl⟩ : i - vs.length = 0 ∧ v = u := by
        cases hk : i - vs.length with
        | zero => rw [hk] at hu; simpa using hu
        | succ k => rw [hk] at hu; simp at hu
      exact .inr (owns_base o3 hg)
  · exact Nat.le_trans F4.size F5.size
  · exact (F4.mono fun b _ hb => h1 b hb).trans F5 fun b _ e => e ▸ h.mem
/-- The mark of a lost tape. -/
theorem Rk.mark (h : Rk w base N mb rb t) (hl : t.lost = false) (b : Bool) : RkTo w base N mb rb (if b then ⟨t.s, [], true⟩ else t) (w.setCell ⟨rb, 2, none⟩ (.bool b)) := by
  obtain ⟨s, l, lost⟩ := t
  dsimp only at hl
  subst hl
  obtain ⟨M, R, ll, h1, hT, h3, h4, h5, h6⟩ := h
  dsimp only at *
  obtain ⟨rfl, hlen⟩ := h5 rfl
  have hT' := hT
  obtain ⟨e1, e2, rv, vs, e4, e5, e6, e7, e8⟩ := hT'
  have F := Fr.one w rb 2 (.bool b)
  have nrv : ∀ g, rv.ownBlock = some g → g ≠ rb := fun g hg e => by
    obtain ⟨_, ⟨rfl, _⟩ | ⟨g', _, _, rfl, _, hc, _⟩⟩ := e5
    · cases hg
    · obtain rfl : g' = g := by simpa [Value.ownBlock] using hg
      exact Blk.ne_ (w := w) hc e4 (by decide) e
  have nvs : ∀ (i : Nat) (u : Value) (g : Nat), vs[i]? = some u → u.ownBlock = some g → g ≠ rb := fun i u g hu hg e => by
    obtain ⟨x, _, ⟨_, ⟨rfl, _⟩ | ⟨g', _, _, rfl, _, hc, _⟩⟩⟩ := e6.at_ hu
    · cases hg
    · obtain rfl : g' = g := by simpa [Value.ownBlock] using hg
      exact Blk.ne_ (w := w) hc e4 (by decide) e
  have key := hT.to (l' := ll) (lost' := b) (Blk.set e4 2 (.bool b)) (owns_fr e5 F nrv) (e6.fr F nvs) (fun g hg => .inl (e7 g hg)) (fun i v g hv hg => .inl (e8 i v g hv hg)) F.size
  cases b with
  | true => exact RkTo.of h1 hT h3 h4 (fun h => by cases h) (fun _ => rfl) ⟨key, F.mono fun b _ e => e ▸ e2⟩
  | false => exact RkTo.of h1 hT h3 h4 (fun _ => ⟨rfl, hlen⟩) (fun h => by cases h) ⟨key, F.mono fun b _ e => e ▸ e2⟩
end
end

section
open Go Go.RowKit Go.Lib
theorem addS_err {s s1 : St} {ys : List UInt8} {e1 : Int} (h : addS s ys = (s1, e1)) : e1 = 0 ∨ e1 = 5 ∨ e1 = 190 := by
  unfold addS at h
  split at h
  · injection h with _ h; exact .inr (.inr h.symm)
  · split at h
    · injection h with _ h; exact .inr (.inl h.symm)
    · split at h
      · injection h with _ h; exact .inr (.inr h.symm)
      · injection h with _ h; exact .inl h.symm
theorem syncS_err {s s1 : St} {e1 : Int} (h : syncS s = (s1, e1)) : e1 = 0 ∨ e1 = 190 := by
  unfold syncS at h
  split at h
  · injection h with _ h; exact .inr h.symm
  · split at h
    · injection h with _ h; exact .inr h.symm
    · injection h with _ h; exact .inl h.symm
section
variable {w w' : World} {base mb rb : Nat} {M N R K : Nat → Prop} {l ll : List (List UInt8)} {lost : Bool} {t t' : TS} {s s' : St}
theorem Rf.dim (h : Rf w base M mb s) : w.cell? ⟨mb, 4, none⟩ = some (.bool s.off) := by
  obtain ⟨_, _, _, fv, sv, fs, ss, hB, _⟩ := h
  exact hB.cell 4
theorem refRecords_any (h : Rk w base N mb rb t) : Calls Try.prog 15 #[.pointer (some ⟨rb, 0, none⟩)] w fun e w' => ∃ v, e = .returned v ∧ RdL w v t.l ∧ w' = w := by
  have h' := h
  obtain ⟨rv, vs, ll, c0, c1, c2, ho, hb, hll⟩ := h.cells
  cases hl : t.lost with
  | true =>
    have e : t.l = [] := by obtain ⟨_, _, _, _, _, _, _, _, h6⟩ := h; exact h6 hl
    rw [hl] at c2
    have HL : Hid (RdL w (.slice none 0 0) t.l) := by rw [e]; exact ⟨[], rfl, Rd.nil _ _, fun i u x hu => by simp at hu⟩
    clear h h' ho hb hll hl e
    go_enter Try.func15, Try.ntmps15
    go_wp2_with fail
    go_returns
    exact ⟨_, rfl, HL.out, rfl⟩
  | false =>
    rw [hl] at c2
    have HL : Hid (RdL w rv t.l) := by rw [← hll hl]; exact RdL.of_bods ho hb
    clear h h' ho hb hll hl
    go_enter Try.func15, Try.ntmps15
    go_wp2_with fail
    go_returns
    exact ⟨_, rfl, HL.out, rfl⟩
/-- What the document's tape that is opened is. -/
def ROpenTo (w : World) (base : Nat) (N : Nat → Prop) (mb : Nat) (s : St) (e : Ending) (w' : World) : Prop :=
  ((openS s).2 = 0 ∧ ∃ rb N', e = .returned (.tuple #[.pointer (some ⟨rb, 0, none⟩), .int .i64 0]) ∧ Rk w' base N' mb rb ⟨(openS s).1, rowsB s.xs, false⟩ ∧ (∀ b, b < w.heap.size → (N' b ↔ N b)) ∧ Fr N w w') ∨
  ((openS s).2 ≠ 0 ∧ e = .returned (.tuple #[.pointer none, .int .i64 (openS s).2]) ∧ RfTo w base N mb (openS s).1 w')
theorem Rk.fresh {w2 w3 : World} {B : Nat} {N3 : Nat → Prop} {bv : Value} {vs : List Value} (h : Rf w3 base N3 mb s') (hB : base ≤ B) (o2 : w2.ownsRow B 37 1 bv vs.length vs) (b2 : Bods w2 B vs l) (hl : l.length ≤ s'.xs.length)
    (hN : ∀ b, N3 b → b < w2.heap.size → b < B) (f : Fr K w2 w3) (hK : ∀ b, K b → b < B) : Rk (w3.alloc (.cells #[.pointer (some ⟨mb, 0, none⟩), bv, .bool false] 67)) base (fun b => N3 b ∨ ((B ≤ b ∧ b < w2.heap.size) ∨ b = w3.heap.size)) mb w3.heap.size ⟨s', l, false⟩ := by
  have hBw : ∀ g, bv.ownBlock = some g → B ≤ g := fun g hg => owns_base o2 hg
  have F4 : Fr K w2 (w3.alloc (.cells #[.pointer (some ⟨mb, 0, none⟩), bv, .bool false] 67)) := f.alloc _
  have hs := f.size
  have hbase := h.baseLe
  refine ⟨N3, fun b => (B ≤ b ∧ b < w2.heap.size) ∨ b = w3.heap.size, l, h.kept ((Below.refl _ _).alloc (Nat.le_refl _) _), ⟨fun b hb => ?_, .inr rfl, bv, vs, Blk.new _ _ _, owns_mono (owns_fr o2 F4 fun g hg hk => ?_) hB, (b2.fr F4 fun i v g hv hg hk => ?_).mono hB, fun g hg => ?_, fun i v g hv hg => ?_⟩, fun b hb hr => ?_, fun b => Iff.rfl, fun _ => ⟨rfl, hl⟩, (fun h => by cases h)⟩
  · rcases hb with hb | hb
    · simp; omega
    · subst hb; simp; exact hbase
  · have := hBw g hg; have := hK g hk; omega
  · obtain ⟨x, _, ho⟩ := b2.at_ hv
    have := owns_base ho hg; have := hK g hk; omega
  · exact .inl ⟨hBw g hg, owns_lt o2 hg⟩
  · obtain ⟨x, _, ho⟩ := b2.at_ hv
    exact .inl ⟨owns_base ho hg, owns_lt ho hg⟩
  · have hb3 := (h.lt b hb).2
    rcases hr with hr | hr
    · have := hN b hb hr.2; omega
    · omega
theorem RfTo.join {w2 : World} (h : RfTo w2 base N mb s' w') (hb : Below w.heap.size w w2) : RfTo w base N mb s' w' := by
  obtain ⟨N', h1, h2, h3⟩ := h
  exact ⟨N', fun b hl => h1 b (Nat.lt_of_lt_of_le hl hb.size), h2, (Fr.none_of hb (N := N)).trans h3 fun _ _ h => h⟩
theorem refCutS_at {k n : Int} (hr : cutS s k = (s', n)) (h : Rf w base M mb s) :
    Calls Try.prog 53 #[.pointer (some ⟨mb, 0, none⟩), .int .i64 k] w fun e w' => e = .returned (.int .i64 n) ∧ RfTo w base M mb s' w' := by
  have := refCut_any k h; rw [hr] at this; exact this
theorem refAddS_at {bv : Value} {ys : List UInt8} {n : Int} (hr : addS s ys = (s', n)) (h : Rf w base M mb s) (hS : Rd w K bv (bts ys)) (hK : ∀ b, K b → ¬ M b) (hy : ys.length ≤ 1048576) :
    Calls Try.prog 41 #[.pointer (some ⟨mb, 0, none⟩), bv] w fun e w' => e = .returned (.int .i64 n) ∧ RfTo w base M mb s' w' := by
  have := refAdd_any h hS hK hy; rw [hr] at this; exact this
theorem refSyncS_at {n : Int} (hr : syncS s = (s', n)) (h : Rf w base M mb s) :
    Calls Try.prog 42 #[.pointer (some ⟨mb, 0, none⟩)] w fun e w' => e = .returned (.int .i64 n) ∧ RfTo w base M mb s' w' := by
  have := refSync_any h; rw [hr] at this; exact this
theorem refOpen_any (h : Rf w base N mb s) (hn : s.xs.length ≤ 1000000) : Calls Try.prog 46 #[.pointer (some ⟨mb, 0, none⟩)] w (ROpenTo w base N mb s) := by
  have c4 := h.dim
  cases ho : s.off with
  | true =>
    have e : openS s = (s, 190) := by unfold openS; rw [ho]; rfl
    have HX : Hid (ROpenTo w base N mb s (.returned (.tuple #[.pointer none, .int .i64 190])) w) := by
      refine .inr ?_
      rw [e]
      exact ⟨by show (190 : Int) ≠ 0; decide, rfl, h.same (Fr.refl _ _)⟩
    rw [ho] at c4
    clear h ho e
    go_enter Try.func46, Try.ntmps46
    go_wp2_with fail
    go_returns
    exact HX.out
  | false =>
    rw [ho] at c4
    have HB := Lib.hid (refSpAll_any h ho)
    have H := Lib.hid h
    obtain ⟨r1, r2, r3⟩ := rows_bd s.xs
    have R3 := Lib.hid r3
    obtain ⟨E, hE⟩ : ∃ E, E = endL (rowsB s.xs) := ⟨_, rfl⟩
    have HE := Lib.hid hE
    have HN := Lib.hid hn
    obtain ⟨X, hX⟩ : ∃ X, X = s.xs.length := ⟨_, rfl⟩
    have HX := Lib.hid hX
    rw [← hE, ← hX] at r2
    rw [← hE] at R3
    have hXn : X ≤ 1000000 := by omega
    have HOf := Lib.hid ho
    clear h ho r1 r3 hE hn hX
    go_enter Try.func46, Try.ntmps46
    go_wp2_with fail
    refine HB.out.mono ?_; rintro e w1 ⟨bv1, rfl, ho1, hb1⟩
    have B1 := Lib.hid hb1
    have RD : Hid (Rd w1 (fun _ => True) bv1 (bts s.xs)) := Rd.of_owns (by rw [bts_len]; exact ho1) fun _ _ => trivial
    obtain ⟨A1, d1, rfl⟩ := owned_slice ho1
    have AL : Hid (Calls Try.prog 58 #[.slice A1 s.xs.length d1] w1 (AllTo w1 s.xs)) := refAll_any RD.out HN.out
    rw [← HX.out] at AL ⊢
    clear ho1 hb1 RD
    go_wp2_with fail
    refine AL.out.mono ?_; rintro e w2 ⟨bv, vs, rfl, ho2, hb2, hB2⟩
    have O2 := Lib.hid ho2
    have D2 := Lib.hid hb2
    have B2 := Lib.hid hB2
    rw [← HE.out]
    obtain ⟨A2, d2, rfl⟩ := owned_slice ho2
    clear ho2 hb2 hB2
    have S2 : Hid (Rf w2 base N mb s) := (H.out.kept B1.out).kept B2.out
    have bw : base ≤ w1.heap.size := Nat.le_trans H.out.baseLe B1.out.size
    have B12 : Hid (Below w.heap.size w w2) := B1.out.trans (B2.out.mono B1.out.size)
    by_cases hlt : E < X
    · have t1 : ((E : Int) != (X : Int)) = true := bne_iff_ne.2 (by omega)
      obtain ⟨s', e', hc⟩ : ∃ s' e', cutS s (E : Int) = (s', e') := ⟨_, _, rfl⟩
      have hop : openS s = (s', e') := by
        unfold openS
        rw [HOf.out, ← HE.out, ← HX.out, if_neg (by decide), if_pos hlt, hc]
      have HOP := Lib.hid hop
      have CU := Lib.hid (refCutS_at hc S2.out)
      have HC := Lib.hid hc
      clear hc hop
      by_cases h0 : e' = 0
      · subst h0
        go_wp2_with fail
        refine CU.out.mono ?_; rintro e w3 ⟨rfl, N3, n3, k3, f3⟩
        have NN := Lib.hid n3
        have K3 := Lib.hid k3
        have F3 := Lib.hid f3
        clear n3 k3 f3
        go_wp2_with fail
        go_returns
        refine .inl ?_
        rw [HOP.out]
        refine ⟨rfl, w3.heap.size, _, rfl, Rk.fresh K3.out bw O2.out D2.out ?_ ?_ F3.out (fun b hb => ?_), fun b hb => ?_, ((Fr.none_of B12.out).trans F3.out fun _ _ h => h).alloc _⟩
        · rw [cut_len HC.out (by rw [← HX.out]; exact r2)]; exact R3.out
        · intro b hb hl
          have := (H.out.lt b ((NN.out b hl).1 hb)).2
          have := B1.out.size; omega
        · have := (H.out.lt b hb).2; have := B1.out.size; omega
        · have := B1.out.size; have := B12.out.size; have := F3.out.size
          constructor
          · rintro (h | h | h)
            · exact (NN.out b (by omega)).1 h
            · omega
            · omega
          · exact fun h => .inl ((NN.out b (by omega)).2 h)
      · have t2 : (e' != 0) = true := bne_iff_ne.2 h0
        have H0 := Lib.hid h0
        clear h0
        go_wp2_with fail
        refine CU.out.mono ?_; rintro e w3 ⟨rfl, h3⟩
        have H3 := Lib.hid h3
        clear h3
        go_wp2_with fail
        go_returns
        refine .inr ?_
        rw [HOP.out]
        exact ⟨H0.out, rfl, H3.out.join B12.out⟩
    · have t1 : ((E : Int) != (X : Int)) = false := by simp; omega
      go_wp2_with fail
      go_returns
      refine .inl ?_
      have hop : openS s = (s, 0) := by
        unfold openS
        rw [HOf.out, ← HE.out, ← HX.out, if_neg (by decide), if_neg hlt]
      rw [hop]
      refine ⟨rfl, w2.heap.size, _, rfl, Rk.fresh (K := fun _ => False) S2.out bw O2.out D2.out ?_ ?_ (Fr.refl _ w2) (fun _ h => h.elim), fun b hb => ?_, (Fr.none_of B12.out).alloc _⟩
      · have := R3.out; rw [← HX.out]; omega
      · intro b hb _
        have := (H.out.lt b hb).2
        have := B1.out.size; omega
      · have := B1.out.size; have := B12.out.size
        constructor
        · rintro (h | h | h)
          · exact h
          · omega
          · omega
        · exact .inl
end
end

section
open Go Go.RowKit Go.Lib
section
variable {w w' : World} {base mb rb : Nat} {M N R K : Nat → Prop} {l ll : List (List UInt8)} {lost : Bool} {t t' : TS} {s s' : St}
theorem refTapeAdd_lost {rv : Value} (h : Rk w base N mb rb t) (hl : t.lost = true) :
    Calls Try.prog 21 #[.pointer (some ⟨rb, 0, none⟩), rv] w fun e w' => e = .returned (.int .i64 190) ∧ w' = w := by
  obtain ⟨_, _, _, c0, c1, c2, _⟩ := h.cells
  rw [hl] at c2
  clear h hl
  go_enter Try.func21, Try.ntmps21
  go_wp2_with fail
  go_returns
  exact ⟨rfl, rfl⟩
theorem refTapeAdd_long {A : Option Addr} {n c : Nat} (h : Rk w base N mb rb t) (hl : t.lost = false) (hn : 8000 < n) :
    Calls Try.prog 21 #[.pointer (some ⟨rb, 0, none⟩), .slice A n c] w fun e w' => e = .returned (.int .i64 3) ∧ w' = w := by
  obtain ⟨_, _, _, c0, c1, c2, _⟩ := h.cells
  rw [hl] at c2
  have HP := Lib.hid (refPut_long (A := A) (c := c) w hn)
  clear h hl hn
  go_enter Try.func21, Try.ntmps21
  go_wp2_with fail
  refine HP.out.mono ?_; rintro e w ⟨rfl, rfl⟩
  go_wp2_with fail
  go_returns
  exact ⟨rfl, rfl⟩
set_option maxHeartbeats 1000000 in
theorem refTapeAdd_ok {rv : Value} {r : List UInt8} (h : Rk w base N mb rb t) (hl : t.lost = false) (hR : Rd w K rv (bts r)) (hK : ∀ b, K b → ¬ N b) (hn : r.length ≤ 8000) :
    Calls Try.prog 21 #[.pointer (some ⟨rb, 0, none⟩), rv] w fun e w' => e = .returned (.int .i64 (appT t r).2) ∧ RkTo w base N mb rb (notT (appT t r)).1 w' := by
  obtain ⟨i0, hi, hz0, hz1, hz2⟩ := info_parts Try.infoL
  obtain ⟨s, l, lost⟩ := t
  dsimp only at hl
  subst hl
  obtain ⟨s1, e1, ha⟩ : ∃ s1 e1, addS s (putB r) = (s1, e1) := ⟨_, _, rfl⟩
  obtain ⟨s2, e2, hy⟩ : ∃ s2 e2, syncS s1 = (s2, e2) := ⟨_, _, rfl⟩
  have hAP : appT ⟨s, l, false⟩ r = if e1 = 0 then (if e2 = 0 then (⟨s2, l ++ [r], false⟩, 0) else (⟨s2, l, false⟩, e2)) else (⟨s1, l, false⟩, e1) := by
    unfold appT; dsimp only; rw [ha]; dsimp only; rw [hy]
  obtain ⟨tf, nf, hT⟩ : ∃ tf nf, appT ⟨s, l, false⟩ r = (tf, nf) := ⟨_, _, rfl⟩
  have HT : Hid ((tf, nf) = if e1 = 0 then (if e2 = 0 then (⟨s2, l ++ [r], false⟩, 0) else (⟨s2, l, false⟩, e2)) else (⟨s1, l, false⟩, e1)) := hT.symm.trans hAP
  rw [hT]
  clear hT
  have HR := Lib.hid hR
  have H := Lib.hid h
  obtain ⟨Ar, cr, rfl, _⟩ := rd_form hR
  obtain ⟨_, _, _, c0, c1, c2, _⟩ := h.cells
  dsimp only at c2
  have HP := Lib.hid (refPut_ok hR hn)
  have hpl : (putB r).length = r.length + 7 := putB_len r
  have PL := Lib.hid hpl
  have HA := Lib.hid ha
  have HY := Lib.hid hy
  clear h hR hpl hAP
  have hl1 : Hid (l.length ≤ s1.xs.length) := by have := addS_len s (putB r); rw [ha] at this; exact Nat.le_trans H.out.few.1 this.1
  have hl2 : Hid (l.length ≤ s2.xs.length) := by have := syncS_len s1; rw [hy] at this; dsimp only at this; unfold Hid; rw [this]; exact hl1.out
  have E1 := addS_err ha
  have E2 := syncS_err hy
  clear ha hy
  go_enter Try.func21, Try.ntmps21
  go_wp2_with fail
  refine HP.out.mono ?_; rintro e w1 ⟨v1, rfl, ho1, hb1⟩
  have B1 := Lib.hid hb1
  have K1 : Hid (Rk w1 base N mb rb ⟨s, l, false⟩) := H.out.kept hb1
  have HC1 : Hid (Rd w1 (fun b => w.heap.size ≤ b) v1 (bts (putB r))) := by
    have e : r.length + 7 = (bts (putB r)).length := by rw [bts_len, PL.out]
    have := ho1
    rw [e] at this
    exact Rd.of_owns this fun g hg => owns_base ho1 hg
  obtain ⟨A1, d1, rfl⟩ := owned_slice ho1
  have A1c : Hid (Calls Try.prog 41 #[.pointer (some ⟨mb, 0, none⟩), .slice A1 (r.length + 7) d1] w1 fun e w' => e = .returned (.int .i64 e1) ∧ RkTo w1 base N mb rb ⟨s1, l, false⟩ w') :=
    K1.out.spool hl1.out fun M hM hN => refAddS_at HA.out hM HC1.out (fun b hb hm => by have := (H.out.lt b (hN b hm)).2; omega) (by rw [PL.out]; omega)
  obtain ⟨_, _, _, d0, d1', d2, _⟩ := K1.out.cells
  dsimp only at d2
  clear c0 c1 c2 ho1 hb1
  go_wp2_with fail
  refine A1c.out.mono ?_; rintro e w2 ⟨rfl, N2, n2, k2, f2⟩
  have F2 : Hid (Fr N w w2) := (Fr.none_of B1.out).trans f2 fun _ _ h => h
  have N2' : Hid (∀ b, b < w.heap.size → (N2 b ↔ N b)) := fun b hb => n2 b (Nat.lt_of_lt_of_le hb B1.out.size)
  have K2 := Lib.hid k2
  obtain ⟨_, _, _, x0, x1, x2, _⟩ := k2.cells
  have y2 := k2.frees 2
  dsimp only at x2
  clear d0 d1' d2 n2 k2 f2
  rcases E1 with rfl | rfl | rfl
  · rcases E2 with rfl | rfl
    · have A2c : Hid (Calls Try.prog 42 #[.pointer (some ⟨mb, 0, none⟩)] w2 fun e w' => e = .returned (.int .i64 0) ∧ RkTo w2 base N2 mb rb ⟨s2, l, false⟩ w') :=
        K2.out.spool hl2.out fun M hM hN => refSyncS_at HY.out hM
      go_wp2_with fail
      refine A2c.out.mono ?_; rintro e w3 ⟨rfl, N3, n3, k3, f3⟩
      have F3 : Hid (Fr N w w3) := F2.out.trans f3 fun b hb h => (N2'.out b hb).1 h
      have N3' : Hid (∀ b, b < w.heap.size → (N3 b ↔ N b)) := fun b hb => (n3 b (Nat.lt_of_lt_of_le hb F2.out.size)).trans (N2'.out b hb)
      have K3 := Lib.hid k3
      have HR3 : Hid (Rd w3 K (.slice Ar r.length cr) (bts r)) := HR.out.fr F3.out fun b hb _ => hK b hb
      have KB := k3.baseLe
      have hfew := k3.few.2
      obtain ⟨M3, R3, l3, hsp, htp, hdi, hiff, hll, _⟩ := k3
      dsimp only at hll hfew
      obtain ⟨rfl, _⟩ := hll rfl
      have HSP := Lib.hid hsp
      have HDI := Lib.hid hdi
      have HIF := Lib.hid hiff
      have HTp := Lib.hid htp
      obtain ⟨_, _, rv2, vs2, hB2, ho2, hb2, hr1, hr2⟩ := htp
      obtain ⟨V, hV⟩ : ∃ V, V = vs2.length := ⟨_, rfl⟩
      rw [← hV] at ho2
      obtain ⟨A1v, c1v, rfl⟩ := owned_slice ho2
      have HV := Lib.hid hV
      have HB2 := Lib.hid hB2
      have HO2 := Lib.hid ho2
      have HBD2 := Lib.hid hb2
      have H1 := Lib.hid hr1
      have H2 := Lib.hid hr2
      have xx1 := hB2.cell 1
      have fx := hB2.free 1
      simp at xx1
      have htb : rb < w3.heap.size := hB2.lt
      have hne : Hid ((Value.slice A1v V c1v).ownBlock ≠ some rb) := fun e => by
        obtain ⟨_, ⟨e1, _⟩ | ⟨g', _, _, e1, _, hc, _⟩⟩ := ho2
        · rw [e1] at e; cases e
        · rw [e1] at e
          obtain rfl : g' = rb := by simpa [Value.ownBlock] using e
          exact Blk.ne_ (w := w3) (b := g') (b' := g') hc hB2 (by decide) rfl
      have HK : Hid (∀ w5 {w4 : World}, Below w3.heap.size w3.drew w4 → ∀ o, (w4.alloc o).grownBy w5 (Value.slice A1v V c1v).ownBlock → w5.cell? ⟨rb, 1, none⟩ = some (.slice A1v V c1v) ∧ w5.frozen? ⟨rb, 1, none⟩ = false) := fun w5 w4 b3 o g4 => by
        have F : Fr (fun b => (Value.slice A1v V c1v).ownBlock = some b) w3 w5 := ((((Fr.refl (fun _ => False) w3).drew.trans (fr_of_below b3 fun b h1 h2 => by simp at h1; omega) fun _ _ h => h).mono fun b _ h => h.elim).alloc o).grown g4 fun b h => .inl h
        exact ⟨(HB2.out.fr F hne.out).cell 1, (HB2.out.fr F hne.out).free 1⟩
      have hVb : V ≤ 1048576 := by rw [hV, hb2.len]; exact hfew
      have HL : Hid ((l3 ++ [r]).length ≤ s2.xs.length) := by
        have q1 := addS_len s (putB r)
        have q2 := syncS_len s1
        have q3 := H.out.few.1
        rw [HA.out] at q1; rw [HY.out] at q2
        dsimp only at q1 q2 q3
        have := q1.2 rfl
        rw [PL.out] at this
        unfold Hid
        rw [q2, List.length_append, List.length_singleton]; omega
      have HCL : Hid (Calls Try.prog 43 #[.slice Ar r.length cr] w3.drew (CopyTo w3.drew r)) := byCopy_any (HR3.out.fr (N := fun _ => False) (Fr.refl _ _).drew fun _ _ _ h => h) (by omega)
      clear hsp hdi hiff hV hB2 ho2 hb2 hr1 hr2 x0 x1 x2 y2 n3 f3
      go_wp2_with fail
      go_region_law
        (first
          | (go_simp; go_at_call 43; ((with_reducible refine HCL.out.mono ?_); rintro e w4 ⟨v3, rfl, o3, b3⟩; have o3' := Lib.hid o3; obtain ⟨A3, c3, rfl⟩ := owned_slice o3; have x3 : w4.cell? ⟨rb, 1, none⟩ = some (.slice A1v V c1v) := cell_next (W := w3.drew) b3 xx1; have hz3 : rb < w4.heap.size := Nat.lt_of_lt_of_le htb b3.size; clear o3; try dsimp only))
          | (refine step_append_lies _ (by rfl) _ _ 38 (by rfl) base 37 i0 _ 1 24 Try.underlying38 hi hz0 hz1 hz2 rfl (by decide) _ V vs2 (by rfl) (owns_alloc (owns_next (w := w3.drew) HO2.out b3) _) ⟨w4.heap.size, 0, none⟩ 1 1 [.slice A3 r.length c3] (by rfl) (by rfl) (news_alloc w4 [.slice A3 r.length c3] 37) (one_slice _ _ _) (by decide) (by unfold maxLen; omega) (by omega) (by have h1 := b3.size; simp at h1 ⊢; omega) (w4.heap.size + 1) (by simp) ?_; intro g4 cap4 w5 hown4 hgrow4 hat4 _; obtain ⟨x4, fx4⟩ := HK.out w5 b3 _ hgrow4))
      all_goals
        obtain ⟨gR, gF, gB⟩ := HTp.out.grow HB2.out (by rw [← HV.out]; exact HO2.out) HBD2.out H1.out H2.out KB (below_undrew b3) o3'.out hgrow4 (by rw [← HV.out]; exact hown4) (at_of hat4 b3)
        have K5 : Hid (RkTo w3 base N3 mb rb ⟨s2, l3 ++ [r], false⟩ _) := RkTo.of HSP.out HTp.out HDI.out HIF.out (fun _ => ⟨rfl, HL.out⟩) (fun h => by cases h) ⟨gR, gF⟩
        have m2 := gB.cell 2
        have fm2 := gB.free 2
        simp at m2
        clear gR gF gB
        go_wp2_with fail
        go_returns
        obtain ⟨N5, n5, k5, f5⟩ := K5.out
        have := k5.mark rfl false
        have e : (tf, nf) = (⟨s2, l3 ++ [r], false⟩, 0) := by simpa using HT.out
        rw [show nf = (tf, nf).2 from rfl, e]
        exact ⟨rfl, (RkTo.join this n5 f5).join N3'.out F3.out⟩
    · have A2c : Hid (Calls Try.prog 42 #[.pointer (some ⟨mb, 0, none⟩)] w2 fun e w' => e = .returned (.int .i64 190) ∧ RkTo w2 base N2 mb rb ⟨s2, l, false⟩ w') :=
        K2.out.spool hl2.out fun M hM hN => refSyncS_at HY.out hM
      go_wp2_with fail
      refine A2c.out.mono ?_; rintro e w3 ⟨rfl, N3, n3, k3, f3⟩
      have F3 : Hid (Fr N w w3) := F2.out.trans f3 fun b hb h => (N2'.out b hb).1 h
      have N3' : Hid (∀ b, b < w.heap.size → (N3 b ↔ N b)) := fun b hb => (n3 b (Nat.lt_of_lt_of_le hb F2.out.size)).trans (N2'.out b hb)
      have K3 := Lib.hid k3
      obtain ⟨_, _, _, z0, z1, z2, _⟩ := k3.cells
      have fz := k3.frees 2
      dsimp only at z2
      clear x0 x1 x2 y2 n3 k3 f3
      go_wp2_with fail
      go_returns
      have := K3.out.mark rfl true
      have e : (tf, nf) = (⟨s2, l, false⟩, 190) := by simpa using HT.out
      rw [show nf = (tf, nf).2 from rfl, e]
      exact ⟨rfl, this.join N3'.out F3.out⟩
  · go_wp2_with fail
    go_returns
    have := K2.out.mark rfl false
    have e : (tf, nf) = (⟨s1, l, false⟩, 5) := by simpa using HT.out
    rw [show nf = (tf, nf).2 from rfl, e]
    exact ⟨rfl, this.join N2'.out F2.out⟩
  · go_wp2_with fail
    go_returns
    have := K2.out.mark rfl true
    have e : (tf, nf) = (⟨s1, l, false⟩, 190) := by simpa using HT.out
    rw [show nf = (tf, nf).2 from rfl, e]
    exact ⟨rfl, this.join N2'.out F2.out⟩
/-- Add, at any record. -/
theorem refTapeAdd_any {rv : Value} {r : List UInt8} (h : Rk w base N mb rb t) (hR : Rd w K rv (bts r)) (hK : ∀ b, K b → ¬ N b) :
    Calls Try.prog 21 #[.pointer (some ⟨rb, 0, none⟩), rv] w fun e w' => e = .returned (.int .i64 (addT t r).2) ∧ RkTo w base N mb rb (addT t r).1 w' := by
  unfold addT
  cases hl : t.lost with
  | true => exact (refTapeAdd_lost h hl).mono fun e w' ⟨he, hw⟩ => ⟨he, by subst hw; exact RkTo.refl h⟩
  | false =>
    rw [if_neg (by decide)]
    by_cases hn : 8000 < r.length
    · rw [if_pos hn]
      obtain ⟨A, c, rfl, _⟩ := rd_form hR
      exact (refTapeAdd_long h hl hn).mono fun e w' ⟨he, hw⟩ => ⟨he, by subst hw; exact RkTo.refl h⟩
    · rw [if_neg hn, notT_snd]
      exact refTapeAdd_ok h hl hR hK (by omega)
end
end

end Go.Proofs.Ytgohnidndjbjiaa
