/-
  Layer 19: Pack.
-/
import Derived.Test.YtgohnidndjbjiaaTapeJ
namespace Go.Proofs.Ytgohnidndjbjiaa
open Go Go.RowKit Go.Lib
set_option linter.unusedVariables false

/-- A row of texts, all of it in blocks of K. -/
def RdK (w : World) (K : Nat → Prop) (v : Value) (xs : List (List UInt8)) : Prop :=
  ∃ vs : List Value, vs.length = xs.length ∧ Rd w K v vs ∧ ∀ (i : Nat) (u : Value) (x : List UInt8), vs[i]? = some u → xs[i]? = some x → Rd w K u (bts x)
section
variable {w w' : World} {base sb tb : Nat} {M N R K Kb : Nat → Prop} {l : List (List UInt8)} {lost : Bool} {t t' : TS} {s s' : St}
theorem RdK.fr {v : Value} {xs : List (List UInt8)} (h : RdK w K v xs) (f : Fr N w w') (hk : ∀ b, K b → b < w.heap.size → ¬ N b) : RdK w' K v xs := by
  obtain ⟨vs, h1, h2, h3⟩ := h
  exact ⟨vs, h1, h2.fr f hk, fun i u x hu hx => (h3 i u x hu hx).fr f hk⟩
theorem RdK.kept {v : Value} {xs : List (List UInt8)} (h : RdK w K v xs) (f : Below w.heap.size w w') : RdK w' K v xs :=
  h.fr (N := fun _ => False) (fr_of_below f fun b h1 h2 => by omega) fun _ _ _ h => h
theorem RdK.form {v : Value} {xs : List (List UInt8)} (h : RdK w K v xs) : ∃ A c, v = .slice A xs.length c ∧ xs.length ≤ c ∧ c ≤ maxLen := by
  obtain ⟨vs, h1, ⟨A, c, h2, h3, h4, _⟩, _⟩ := h
  rw [h1] at h2 h3
  exact ⟨A, c, h2, h3, h4⟩
theorem RdK.at_ {A : Option Addr} {n c : Nat} {xs : List (List UInt8)} (h : RdK w K (.slice A n c) xs) {k : Nat} (hk : k < xs.length) : ∃ b off u, A = some ⟨b, off, none⟩ ∧ K b ∧ b < w.heap.size ∧ w.cell? ⟨b, off + k, none⟩ = some u ∧ Rd w K u (bts (xs[k]'hk)) := by
  obtain ⟨vs, h1, ⟨A', c', h2, h3, h4, h5⟩, h6⟩ := h
  injection h2 with h2 _ _
  subst h2
  obtain ⟨b, off, rfl, hb, hb2, hc⟩ := h5 (by omega)
  have hv : vs[k]? = some (vs[k]'(by omega)) := List.getElem?_eq_getElem _
  exact ⟨b, off, _, rfl, hb, hb2, hc k _ hv, h6 k _ _ hv (List.getElem?_eq_getElem _)⟩
theorem RdK.of_row {v : Value} {l : List (List UInt8)} (h : RowOf w 1 (fun cs (xs : List UInt8) => ∃ v, cs = [v] ∧ Rd w (· < w.heap.size) v (bts xs)) v l) : RdK w (· < w.heap.size) v l := by
  obtain ⟨A, c, rfl, h1, h2, h3⟩ := h
  rcases Nat.eq_zero_or_pos l.length with h0 | h0
  · obtain rfl : l = [] := List.eq_nil_of_length_eq_zero h0
    exact ⟨[], rfl, ⟨A, c, rfl, h1, h2, fun h => absurd h (by simp)⟩, fun i u x hu => by simp at hu⟩
  · obtain ⟨b, off, rfl, hb, hi⟩ := h3 h0
    obtain ⟨vs, hl, hv⟩ := list_of (α := Value) (p := fun i u => ∃ x, l[i]? = some x ∧ Rd w (· < w.heap.size) u (bts x) ∧ w.cell? ⟨b, off + i, none⟩ = some u) l.length fun i hil => by
      obtain ⟨cs, ⟨u, rfl, hR⟩, _, hc⟩ := hi i (l[i]'hil) (List.getElem?_eq_getElem hil)
      have := hc 0 (by decide)
      rw [Nat.mul_one, Nat.add_zero] at this
      exact ⟨u, _, List.getElem?_eq_getElem hil, hR, this⟩
    refine ⟨vs, hl, ⟨_, c, by rw [hl], by rw [hl]; exact h1, h2, fun _ => ⟨b, off, rfl, hb, hb, fun j u hj => ?_⟩⟩, fun i u x hu hx => ?_⟩
    · obtain ⟨_, _, _, h⟩ := hv j u hj; exact h
    · obtain ⟨x', hx', hR, _⟩ := hv i u hu
      rw [hx] at hx'
      obtain rfl : x = x' := by injection hx'
      exact hR
theorem lateP_any (h : Tk w base N sb tb t) (p q : Nat) (r : Int) (hp : w.cell? ⟨p, 0, none⟩ = some (.pointer (some ⟨tb, 0, none⟩))) (hq : w.cell? ⟨q, 0, none⟩ = some (.int .i64 r)) :
    CallsD Try.prog 51 #[.pointer (some ⟨p, 0, none⟩), .pointer (some ⟨q, 0, none⟩)] .returning w fun e u' w' => u' = .returning ∧ e = .returned (.tuple #[]) ∧ TkTo w base N sb tb (notT (t, r)).1 w' := by
  have HN := Lib.hid (notice_any h r)
  clear h
  go_enter_d Try.func51, Try.ntmps51
  go_wp2_with fail
  refine HN.out.mono ?_; rintro e w1 ⟨rfl, h1⟩
  have H1 := Lib.hid h1
  clear h1
  go_wp2_with fail
  go_returns
  exact ⟨rfl, H1.out⟩
theorem leaveP_any {W : World} (h : Tk W base N sb tb t) (p q : Nat) (r : Int) (hp : W.cell? ⟨p, 0, none⟩ = some (.pointer (some ⟨tb, 0, none⟩))) (hq : W.cell? ⟨q, 0, none⟩ = some (.int .i64 r)) (hqN : ¬ N q) (tmps : Array Value) (ht : tmps[4]?.getD undef = .pointer (some ⟨q, 0, none⟩))
    {R : Ending → World → Prop} (hR : ∀ w', TkTo W base N sb tb (notT (t, r)).1 w' → R (.returned (.int .i64 r)) w') :
    Leaves Try.prog Try.f27 tmps R [{ target := .fn (.func 51) #[.pointer (some ⟨p, 0, none⟩), .pointer (some ⟨q, 0, none⟩)], args := #[] }] .returning W := by
  refine leaves_cons (f := 51) (args := #[.pointer (some ⟨p, 0, none⟩), .pointer (some ⟨q, 0, none⟩)]) (by simp) (by simp [go_sem]) ?_
  refine (lateP_any h p q r hp hq).mono ?_
  rintro e u' w1 ⟨rfl, rfl, h1⟩
  have HD : w1.cell? ⟨q, 0, none⟩ = some (.int .i64 r) := by
    obtain ⟨N', _, _, f⟩ := h1
    exact cell_fr hq f hqN
  refine ⟨.int .i64 r, ?_, hR w1 h1⟩
  simp [results, Try.results27, go_sem, ht, HD]
/-- The two cells of the frame, and the tape, as Pack goes on: N the tape's blocks at the begin. -/
structure PkAt (w : World) (base : Nat) (N : Nat → Prop) (sb tb : Nat) (r : Int) (N' : Nat → Prop) (t : TS) (W : World) : Prop where
  p : Blk W w.heap.size #[.pointer (some ⟨tb, 0, none⟩)] 31
  q : Blk W (w.heap.size + 1) #[.int .i64 r] 28
  k : Tk W base N' sb tb t
  n : ∀ b, b < w.heap.size + 2 → (N' b ↔ N b)
  nlt : ∀ b, N b → b < w.heap.size
  f : Fr (fun b => N b ∨ w.heap.size ≤ b) w W
theorem PkAt.step {r : Int} {N' : Nat → Prop} {W W' : World} (h : PkAt w base N sb tb r N' t W) (k : TkTo W base N' sb tb t' W') : ∃ N2, PkAt w base N sb tb r N2 t' W' ∧ Fr N' W W' ∧ ∀ b, b < W.heap.size → (N2 b ↔ N' b) := by
  obtain ⟨N2, e1, e2, e3⟩ := k
  have hq := h.q.lt
  have hp : ¬ N' w.heap.size := fun h' => by have := h.nlt _ ((h.n _ (by omega)).1 h'); omega
  have hq' : ¬ N' (w.heap.size + 1) := fun h' => by have := h.nlt _ ((h.n _ (by omega)).1 h'); omega
  refine ⟨N2, ⟨h.p.fr e3 hp, h.q.fr e3 hq', e2, fun b hb => (e1 b (by omega)).trans (h.n b hb), h.nlt, h.f.trans e3 fun b hb h' => .inl ((h.n b (by omega)).1 h')⟩, e3, e1⟩
theorem PkAt.kept {r : Int} {N' : Nat → Prop} {W W' : World} (h : PkAt w base N sb tb r N' t W) (f : Below W.heap.size W W') : PkAt w base N sb tb r N' t W' :=
  ⟨h.p.kept f, h.q.kept f, h.k.kept f, h.n, h.nlt, h.f.trans (M := fun _ => False) (fr_of_below f fun b h1 h2 => by omega) fun _ _ h => h.elim⟩
theorem PkAt.other {r : Int} {N' : Nat → Prop} {W W' : World} (h : PkAt w base N sb tb r N' t W) (f : Fr K W W') (hk : ∀ b, K b → ¬ N' b ∧ w.heap.size + 2 ≤ b) : PkAt w base N sb tb r N' t W' :=
  ⟨h.p.fr f fun e => by have := (hk _ e).2; omega, h.q.fr f fun e => by have := (hk _ e).2; omega, h.k.fr f fun b hb e => (hk b e).1 hb, h.n, h.nlt, h.f.trans f fun b hb e => by have := (hk b e).2; omega⟩
theorem PkAt.put {r : Int} {N' : Nat → Prop} {W : World} (h : PkAt w base N sb tb r N' t W) (r' : Int) : PkAt w base N sb tb r' N' t (W.setCell ⟨w.heap.size + 1, 0, none⟩ (.int .i64 r')) := by
  have F : Fr (fun b => b = w.heap.size + 1) W (W.setCell ⟨w.heap.size + 1, 0, none⟩ (.int .i64 r')) := Fr.one _ _ _ _
  have hq' : ∀ b, N' b → b ≠ w.heap.size + 1 := fun b h' e => by subst e; have := h.nlt _ ((h.n _ (by omega)).1 h'); omega
  exact ⟨h.p.fr F (by omega), Blk.set h.q 0 _, h.k.fr F hq', h.n, h.nlt, h.f.trans F fun b hb e => .inr (by omega)⟩
/-- What Pack hands back. -/
theorem PkAt.leave {r : Int} {N' : Nat → Prop} {W : World} (h : PkAt w base N sb tb r N' t W) (hw : ∀ b, N b → base ≤ b) (tmps : Array Value) (ht : tmps[4]?.getD undef = .pointer (some ⟨w.heap.size + 1, 0, none⟩))
    {R : Ending → World → Prop} (hR : ∀ w', TkTo w base N sb tb (notT (t, r)).1 w' → R (.returned (.int .i64 r)) w') :
    Leaves Try.prog Try.f27 tmps R [{ target := .fn (.func 51) #[.pointer (some ⟨w.heap.size, 0, none⟩), .pointer (some ⟨w.heap.size + 1, 0, none⟩)], args := #[] }] .returning W := by
  have hp := h.p.cell 0
  have hq := h.q.cell 0
  refine leaveP_any h.k w.heap.size (w.heap.size + 1) r hp hq (fun h' => by have := h.nlt _ ((h.n _ (by omega)).1 h'); omega) tmps ht fun w' h' => hR w' ?_
  exact h'.join (fun b hb => h.n b (by omega)) (h.f.mono fun b hb e => by rcases e with e | e; exact e; omega)
/-- The spool is cut, and the row goes. -/
theorem PkAt.cut {r : Int} {N' : Nat → Prop} {W : World} {s1 : St} (h : PkAt w base N sb tb r N' t W) (hl : t.lost = false) (hcu : cutS t.s 0 = (s1, 0)) :
    Calls Try.prog 50 #[.pointer (some ⟨sb, 0, none⟩), .int .i64 0] W fun e w2 => e = .returned (.int .i64 0) ∧ (∃ rv, w2.cell? ⟨tb, 1, none⟩ = some rv) ∧ w2.frozen? ⟨tb, 1, none⟩ = false ∧ w2.cell? ⟨w.heap.size, 0, none⟩ = some (.pointer (some ⟨tb, 0, none⟩)) ∧
      ∃ N2, PkAt w base N sb tb r N2 ⟨s1, [], false⟩ (w2.setCell ⟨tb, 1, none⟩ (.slice none 0 0)) ∧ Fr N' W (w2.setCell ⟨tb, 1, none⟩ (.slice none 0 0)) ∧ ∀ b, b < W.heap.size → (N2 b ↔ N' b) := by
  obtain ⟨M, R, h1, h2, h3, h4, _⟩ := h.k
  refine (cut_at hcu h1).mono fun e w2 ⟨he, M', m1, m2, m3⟩ => ?_
  have hR2 : Tp w2 base R sb tb t.l t.lost := h2.fr m3 fun b hb hm => h3 b hm hb
  have hq := h.q.lt
  have hp' : ¬ N' w.heap.size := fun h' => by have := h.nlt _ ((h.n _ (by omega)).1 h'); omega
  have hq' : ¬ N' (w.heap.size + 1) := fun h' => by have := h.nlt _ ((h.n _ (by omega)).1 h'); omega
  have hp2 : Blk w2 w.heap.size #[.pointer (some ⟨tb, 0, none⟩)] 31 := h.p.fr m3 fun e => hp' ((h4 _).2 (.inl e))
  have hR3 := hR2
  obtain ⟨a1, a2, _, _, rv, vs, a4, a5, a6, a7, a8⟩ := hR3
  have F := Fr.one w2 tb 1 (.slice none 0 0)
  have hK : TkTo w2 base (fun b => M' b ∨ R b) sb tb ⟨s1, [], false⟩ (w2.setCell ⟨tb, 1, none⟩ (.slice none 0 0)) :=
    TkTo.of m2 hR2 (fun b hm hr => h3 b ((m1 b (h2.lt b hr).2).1 hm) hr) (fun b => Iff.rfl) (Nat.zero_le _)
      ⟨hR2.to (l' := []) (lost' := false) (rv := .slice none 0 0) (vs := []) (fun h => by cases h) (fun x hx => by simp at hx) (by rw [hl] at a4; exact Blk.set a4 1 (.slice none 0 0)) (World.ownsRow_nil _ _ _ _) (Bods.nil _ _) (fun g hg => by cases hg) (fun i v g hv => by simp at hv) F.size, F.mono fun b _ e => e ▸ a2⟩
  obtain ⟨N3, k1, k2, k3⟩ := hK
  have hiff : ∀ b, b < W.heap.size → (N3 b ↔ N' b) := fun b hb => by
    rw [k1 b (Nat.lt_of_lt_of_le hb m3.size), h4 b]
    show M' b ∨ R b ↔ M b ∨ R b
    rw [m1 b hb]
  have FF : Fr N' W (w2.setCell ⟨tb, 1, none⟩ (.slice none 0 0)) := (m3.mono fun b _ hb => (h4 b).2 (.inl hb)).trans F fun b _ e => (h4 b).2 (.inr (e ▸ a2))
  refine ⟨he, ⟨rv, a4.cell 1⟩, a4.free 1, hp2.cell 0, N3, ⟨h.p.fr FF hp', h.q.fr FF hq', k2, fun b hb => (hiff b (by omega)).trans (h.n b hb), h.nlt, h.f.trans FF fun b hb h' => .inl ((h.n b (by omega)).1 h')⟩, FF, hiff⟩
theorem appT_lost (t : TS) (r : List UInt8) : (appT t r).1.lost = false := by
  unfold appT; split <;> (try split) <;> rfl
theorem cut_no {s s1 : St} {n e1 : Int} (h : cutS s n = (s1, e1)) (h1 : e1 ≠ 0) : s1.xs = s.xs := by
  unfold cutS at h
  split at h
  · injection h with h _; rw [← h]
  · split at h
    · injection h with h _; rw [← h]
    · split at h
      · injection h with h _; rw [← h]
      · injection h with _ h; exact absurd h.symm h1
theorem packLp_cons (t : TS) (r : List UInt8) (l : List (List UInt8)) : packLp t (r :: l) = if (appT t r).2 = 0 then packLp (appT t r).1 l else appT t r := rfl
theorem cut0_err {s s1 : St} {e1 : Int} (h : cutS s 0 = (s1, e1)) : e1 = 0 ∨ e1 = 190 := by
  unfold cutS at h
  split at h
  · injection h with _ h; exact .inr h.symm
  · split at h
    · rename_i h2; omega
    · split at h
      · injection h with _ h; exact .inr h.symm
      · injection h with _ h; exact .inl h.symm
theorem longL_take {l : List (List UInt8)} {i : Nat} (h : i < l.length) (hx : 8000 < (l[i]).length) : longL l = true := by
  unfold longL
  rw [List.any_eq_true]
  exact ⟨l[i], List.getElem_mem h, by simpa using hx⟩
theorem longL_no {l : List (List UInt8)} (h : ∀ x ∈ l, x.length ≤ 8000) : longL l = false := by
  unfold longL
  rw [List.any_eq_false]
  intro x hx
  have := h x hx
  simp; omega
end
/-- The crates, one by one. -/
def CrLp (w w0 : World) (l : List (List UInt8)) (cv iv : Value) (wr : World) : Prop :=
  ∃ (i : Nat) (vs : List Value), i ≤ l.length ∧ iv = .int .i64 i ∧ (∀ x ∈ l.take i, x.length ≤ 8000) ∧ wr.ownsRow w0.heap.size 37 1 cv vs.length vs ∧ Bods wr w0.heap.size vs ((l.take i).map putB) ∧ Below w0.heap.size w0 wr
/-- The records, one by one. -/
def PcLp (w : World) (base : Nat) (N NL : Nat → Prop) (sb tb : Nat) (wL : World) (t1 : TS) (l : List (List UInt8)) (iv : Value) (wr : World) : Prop :=
  ∃ (i : Nat) (ti : TS) (Ni : Nat → Prop), i ≤ l.length ∧ iv = .int .i64 i ∧ ti.lost = false ∧ PkAt w base N sb tb 0 Ni ti wr ∧ (∀ b, b < wL.heap.size → (Ni b ↔ NL b)) ∧ Fr NL wL wr ∧ packLp t1 l = packLp ti (l.drop i)
section
variable {w w' : World} {base sb tb : Nat} {M N R K Kb : Nat → Prop} {l : List (List UInt8)} {lost : Bool} {t t' : TS} {s s' : St}
theorem tapePack_lost {rv : Value} (h : Tk w base N sb tb t) (hl : t.lost = true) :
    Calls Try.prog 27 #[.pointer (some ⟨tb, 0, none⟩), rv] w fun e w' => e = .returned (.int .i64 190) ∧ TkTo w base N sb tb t w' := by
  have hmf : ∀ (fn : Fn) (first cap : Array Value) (w : World), (Instr.makeFunc fn first cap).run Try.prog w = .ok (.func fn first cap) w := fun _ _ _ _ => rfl
  obtain ⟨_, _, c0, c1, c2, _⟩ := h.cells
  rw [hl] at c2
  have hlt := (h.lt tb h.mem).2
  have H := Lib.hid h
  have HL := Lib.hid hl
  clear h hl
  go_enter_defers Try.func27, Try.ntmps27
  go_wp2_with fail
  obtain ⟨b2, p2, q2⟩ := two_new w (.pointer (some ⟨tb, 0, none⟩)) (.int .i64 190) 31 28
  refine leaveP_any (H.out.kept b2) w.heap.size (w.heap.size + 1) 190 p2 q2 (fun h => by have := (H.out.lt _ h).2; omega) _ rfl fun w' h' => ⟨rfl, ?_⟩
  rw [notT_lost H.out HL.out] at h'
  exact h'.join (fun _ _ => Iff.rfl) (fr_of_below b2 fun b h1 h2 => by omega)
set_option maxRecDepth 100000 in
set_option maxHeartbeats 1000000 in
theorem tapePack_go {rv : Value} (h : Tk w base N sb tb t) (hl : t.lost = false) (hR : RdK w K rv l) (hK : ∀ b, K b → ¬ N b) (hKw : ∀ b, K b → b < w.heap.size) (hn : l.length ≤ 1048576) :
    Calls Try.prog 27 #[.pointer (some ⟨tb, 0, none⟩), rv] w fun e w' => e = .returned (.int .i64 (packT t l).2) ∧ TkTo w base N sb tb (packT t l).1 w' := by
  obtain ⟨i0, hi, hz0, hz1, hz2⟩ := info_parts Try.infoL
  have hmf : ∀ (fn : Fn) (first cap : Array Value) (w : World), (Instr.makeFunc fn first cap).run Try.prog w = .ok (.func fn first cap) w := fun _ _ _ _ => rfl
  obtain ⟨tf, nf, hT⟩ : ∃ tf nf, packT t l = (tf, nf) := ⟨_, _, rfl⟩
  rw [hT]
  have HTF := Lib.hid hT
  obtain ⟨_, _, c0, c1, c2, _⟩ := h.cells
  rw [hl] at c2
  have hlt := (h.lt tb h.mem).2
  have H := Lib.hid h
  have HLo := Lib.hid hl
  have HR := Lib.hid hR
  obtain ⟨A, c, rfl, hc1, hc2⟩ := hR.form
  unfold maxLen at hc2
  clear h hl hR hT
  go_enter_defers Try.func27, Try.ntmps27
  go_wp2_with fail
  obtain ⟨w0, hw0⟩ : ∃ w0, w0 = (w.alloc (.cells #[.pointer (some ⟨tb, 0, none⟩)] 31)).alloc (.cells #[.int .i64 0] 28) := ⟨_, rfl⟩
  rw [← hw0]
  have P0 : Hid (PkAt w base N sb tb 0 N t w0) := by
    have B0 : Below w.heap.size w w0 := by rw [hw0]; exact ((Below.refl _ w).alloc (Nat.le_refl _) _).alloc (by simp) _
    exact ⟨by rw [hw0]; exact (Blk.new w _ _).old _, by rw [hw0]; exact Blk.fresh _ _ _ _ (by simp), H.out.kept B0, fun _ _ => Iff.rfl, fun b hb => (H.out.lt b hb).2, Fr.none_of B0⟩
  have R0 : Hid (RdK w0 K (.slice A l.length c) l) := HR.out.kept (by rw [hw0]; exact ((Below.refl _ w).alloc (Nat.le_refl _) _).alloc (by simp) _)
  have hz0w : w.heap.size + 2 ≤ w0.heap.size := by have := P0.out.q.lt; omega
  have hz0e : Hid (w.heap.size + 1 + 1 = w0.heap.size) := by rw [hw0]; simp [Hid]
  clear hw0 c0 c1 c2
  go_loopw [5, 24] (CrLp w w0 l) (fun _ i _ => l.length + 1 - (RowKit.intOf i).toNat)
  case atStart =>
    refine ⟨0, [], Nat.zero_le _, rfl, fun x hx => by simp at hx, ?_, Bods.nil _ _, (Below.refl _ w0).alloc (Nat.le_refl _) _⟩
    rw [hz0e.out]
    exact World.ownsRow_made w0 #[] 0 (Nat.le_refl _) (Nat.zero_le _) (by simp)
  case round =>
    obtain ⟨i, vs, hil, rfl, hsh, ho, hb, hB⟩ := hrel
    obtain ⟨V, hV⟩ : ∃ V, V = vs.length := ⟨_, rfl⟩
    rw [← hV] at ho
    have HV := Lib.hid hV
    have HO := Lib.hid ho
    have HBD := Lib.hid hb
    have HB := Lib.hid hB
    have HSH := Lib.hid hsh
    have hVk : V ≤ i := by rw [hV, hb.len, List.length_map, List.length_take]; omega
    obtain ⟨A1, c1', rfl⟩ := owned_slice ho
    have P1 := Lib.hid (P0.out.kept hB)
    have R1 := Lib.hid (R0.out.kept hB)
    have y1 := P1.out.q.cell 0
    have fy := P1.out.q.free 0
    have yp := P1.out.p.cell 0
    simp at y1 yp
    clear ho hb hB hV hsh
    by_cases hlt : i < l.length
    · have t1 : decide (i < l.length) = true := decide_eq_true hlt
      have t1' : (i : Int) < l.length := by omega
      obtain ⟨b, off, u, rfl, _, _, cu, hu⟩ := R1.out.at_ hlt
      by_cases h8 : 8000 < (l[i]).length
      · have HTL : Hid (longL l = true) := longL_take hlt h8
        obtain ⟨B, d, rfl, _⟩ := rd_form hu
        have HP : Hid (∀ w, Calls Try.prog 38 #[.slice B (l[i]).length d] w fun e w' => e = .returned (.tuple #[.slice none 0 0, .int .i64 3]) ∧ w' = w) := fun w => put_long w h8
        generalize l[i] = x at *
        clear hu h8
        go_wp2_with fail
        refine (HP.out _).mono ?_; rintro e w2 ⟨rfl, rfl⟩
        go_wp2_with fail
        have e : (tf, nf) = (t, 3) := by
          rw [← HTF.out]; unfold packT; rw [HLo.out, HTL.out]; rfl
        rw [show nf = (tf, nf).2 from rfl, show tf = (tf, nf).1 from rfl, e]
        refine (P1.out.put 3).leave (fun b hb => (H.out.lt b hb).1) _ rfl fun w' h' => ⟨rfl, h'⟩
      · have hx8 : (l[i]).length ≤ 8000 := by omega
        have HSH2 : Hid (∀ x ∈ l.take (i + 1), x.length ≤ 8000) := fun x hx => by
          rw [List.take_succ_eq_append_getElem hlt] at hx
          rcases List.mem_append.1 hx with h | h
          · exact HSH.out x h
          · rw [List.mem_singleton.1 h]; exact hx8
        have HTk : Hid ((l.take (i + 1)).map putB = (l.take i).map putB ++ [putB l[i]]) := by unfold Hid; rw [List.take_succ_eq_append_getElem hlt, List.map_append]; rfl
        have PU := Lib.hid (put_ok hu hx8)
        generalize l[i] = x at *
        clear hu h8
        go_wp2_with fail
        refine PU.out.mono ?_; rintro e w2 ⟨v2, rfl, ho2, hb2⟩
        obtain ⟨N2, hN2⟩ : ∃ N2, N2 = x.length + 7 := ⟨_, rfl⟩
        rw [← hN2] at ho2
        have HO2 := Lib.hid ho2
        have HB2 := Lib.hid hb2
        have HN2 : Hid (N2 = (putB x).length) := by rw [putB_len]; exact hN2
        obtain ⟨A2, d2, rfl⟩ := owned_slice ho2
        clear ho2 hb2 hN2 PU
        go_wp2_with (at_builtin; refine wpList_append_own _ rfl _ _ 38 rfl w0.heap.size 37 i0 _ 1 24 Try.underlying38 hi hz0 hz1 hz2 rfl (by decide) _ V vs rfl ?q6 ⟨w2.heap.size, 0, none⟩ 1 1 [.slice A2 N2 d2] rfl rfl ?q1 ?q0 ?q2 ?q3 ?q4 ?_)
        case q6 => exact owns_alloc (owns_next HO.out HB2.out) _
        case q1 => exact news_alloc w2 [.slice A2 N2 d2] 37
        case q0 => exact one_slice _ _ _
        case q2 => unfold maxLen; omega
        case q3 => omega
        case q4 => have h1 := HB2.out.size; have h2 := HB.out.size; simp; omega
        intro v3 w3 ho3 hg3 hl3
        have HO3 := Lib.hid ho3
        have HG3 := Lib.hid hg3
        clear ho3 hg3 hl3
        have F3 : Hid (Fr (fun b => (Value.slice A1 V c1').ownBlock = some b) w2 w3) := ((Fr.refl _ w2).alloc _).grown HG3.out fun b h => .inl h
        have LV : Hid ((vs ++ [Value.slice A2 N2 d2]).length = V + 1) := by unfold Hid; rw [HV.out]; simp
        have BD3 : Hid (Bods w3 w0.heap.size (vs ++ [.slice A2 N2 d2]) ((l.take i).map putB ++ [putB x])) := by
          have h1 := (HBD.out.kept HB2.out).push (by rw [← HN2.out]; exact HO2.out) HB.out.size fun i u g hu hg => HBD.out.lt hu hg
          refine h1.fr F3.out fun i u g hu hg hh => ?_
          obtain ⟨x, _, ho⟩ := h1.at_ hu
          exact head_ne (owns_next HO.out HB2.out) ho g hh hg
        have B3 : Hid (Below w0.heap.size w0 w3) := HB.out.trans ((HB2.out.mono HB.out.size).trans (F3.out.below (Nat.le_trans HB.out.size HB2.out.size) fun b hb => owns_base HO.out hb))
        go_wp2_with fail
        go_roundw
        case rel => exact ⟨i + 1, vs ++ [.slice A2 N2 d2], hlt, by go_num, HSH2.out, by rw [LV.out]; exact HO3.out, by rw [HTk.out]; exact BD3.out, B3.out⟩
        case measure => simp [RowKit.intOf]; omega
    · have t1 : decide (i < l.length) = false := decide_eq_false hlt
      have HLL : Hid (longL l = false) := by
        have e : l.take i = l := List.take_of_length_le (by omega)
        have := HSH.out; rw [e] at this; exact longL_no this
      have BDl : Hid (Bods wr w0.heap.size vs (l.map putB)) := by
        have e : l.take i = l := List.take_of_length_le (by omega)
        have := HBD.out; rw [e] at this; exact this
      have hVl : V = l.length := by rw [HV.out, BDl.out.len, List.length_map]
      rw [hVl] at HO
      have hnl : Hid (t.l.length ≤ t.s.xs.length) := H.out.few.1
      obtain ⟨s1, e1, hcu⟩ : ∃ s1 e1, cutS t.s 0 = (s1, e1) := ⟨_, _, rfl⟩
      have HCU := Lib.hid hcu
      obtain ⟨_, _, z0, z1, z2, _⟩ := P1.out.k.cells
      subst hVl
      have HSHL : Hid (∀ x ∈ l, x.length ≤ 8000) := by
        have e : l.take i = l := List.take_of_length_le (by omega)
        have := HSH.out; rw [e] at this; exact this
      clear hlt hVk
      by_cases h1 : e1 = 0
      · subst h1
        have CU := Lib.hid (P1.out.cut HLo.out hcu)
        have PT : Hid ((tf, nf) = notT (packLp ⟨s1, [], false⟩ l)) := by
          unfold Hid; rw [← HTF.out]; unfold packT; rw [HLo.out, HLL.out, hcu, if_neg (by decide), if_neg (by decide), if_pos rfl]
        clear hcu
        go_wp2_with fail
        refine CU.out.mono ?_; rintro e w2 ⟨rfl, ⟨rv, cr⟩, fr, cp, NL, hpl, hfl, hnl2⟩
        clear y1 fy yp z0 z1 z2
        go_wp2_with fail
        obtain ⟨wL, hwL⟩ : ∃ wL, wL = w2.setCell ⟨tb, 1, none⟩ (.slice none 0 0) := ⟨_, rfl⟩
        rw [← hwL] at hpl hfl ⊢
        have PL := Lib.hid hpl
        have FL := Lib.hid hfl
        have NLI := Lib.hid hnl2
        have hbz := HB.out.size
        have NLC : Hid (∀ b, w0.heap.size ≤ b → b < wr.heap.size → ¬ NL b) := fun b h1 h2 h => by have := P1.out.nlt b ((hnl2 b h2).1 h); omega
        have NLK : Hid (∀ b, K b → ¬ NL b) := fun b hb h => hK b hb ((hnl2 b (by have := hKw b hb; omega)).1 h)
        have RL : Hid (RdK wL K (.slice A l.length c) l) := R1.out.fr hfl fun b hb _ => hK b hb
        have CLr : Hid (RdK wL (fun b => w0.heap.size ≤ b ∧ b < wr.heap.size) (.slice A1 l.length c1') (l.map putB)) := by
          have hvl : vs.length = l.length := by rw [BDl.out.len, List.length_map]
          refine ⟨vs, by rw [hvl, List.length_map], ?_, fun i u x hu hx => ?_⟩
          · have h1 : wr.ownsRow w0.heap.size 37 1 (.slice A1 l.length c1') vs.length vs := by rw [hvl]; exact HO.out
            exact (Rd.of_owns h1 fun g hg => ⟨owns_base h1 hg, owns_lt h1 hg⟩).fr hfl fun b hb _ hN => by have := P1.out.nlt b hN; omega
          · have h1 := BDl.out.own i u x hu hx
            exact (Rd.of_owns (by rw [bts_len]; exact h1) fun g hg => ⟨owns_base h1 hg, owns_lt h1 hg⟩ : Rd wr _ u (bts x)).fr hfl fun b hb _ hN => by have := P1.out.nlt b hN; omega
        have hwr : Hid (wr.heap.size ≤ wL.heap.size) := hfl.size
        clear cr fr cp hwL hpl hfl hnl2 CU
        obtain ⟨w9, hw9⟩ : ∃ w9, w9 = wr := ⟨_, rfl⟩
        subst hw9
        go_loopw [54] (PcLp w base N NL sb tb wL ⟨s1, [], false⟩ l) (fun i _ => l.length + 1 - (RowKit.intOf i).toNat)
        case atStart => exact ⟨0, _, NL, Nat.zero_le _, rfl, rfl, PL.out, fun _ _ => Iff.rfl, Fr.refl _ _, rfl⟩
        case round =>
          obtain ⟨j, ti, Ni, hjl, rfl, htl, hpk, hni, hfi, hpe⟩ := hrel
          have PK := Lib.hid hpk
          have NI := Lib.hid hni
          have FI := Lib.hid hfi
          have PE := Lib.hid hpe
          have TL := Lib.hid htl
          have yq := hpk.q.cell 0
          have fyq := hpk.q.free 0
          have yp := hpk.p.cell 0
          simp at yq yp
          clear htl hpk hni hfi hpe
          by_cases hlt : j < l.length
          · have t1 : decide (j < l.length) = true := decide_eq_true hlt
            have t1' : (j : Int) < l.length := by omega
            have hx8 := HSHL.out _ (List.getElem_mem hlt)
            obtain ⟨b1, o1, u1, e1', _, hb1, cu1, hu1⟩ := (CLr.out.fr FI.out fun b hb _ h => NLC.out b hb.1 hb.2 h).at_ (k := j) (by rw [List.length_map]; exact hlt)
            obtain ⟨b2, o2, u2, e2', hk2, hb2, cu2, hu2⟩ := (RL.out.fr FI.out fun b hb _ h => NLK.out b hb h).at_ hlt
            rw [List.getElem_map] at hu1
            have hdr : l.drop j = l[j] :: l.drop (j + 1) := List.drop_eq_getElem_cons hlt
            generalize l[j] = x at *
            obtain ⟨tn, en, hap⟩ : ∃ tn en, appT ti x = (tn, en) := ⟨_, _, rfl⟩
            have HAP := Lib.hid hap
            have TN : Hid (tn.lost = false) := by have := appT_lost ti x; rw [hap] at this; exact this
            have PN : Hid (packLp ⟨s1, [], false⟩ l = if en = 0 then packLp tn (l.drop (j + 1)) else (tn, en)) := by
              unfold Hid; rw [PE.out, hdr, packLp_cons, hap]
            obtain ⟨B1, d1, rfl, _⟩ := rd_form hu1
            obtain ⟨B2, d2, rfl, _⟩ := rd_form hu2
            have PKd : Hid (PkAt w base N sb tb 0 Ni ti wr.drew) := PK.out.kept (Below.refl _ _).drew
            have AP : Hid (Calls Try.prog 39 #[.pointer (some ⟨tb, 0, none⟩), .slice B2 x.length d2, .slice B1 (putB x).length d1] wr.drew fun e w' => e = .returned (.int .i64 en) ∧ TkTo wr.drew base Ni sb tb tn w') := by
              have := append_any PKd.out.k TL.out (hu2.kept (Below.refl _ _).drew) (fun b hb h => NLK.out b hb ((NI.out b (by have := hKw b hb; have := hwr.out; omega)).1 h)) (hu1.kept (Below.refl _ _).drew) (fun b hb h => NLC.out b hb.1 hb.2 ((NI.out b (by have := hwr.out; omega)).1 h)) hx8
              rw [hap] at this; exact this
            have HD : Hid (Fr NL wL wr.drew) := FI.out.drew
            subst e1' e2'
            clear hu1 hu2 hdr hap hx8 hb1 hb2 hk2
            go_wp2_with fail
            go_still_tail 6, (by kernel_rfl)
            change wpList _ _ _ _ _ wr.drew
            generalize wr.drew = W at *
            clear PK FI yq fyq yp cu1 cu2
            go_wp2_with fail
            refine AP.out.mono ?_; rintro e w5 ⟨rfl, h5⟩
            obtain ⟨N5, hp5, f5, n5⟩ := PKd.out.step h5
            have P5 := Lib.hid hp5
            have F5 : Hid (Fr NL wL w5) := HD.out.trans f5 fun b hb h => (NI.out b hb).1 h
            have NI5 : Hid (∀ b, b < wL.heap.size → (N5 b ↔ NL b)) := fun b hb => (n5 b (Nat.lt_of_lt_of_le hb HD.out.size)).trans (NI.out b hb)
            have yq := hp5.q.cell 0
            have fyq := hp5.q.free 0
            simp at yq
            clear h5 hp5 f5 n5 AP PKd HD
            by_cases he0 : en = 0
            · subst he0
              go_wp2_with fail
              go_roundw
              case rel => exact ⟨j + 1, tn, N5, hlt, by go_num, TN.out, P5.out, NI5.out, F5.out, by have := PN.out; rw [if_pos trivial] at this; exact this⟩
              case measure => simp [RowKit.intOf]; omega
            · have t2 : (en != 0) = true := bne_iff_ne.2 he0
              have e : (tf, nf) = notT (tn, en) := by
                rw [PT.out, PN.out, if_neg he0]
              clear he0
              go_wp2_with fail
              rw [show nf = (tf, nf).2 from rfl, show tf = (tf, nf).1 from rfl, e, notT_snd]
              refine (P5.out.put en).leave (fun b hb => (H.out.lt b hb).1) _ rfl fun w' h' => ⟨rfl, h'⟩
          · have t1 : decide (j < l.length) = false := decide_eq_false hlt
            have e : (tf, nf) = notT (ti, 0) := by
              rw [PT.out, PE.out, List.drop_of_length_le (by omega)]; rfl
            go_wp2_with fail
            rw [show nf = (tf, nf).2 from rfl, show tf = (tf, nf).1 from rfl, e, notT_snd]
            refine (PK.out.put 0).leave (fun b hb => (H.out.lt b hb).1) _ rfl fun w' h' => ⟨rfl, h'⟩
      · have t2 : (e1 != 0) = true := bne_iff_ne.2 h1
        have HE1 := Lib.hid h1
        have CU : Hid (Calls Try.prog 50 #[.pointer (some ⟨sb, 0, none⟩), .int .i64 0] wr fun e w' => e = .returned (.int .i64 e1) ∧ TkTo wr base N sb tb ⟨s1, t.l, t.lost⟩ w') :=
          P1.out.k.spool (by rw [cut_no hcu h1]; exact hnl.out) fun M hM hN => cut_at hcu hM
        clear h1 hcu
        go_wp2_with fail
        refine CU.out.mono ?_; rintro e w2 ⟨rfl, h2⟩
        obtain ⟨N2, P2, f2, _⟩ := P1.out.step h2
        have HP2 := Lib.hid P2
        have q2 := P2.q.cell 0
        have fq2 := P2.q.free 0
        simp at q2
        clear h2 f2 P2 y1 fy yp z0 z1 z2
        go_wp2_with fail
        have e : (tf, nf) = notT (⟨s1, t.l, false⟩, e1) := by
          rw [← HTF.out]; unfold packT; rw [HLo.out, HLL.out, HCU.out, if_neg (by decide), if_neg (by decide), if_neg HE1.out]
        rw [show nf = (tf, nf).2 from rfl, show tf = (tf, nf).1 from rfl, e, notT_snd]
        have HP2' := HP2.out.put e1
        rw [HLo.out] at HP2'
        refine HP2'.leave (fun b hb => (H.out.lt b hb).1) _ rfl fun w' h' => ⟨rfl, h'⟩
/-- Pack, at any records. -/
theorem tapePack_any {rv : Value} (h : Tk w base N sb tb t) (hR : RdK w K rv l) (hK : ∀ b, K b → ¬ N b) (hKw : ∀ b, K b → b < w.heap.size) (hn : l.length ≤ 1048576) :
    Calls Try.prog 27 #[.pointer (some ⟨tb, 0, none⟩), rv] w fun e w' => e = .returned (.int .i64 (packT t l).2) ∧ TkTo w base N sb tb (packT t l).1 w' := by
  cases hl : t.lost with
  | true =>
    have e : packT t l = (t, 190) := by unfold packT; rw [hl]; rfl
    rw [e]
    exact tapePack_lost h hl
  | false => exact tapePack_go h hl hR hK hKw hn
theorem Rk.cut {mb rb : Nat} {s1 : St} (h : Rk w base N mb rb t) (hl : t.lost = false) (hcu : cutS t.s 0 = (s1, 0)) :
    Calls Try.prog 53 #[.pointer (some ⟨mb, 0, none⟩), .int .i64 0] w fun e w2 => e = .returned (.int .i64 0) ∧ (∃ rv, w2.cell? ⟨rb, 1, none⟩ = some rv) ∧ w2.frozen? ⟨rb, 1, none⟩ = false ∧
      RkTo w base N mb rb ⟨s1, [], false⟩ (w2.setCell ⟨rb, 1, none⟩ (.slice none 0 0)) := by
  obtain ⟨M, R, ll, h1, h2, h3, h4, _⟩ := h
  refine (refCutS_at hcu h1).mono fun e w2 ⟨he, M', m1, m2, m3⟩ => ?_
  have hR2 : Rp w2 base R mb rb ll t.lost := h2.fr m3 fun b hb hm => h3 b hm hb
  have hR3 := hR2
  obtain ⟨a1, a2, rv, vs, a4, a5, a6, a7, a8⟩ := hR3
  have F := Fr.one w2 rb 1 (.slice none 0 0)
  have hK : RkTo w2 base (fun b => M' b ∨ R b) mb rb ⟨s1, [], false⟩ (w2.setCell ⟨rb, 1, none⟩ (.slice none 0 0)) :=
    RkTo.of (ll' := []) m2 hR2 (fun b hm hr => h3 b ((m1 b (h2.lt b hr).2).1 hm) hr) (fun b => Iff.rfl) (fun _ => ⟨rfl, Nat.zero_le _⟩) (fun h => by cases h)
      ⟨hR2.to (l' := []) (lost' := false) (rv := .slice none 0 0) (vs := []) (by rw [hl] at a4; exact Blk.set a4 1 (.slice none 0 0)) (World.ownsRow_nil _ _ _ _) (Bods.nil _ _) (fun g hg => by cases hg) (fun i v g hv => by simp at hv) F.size, F.mono fun b _ e => e ▸ a2⟩
  refine ⟨he, ⟨rv, a4.cell 1⟩, a4.free 1, hK.join (fun b hb => ?_) (m3.mono fun b _ hb => (h4 b).2 (.inl hb))⟩
  rw [h4 b]
  show M' b ∨ R b ↔ M b ∨ R b
  rw [m1 b hb]
/-- What the document's tape is, as its Pack goes on. -/
def RcLp (base : Nat) (N : Nat → Prop) (mb rb : Nat) (wL : World) (t1 : TS) (l : List (List UInt8)) (iv : Value) (wr : World) : Prop :=
  ∃ (i : Nat) (ti : TS), i ≤ l.length ∧ iv = .int .i64 i ∧ ti.lost = false ∧ RkTo wL base N mb rb ti wr ∧ notT (packLp t1 l) = notT (packLp ti (l.drop i))
theorem refPack_any {mb rb : Nat} {rv : Value} (h : Rk w base N mb rb t) (hR : RdK w K rv l) (hK : ∀ b, K b → ¬ N b) (hKw : ∀ b, K b → b < w.heap.size) (hn : l.length ≤ 1048576) :
    Calls Try.prog 34 #[.pointer (some ⟨rb, 0, none⟩), rv] w fun e w' => e = .returned (.int .i64 (packT t l).2) ∧ RkTo w base N mb rb (packT t l).1 w' := by
  obtain ⟨tf, nf, hT⟩ : ∃ tf nf, packT t l = (tf, nf) := ⟨_, _, rfl⟩
  rw [hT]
  have HTF := Lib.hid hT
  obtain ⟨_, _, _, c0, c1, c2, _⟩ := h.cells
  have H := Lib.hid h
  have HR := Lib.hid hR
  obtain ⟨A, c, rfl, hc1, hc2⟩ := hR.form
  unfold maxLen at hc2
  cases hl : t.lost with
  | true =>
    rw [hl] at c2
    have e : (tf, nf) = (t, 190) := by rw [← hT]; unfold packT; rw [hl]; rfl
    have HE := Lib.hid e
    clear h hl hR hT e
    go_enter Try.func34, Try.ntmps34
    go_wp2_with fail
    go_returns
    rw [show nf = (tf, nf).2 from rfl, show tf = (tf, nf).1 from rfl, HE.out]
    exact ⟨rfl, RkTo.refl H.out⟩
  | false =>
    rw [hl] at c2
    have HLo := Lib.hid hl
    clear h hl hR hT
    go_enter Try.func34, Try.ntmps34
    go_wp2_with fail
    go_loop [5] (fun i => ∃ j : Nat, j ≤ l.length ∧ i = .int .i64 j ∧ Hid (∀ x ∈ l.take j, x.length ≤ 8000)) (fun i => l.length - (RowKit.intOf i).toNat)
    case atStart => exact ⟨0, Nat.zero_le _, rfl, fun x hx => by simp at hx⟩
    case round =>
      obtain ⟨j, hj, rfl, hsh⟩ := hrel
      by_cases hlt : j < l.length
      · have t1 : decide (j < l.length) = true := decide_eq_true hlt
        have t1' : (j : Int) < l.length := by omega
        obtain ⟨b, off, u, rfl, _, _, cu, hu⟩ := HR.out.at_ hlt
        obtain ⟨B, d, rfl, _⟩ := rd_form hu
        obtain ⟨m, hm⟩ : ∃ m, m = (l[j]).length := ⟨_, rfl⟩
        rw [← hm] at cu
        clear hu
        by_cases h8 : 8000 < m
        · have t2 : decide ((m : Int) > 8000) = true := decide_eq_true (by omega)
          have e : (tf, nf) = (t, 3) := by
            rw [← HTF.out]; unfold packT; rw [HLo.out, longL_take hlt (by omega)]; rfl
          have HE := Lib.hid e
          clear e hm h8
          go_wp2_with fail
          go_returns
          rw [show nf = (tf, nf).2 from rfl, show tf = (tf, nf).1 from rfl, HE.out]
          exact ⟨rfl, RkTo.refl H.out⟩
        · have t2 : decide ((m : Int) > 8000) = false := decide_eq_false (by omega)
          have HSH2 : Hid (∀ x ∈ l.take (j + 1), x.length ≤ 8000) := fun x hx => by
            rw [List.take_succ_eq_append_getElem hlt] at hx
            rcases List.mem_append.1 hx with h | h
            · exact hsh.out x h
            · rw [List.mem_singleton.1 h]; omega
          clear hm
          go_wp2_with fail
          go_round
          case rel => exact ⟨j + 1, hlt, by go_num, HSH2⟩
          case measure => simp [RowKit.intOf]; omega
      · have t1 : decide (j < l.length) = false := decide_eq_false hlt
        have HSHL : Hid (∀ x ∈ l, x.length ≤ 8000) := by
          have e : l.take j = l := List.take_of_length_le (by omega)
          have := hsh.out; rw [e] at this; exact this
        have HLL : Hid (longL l = false) := longL_no HSHL.out
        obtain ⟨s1, e1, hcu⟩ : ∃ s1 e1, cutS t.s 0 = (s1, e1) := ⟨_, _, rfl⟩
        have HCU := Lib.hid hcu
        clear hlt
        by_cases h1 : e1 = 0
        · subst h1
          have CU := Lib.hid (H.out.cut HLo.out hcu)
          have PT : Hid ((tf, nf) = notT (packLp ⟨s1, [], false⟩ l)) := by
            unfold Hid; rw [← HTF.out]; unfold packT; rw [HLo.out, HLL.out, hcu, if_neg (by decide), if_neg (by decide), if_pos rfl]
          clear hcu
          go_wp2_with fail
          refine CU.out.mono ?_; rintro e w2 ⟨rfl, ⟨rv, cr⟩, fr, hk2⟩
          clear c0 c1 c2
          go_wp2_with fail
          obtain ⟨wL, hwL⟩ : ∃ wL, wL = w2.setCell ⟨rb, 1, none⟩ (.slice none 0 0) := ⟨_, rfl⟩
          rw [← hwL] at hk2 ⊢
          have K2 := Lib.hid hk2
          clear cr fr hwL hk2 CU
          go_loopw [7, 6] (fun i _ wr => RcLp base N mb rb w ⟨s1, [], false⟩ l i wr) (fun i _ _ => l.length - (RowKit.intOf i).toNat)
          case atStart => exact ⟨0, _, Nat.zero_le _, rfl, rfl, K2.out, rfl⟩
          case round =>
            obtain ⟨i, ti, hil, rfl, htl, hk, hpe⟩ := hrel
            obtain ⟨Ni, ni, ki, fi⟩ := hk
            have KI := Lib.hid ki
            have NI := Lib.hid ni
            have FI := Lib.hid fi
            have PE := Lib.hid hpe
            have TL := Lib.hid htl
            clear htl ki ni fi hpe
            by_cases hlt : i < l.length
            · have t1 : decide (i < l.length) = true := decide_eq_true hlt
              have t1' : (i : Int) < l.length := by omega
              have hx8 := HSHL.out _ (List.getElem_mem hlt)
              obtain ⟨b2, o2, u2, e2', hk2, hb2, cu2, hu2⟩ := (HR.out.fr FI.out fun b hb _ h => hK b hb h).at_ hlt
              have hdr : l.drop i = l[i] :: l.drop (i + 1) := List.drop_eq_getElem_cons hlt
              generalize l[i] = x at *
              obtain ⟨tn, en, hap⟩ : ∃ tn en, appT ti x = (tn, en) := ⟨_, _, rfl⟩
              have TN : Hid (tn.lost = false) := by have := appT_lost ti x; rw [hap] at this; exact this
              have hadd : addT ti x = notT (tn, en) := by unfold addT; rw [TL.out, if_neg (by decide), if_neg (by omega), hap]
              have PN : Hid (notT (packLp ⟨s1, [], false⟩ l) = if en = 0 then notT (packLp tn (l.drop (i + 1))) else notT (tn, en)) := by
                unfold Hid; rw [PE.out, hdr, packLp_cons, hap]; by_cases h : en = 0
                · rw [if_pos h, if_pos h]
                · rw [if_neg h, if_neg h]
              have AP : Hid (Calls Try.prog 21 #[.pointer (some ⟨rb, 0, none⟩), u2] wr fun e w' => e = .returned (.int .i64 en) ∧ RkTo wr base Ni mb rb (notT (tn, en)).1 w') := by
                have := refTapeAdd_any KI.out hu2 (fun b hb h => hK b hb ((NI.out b (hKw b hb)).1 h))
                rw [hadd, notT_snd] at this; exact this
              subst e2'
              clear hu2 hdr hap hx8 hb2 hk2 hadd
              go_wp2_with fail
              refine AP.out.mono ?_; rintro e w5 ⟨rfl, h5⟩
              have H5 : Hid (RkTo w base N mb rb (notT (tn, en)).1 w5) := h5.join NI.out FI.out
              clear h5 AP cu2
              by_cases he0 : en = 0
              · subst he0
                go_wp2_with fail
                go_roundw
                case rel => exact ⟨i + 1, tn, hlt, by go_num, TN.out, H5.out, by have := PN.out; rw [if_pos trivial] at this; exact this⟩
                case measure => simp [RowKit.intOf]; omega
              · have t2 : (en != 0) = true := bne_iff_ne.2 he0
                have e : (tf, nf) = notT (tn, en) := by
                  rw [PT.out, PN.out, if_neg he0]
                have HE := Lib.hid e
                clear he0 e
                go_wp2_with fail
                go_returns
                rw [show nf = (tf, nf).2 from rfl, show tf = (tf, nf).1 from rfl, HE.out, notT_snd]
                exact ⟨rfl, H5.out⟩
            · have t1 : decide (i < l.length) = false := decide_eq_false hlt
              have e : (tf, nf) = notT (ti, 0) := by
                rw [PT.out, PE.out, List.drop_of_length_le (by omega)]; rfl
              have HE := Lib.hid e
              clear e
              go_wp2_with fail
              go_returns
              rw [show nf = (tf, nf).2 from rfl, show tf = (tf, nf).1 from rfl, HE.out, notT_snd]
              exact ⟨rfl, Ni, NI.out, KI.out, FI.out⟩
        · have t2 : (e1 != 0) = true := bne_iff_ne.2 h1
          have CU : Hid (Calls Try.prog 53 #[.pointer (some ⟨mb, 0, none⟩), .int .i64 0] w fun e w' => e = .returned (.int .i64 e1) ∧ RkTo w base N mb rb ⟨s1, t.l, t.lost⟩ w') :=
            H.out.spool (by rw [cut_no hcu h1]; exact H.out.few.1) fun M hM hN => refCutS_at hcu hM
          have he : e1 = 190 := by rcases cut0_err hcu with h | h; exact absurd h h1; exact h
          have PT : Hid ((tf, nf) = (⟨s1, [], true⟩, 190)) := by
            unfold Hid; rw [← HTF.out]; unfold packT; rw [HLo.out, HLL.out, hcu, if_neg (by decide), if_neg (by decide), if_neg h1, he]; rfl
          subst he
          clear h1 hcu
          go_wp2_with fail
          refine CU.out.mono ?_; rintro e w2 ⟨rfl, N2, n2, k2, f2⟩
          rw [HLo.out] at k2
          have K2 := Lib.hid k2
          have NN := Lib.hid n2
          have F2 := Lib.hid f2
          obtain ⟨_, _, _, x0, x1, x2, _⟩ := k2.cells
          have fx := k2.frees 2
          dsimp only at x2
          clear k2 n2 f2
          go_wp2_with fail
          go_returns
          have := K2.out.mark rfl true
          rw [show nf = (tf, nf).2 from rfl, show tf = (tf, nf).1 from rfl, PT.out]
          exact ⟨rfl, this.join NN.out F2.out⟩
end
end Go.Proofs.Ytgohnidndjbjiaa
