/-
  Layer 19: Add, Len, Records.
-/
import Derived.Test.YtgohnidndjbjiaaTapeB
import Derived.Defers
namespace Go.Proofs.Ytgohnidndjbjiaa
open Go Go.RowKit Go.Lib
set_option linter.unusedVariables false

section
variable {w w' : World} {base sb tb : Nat} {M N R K Kb : Nat → Prop} {l : List (List UInt8)} {lost : Bool} {t t' : TS} {s' : St}
/-- Behind the function's body: the notice, and what is handed back. -/
theorem leave_any {W : World} (h : Tk W base N sb tb t) (p q : Nat) (r : Int) (hp : W.cell? ⟨p, 0, none⟩ = some (.pointer (some ⟨tb, 0, none⟩))) (hq : W.cell? ⟨q, 0, none⟩ = some (.int .i64 r)) (hqN : ¬ N q) (tmps : Array Value) (ht : tmps[4]?.getD undef = .pointer (some ⟨q, 0, none⟩))
    {R : Ending → World → Prop} (hR : ∀ w', TkTo W base N sb tb (notT (t, r)).1 w' → R (.returned (.int .i64 r)) w') :
    Leaves Try.prog Try.f20 tmps R [{ target := .fn (.func 36) #[.pointer (some ⟨p, 0, none⟩), .pointer (some ⟨q, 0, none⟩)], args := #[] }] .returning W := by
  refine leaves_cons (f := 36) (args := #[.pointer (some ⟨p, 0, none⟩), .pointer (some ⟨q, 0, none⟩)]) (by simp) (by simp [go_sem]) ?_
  refine (late_any h p q r hp hq).mono ?_
  rintro e u' w1 ⟨rfl, rfl, h1⟩
  have HD : w1.cell? ⟨q, 0, none⟩ = some (.int .i64 r) := by
    obtain ⟨N', _, _, f⟩ := h1
    exact cell_fr hq f hqN
  refine ⟨.int .i64 r, ?_, hR w1 h1⟩
  simp [results, Try.results20, go_sem, ht, HD]
theorem tapeAdd_nil (w : World) (v : Value) : Calls Try.prog 20 #[.pointer none, v] w fun e w' => e = .returned (.int .i64 1) ∧ Below w.heap.size w w' := by
  have hmf : ∀ (fn : Fn) (first cap : Array Value) (w : World), (Instr.makeFunc fn first cap).run Try.prog w = .ok (.func fn first cap) w := fun _ _ _ _ => rfl
  go_enter_defers Try.func20, Try.ntmps20
  go_wp2_with fail
  refine ⟨.int .i64 1, by simp [results, Try.results20, go_sem], rfl, ?_⟩
  exact ((Below.refl _ w).alloc (Nat.le_refl _) _).alloc (by simp) _
theorem Tk.mem (h : Tk w base N sb tb t) : N tb := by obtain ⟨_, _, _, h2, _, h4, _⟩ := h; exact (h4 tb).2 (.inr h2.mem)
theorem notT_lost (h : Tk w base N sb tb t) (hl : t.lost = true) : (notT (t, 190)).1 = t := by
  obtain ⟨_, _, _, h2, _⟩ := h
  have := h2.own hl
  obtain ⟨s, l, lost⟩ := t
  dsimp only at *
  subst hl this
  rfl
/-- The two cells that Add makes. -/
theorem two_new (w : World) (u v : Value) (t1 t2 : TypeId) : Below w.heap.size w ((w.alloc (.cells #[u] t1)).alloc (.cells #[v] t2)) ∧ ((w.alloc (.cells #[u] t1)).alloc (.cells #[v] t2)).cell? ⟨w.heap.size, 0, none⟩ = some u ∧ ((w.alloc (.cells #[u] t1)).alloc (.cells #[v] t2)).cell? ⟨w.heap.size + 1, 0, none⟩ = some v := by
  refine ⟨((Below.refl _ w).alloc (Nat.le_refl _) _).alloc (by simp) _, ?_, ?_⟩
  · have := ((Blk.new w #[u] t1).old (.cells #[v] t2)).cell 0; exact this
  · have := (Blk.fresh (w.alloc (.cells #[u] t1)) #[v] t2 (w.heap.size + 1) (by simp)).cell 0; exact this
theorem tapeAdd_lost {rv : Value} (h : Tk w base N sb tb t) (hl : t.lost = true) :
    Calls Try.prog 20 #[.pointer (some ⟨tb, 0, none⟩), rv] w fun e w' => e = .returned (.int .i64 190) ∧ TkTo w base N sb tb t w' := by
  have hmf : ∀ (fn : Fn) (first cap : Array Value) (w : World), (Instr.makeFunc fn first cap).run Try.prog w = .ok (.func fn first cap) w := fun _ _ _ _ => rfl
  obtain ⟨_, _, c0, c1, c2, _⟩ := h.cells
  rw [hl] at c2
  have hlt := (h.lt tb h.mem).2
  have H := Lib.hid h
  have HL := Lib.hid hl
  clear h hl
  go_enter_defers Try.func20, Try.ntmps20
  go_wp2_with fail
  obtain ⟨b2, p2, q2⟩ := two_new w (.pointer (some ⟨tb, 0, none⟩)) (.int .i64 190) 31 28
  refine leave_any (H.out.kept b2) w.heap.size (w.heap.size + 1) 190 p2 q2 (fun h => by have := (H.out.lt _ h).2; omega) _ rfl fun w' h' => ⟨rfl, ?_⟩
  rw [notT_lost H.out HL.out] at h'
  exact h'.join (fun _ _ => Iff.rfl) (fr_of_below b2 fun b h1 h2 => by omega)
theorem tapeAdd_long {A : Option Addr} {n c : Nat} (h : Tk w base N sb tb t) (hl : t.lost = false) (hn : 8000 < n) :
    Calls Try.prog 20 #[.pointer (some ⟨tb, 0, none⟩), .slice A n c] w fun e w' => e = .returned (.int .i64 3) ∧ TkTo w base N sb tb t w' := by
  have hmf : ∀ (fn : Fn) (first cap : Array Value) (w : World), (Instr.makeFunc fn first cap).run Try.prog w = .ok (.func fn first cap) w := fun _ _ _ _ => rfl
  obtain ⟨_, _, c0, c1, c2, _⟩ := h.cells
  rw [hl] at c2
  have hlt := (h.lt tb h.mem).2
  have H := Lib.hid h
  have HP : Hid (∀ w, Calls Try.prog 38 #[.slice A n c] w fun e w' => e = .returned (.tuple #[.slice none 0 0, .int .i64 3]) ∧ w' = w) := fun w => put_long w hn
  clear h hl hn
  go_enter_defers Try.func20, Try.ntmps20
  go_wp2_with fail
  refine (HP.out _).mono ?_; rintro e w1 ⟨rfl, rfl⟩
  go_wp2_with fail
  obtain ⟨b2, p2, q2⟩ := two_new w (.pointer (some ⟨tb, 0, none⟩)) (.int .i64 3) 31 28
  refine leave_any (H.out.kept b2) w.heap.size (w.heap.size + 1) 3 p2 q2 (fun h => by have := (H.out.lt _ h).2; omega) _ rfl fun w' h' => ⟨rfl, ?_⟩
  exact h'.join (fun _ _ => Iff.rfl) (fr_of_below b2 fun b h1 h2 => by omega)
theorem TkTo.cellOf {a : Addr} {v : Value} (h : TkTo w base N sb tb t w') (c : w.cell? a = some v) (hn : ¬ N a.block) : w'.cell? a = some v := by
  obtain ⟨_, _, _, f⟩ := h
  exact cell_fr c f hn
theorem Fr.none_of {w w' : World} (h : Below w.heap.size w w') {N : Nat → Prop} : Fr N w w' := fr_of_below h fun b h1 h2 => by omega
theorem tapeAdd_ok {rv : Value} {r : List UInt8} (h : Tk w base N sb tb t) (hl : t.lost = false) (hR : Rd w K rv (bts r)) (hK : ∀ b, K b → ¬ N b) (hn : r.length ≤ 8000) :
    Calls Try.prog 20 #[.pointer (some ⟨tb, 0, none⟩), rv] w fun e w' => e = .returned (.int .i64 (appT t r).2) ∧ TkTo w base N sb tb (notT (appT t r)).1 w' := by
  have hmf : ∀ (fn : Fn) (first cap : Array Value) (w : World), (Instr.makeFunc fn first cap).run Try.prog w = .ok (.func fn first cap) w := fun _ _ _ _ => rfl
  obtain ⟨t1, e1, ha⟩ : ∃ t1 e1, appT t r = (t1, e1) := ⟨_, _, rfl⟩
  rw [ha]
  obtain ⟨_, _, c0, c1, c2, _⟩ := h.cells
  rw [hl] at c2
  have hlt := (h.lt tb h.mem).2
  have H := Lib.hid h
  have HL := Lib.hid hl
  have HA := Lib.hid ha
  have HR := Lib.hid hR
  obtain ⟨Ar, cr, rfl, _⟩ := rd_form hR
  clear h hl ha hR
  go_enter_defers Try.func20, Try.ntmps20
  go_wp2_with fail
  obtain ⟨w0, hw0⟩ : ∃ w0, w0 = (w.alloc (.cells #[.pointer (some ⟨tb, 0, none⟩)] 31)).alloc (.cells #[.int .i64 0] 28) := ⟨_, rfl⟩
  rw [← hw0]
  have P0 : Hid (Blk w0 w.heap.size #[.pointer (some ⟨tb, 0, none⟩)] 31) := by rw [hw0]; exact (Blk.new w _ _).old _
  have Q0 : Hid (Blk w0 (w.heap.size + 1) #[.int .i64 0] 28) := by rw [hw0]; exact Blk.fresh _ _ _ _ (by simp)
  have B0 : Hid (Below w.heap.size w w0) := by rw [hw0]; exact ((Below.refl _ w).alloc (Nat.le_refl _) _).alloc (by simp) _
  have S0 : Hid (w0.heap.size = w.heap.size + 2) := by rw [hw0]; simp [Hid]
  clear hw0 c0 c1 c2
  refine (put_ok (HR.out.kept B0.out) hn).mono ?_; rintro e w1 ⟨v1, rfl, ho1, hb1⟩
  have O1 := Lib.hid ho1
  have B1 := Lib.hid hb1
  obtain ⟨A1, d1, rfl⟩ := owned_slice ho1
  have p1 := (P0.out.kept hb1).cell 0
  have q1 := (Q0.out.kept hb1).cell 0
  have fq := (Q0.out.kept hb1).free 0
  simp at p1 q1
  have hz1 : w.heap.size + 2 ≤ w1.heap.size := by have := hb1.size; rw [S0.out] at this; exact this
  clear ho1 hb1
  go_wp2_with fail
  obtain ⟨w2, hw2⟩ : ∃ w2, w2 = w1.setCell ⟨w.heap.size + 1, 0, none⟩ (.int .i64 0) := ⟨_, rfl⟩
  rw [← hw2]
  have F2 : Hid (Fr (fun b => b = w.heap.size + 1) w1 w2) := by rw [hw2]; exact Fr.one _ _ _ _
  have Q2 : Hid (Blk w2 (w.heap.size + 1) #[.int .i64 0] 28) := by rw [hw2]; exact Blk.set (Q0.out.kept B1.out) 0 _
  have P2 : Hid (Blk w2 w.heap.size #[.pointer (some ⟨tb, 0, none⟩)] 31) := (P0.out.kept B1.out).fr F2.out (by omega)
  have HR2 : Hid (Rd w2 (fun b => K b ∧ b < w.heap.size) (.slice Ar r.length cr) (bts r)) :=
    (((HR.out.mono fun b hb hk => ⟨hk, hb⟩ : Rd w (fun b => K b ∧ b < w.heap.size) _ _).kept B0.out).kept B1.out).fr F2.out fun b hb _ => by omega
  have HC2 : Hid (Rd w2 (fun b => w.heap.size + 2 ≤ b) (.slice A1 (putB r).length d1) (bts (putB r))) := by
    have e : r.length + 7 = (bts (putB r)).length := by rw [bts_len, putB_len]
    have := O1.out
    rw [e] at this
    have h2 := (Rd.of_owns this (K := fun b => w.heap.size + 2 ≤ b) fun g hg => by have := owns_base O1.out (g := g) (by rw [← hg]; rw [e]); rw [S0.out] at this; exact this).fr F2.out fun b hb _ => by omega
    rw [bts_len] at h2; exact h2
  have K2 : Hid (Tk w2 base N sb tb t) := ((H.out.kept B0.out).kept B1.out).fr F2.out fun b hb e => by have := (H.out.lt b hb).2; omega
  have AP : Hid (Calls Try.prog 39 #[.pointer (some ⟨tb, 0, none⟩), .slice Ar r.length cr, .slice A1 (putB r).length d1] w2 fun e w' => e = .returned (.int .i64 e1) ∧ TkTo w2 base N sb tb t1 w') := by
    have := append_any K2.out HL.out HR2.out (fun b hb => hK b hb.1) HC2.out (fun b hb hN => by have := (H.out.lt b hN).2; omega) hn
    rw [HA.out] at this; exact this
  have hlen : Hid ((putB r).length = r.length + 7) := putB_len r
  rw [hlen.out] at AP
  have p2 := P2.out.cell 0
  have q2 := Q2.out.cell 0
  simp at p2 q2
  have qz : w.heap.size + 1 < w2.heap.size := Q2.out.lt
  clear p1 q1 fq hw2
  go_wp2_with fail
  refine AP.out.mono ?_; rintro e w3 ⟨rfl, N3, n3, k3, f3⟩
  have hNq : ¬ N (w.heap.size + 1) := fun h => by have := (H.out.lt _ h).2; omega
  have hNp : ¬ N w.heap.size := fun h => by have := (H.out.lt _ h).2; omega
  have P3 : Hid (Blk w3 w.heap.size #[.pointer (some ⟨tb, 0, none⟩)] 31) := P2.out.fr f3 hNp
  have Q3 : Hid (Blk w3 (w.heap.size + 1) #[.int .i64 0] 28) := Q2.out.fr f3 hNq
  have N3q : Hid (¬ N3 (w.heap.size + 1) ∧ ¬ N3 w.heap.size) := ⟨fun h => hNq ((n3 _ qz).1 h), fun h => hNp ((n3 _ (by omega)).1 h)⟩
  have NN := Lib.hid n3
  have K3 := Lib.hid k3
  have F3 := Lib.hid f3
  have q3 := Q3.out.cell 0
  have fq3 := Q3.out.free 0
  simp at q3
  clear n3 k3 f3 p2 q2 hNq hNp
  go_wp2_with fail
  have F4 : Fr (fun b => b = w.heap.size + 1) w3 (w3.setCell ⟨w.heap.size + 1, 0, none⟩ (.int .i64 e1)) := Fr.one _ _ _ _
  have P4 := (P3.out.fr F4 (by omega)).cell 0
  have Q4 := (Blk.set Q3.out 0 (.int .i64 e1)).cell 0
  refine leave_any (K3.out.fr F4 fun b hb e => N3q.out.1 (e ▸ hb)) w.heap.size (w.heap.size + 1) e1 P4 Q4 N3q.out.1 _ rfl fun w' h' => ⟨rfl, ?_⟩
  have F24 : Fr N w (w3.setCell ⟨w.heap.size + 1, 0, none⟩ (.int .i64 e1)) := by
    have g1 : Fr N w w1 := (Fr.none_of B0.out).trans (Fr.none_of B1.out (N := fun _ => False)) fun _ _ h => h.elim
    have g2 := g1.trans F2.out fun b hb e => by omega
    have g3 := g2.trans F3.out fun b hb h => h
    exact g3.trans F4 fun b hb e => by omega
  exact h'.join (fun b hb => NN.out b (by omega)) F24
/-- Add, at any record. -/
theorem tapeAdd_any {rv : Value} {r : List UInt8} (h : Tk w base N sb tb t) (hR : Rd w K rv (bts r)) (hK : ∀ b, K b → ¬ N b) :
    Calls Try.prog 20 #[.pointer (some ⟨tb, 0, none⟩), rv] w fun e w' => e = .returned (.int .i64 (addT t r).2) ∧ TkTo w base N sb tb (addT t r).1 w' := by
  unfold addT
  cases hl : t.lost with
  | true => exact tapeAdd_lost h hl
  | false =>
    rw [if_neg (by decide)]
    by_cases hn : 8000 < r.length
    · rw [if_pos hn]
      obtain ⟨A, c, rfl, _⟩ := rd_form hR
      exact tapeAdd_long h hl hn
    · rw [if_neg hn, notT_snd]
      exact tapeAdd_ok h hl hR hK (by omega)
end
end Go.Proofs.Ytgohnidndjbjiaa
