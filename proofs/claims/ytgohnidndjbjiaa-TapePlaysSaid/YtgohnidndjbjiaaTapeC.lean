/-
  Layer 19: Add, Len, Records.
  Layer 19: Records, Len, Open.
  Layer 19: Open.
  gangerlaw19.known: what the chapter's example fixes holds.
  Layer 19: Pack.
-/
import Derived.Test.YtgohnidndjbjiaaTapeA
import Derived.Defers
import Derived.Test.YtgohnidndjbjiaaCrateP
import Derived.Lib.SlBytesConst
namespace Go.Proofs.Ytgohnidndjbjiaa
set_option linter.unusedVariables false

section
open Go Go.RowKit Go.Lib
section
variable {w w' : World} {base sb tb : Nat} {M N R K Kb : Nat → Prop} {l : List (List UInt8)} {lost : Bool} {t t' : TS} {s' : St}
/-- Behind the function's body: the notice, and what is handed back. -/
theorem leave_any {W : World} (h : Tk W base N sb tb t) (p q : Nat) (r : Int) (hp : W.cell? ⟨p, 0, none⟩ = some (.pointer (some ⟨tb, 0, none⟩))) (hq : W.cell? ⟨q, 0, none⟩ = some (.int .i64 r)) (hqN : ¬ N q) (tmps : Array Value) (ht : tmps[4]?.getD undef = .pointer (some ⟨q, 0, none⟩))
    {R : Ending → World → Prop} (hR : ∀ w', TkTo W base N sb tb (notT (t, r)).1 w' → R (.returned (.int .i64 r)) w') :
    Leaves Try.prog Try.f20 tmps R [{ target := .fn (.func 36) #[.pointer (some ⟨p, 0, none⟩), .pointer (some ⟨q, 0, none⟩)], args := #[] }] .returning W := by
  refine leaves_cons (f := 36) (args := #[.pointer (some ⟨p, 0, none⟩), .pointer (some ⟨q, 0, none⟩)]) (by simp) (by simp [go_sem]) ?_
  refine (late_any h p q r hp hq).mono ?_
  rintro e u' w1 ⟨rfl, rfl, h1⟩
  have HD : w1.cell? ⟨q, 0, none⟩ = some (.int .i64 r) := by
    obtain ⟨N', _, _, f⟩ := h1
    exact cell_fr hq f hqN
  refine ⟨.int .i64 r, ?_, hR w1 h1⟩
  simp [results, Try.results20, go_sem, ht, HD]
theorem tapeAdd_nil (w : World) (v : Value) : Calls Try.prog 20 #[.pointer none, v] w fun e w' => e = .returned (.int .i64 1) ∧ Below w.heap.size w w' := by
  have hmf : ∀ (fn : Fn) (first cap : Array Value) (w : World), (Instr.makeFunc fn first cap).run Try.prog w = .ok (.func fn first cap) w := fun _ _ _ _ => rfl
  go_enter_defers Try.func20, Try.ntmps20
  go_wp2_with fail
  refine ⟨.int .i64 1, by simp [results, Try.results20, go_sem], rfl, ?_⟩
  exact ((Below.refl _ w).alloc (Nat.le_refl _) _).alloc (by simp) _
theorem Tk.mem (h : Tk w base N sb tb t) : N tb := by obtain ⟨_, _, _, h2, _, h4, _⟩ := h; exact (h4 tb).2 (.inr h2.mem)
theorem notT_lost (h : Tk w base N sb tb t) (hl : t.lost = true) : (notT (t, 190)).1 = t := by
  obtain ⟨_, _, _, h2, _⟩ := h
  have := h2.own hl
  obtain ⟨s, l, lost⟩ := t
  dsimp only at *
  subst hl this
  rfl
/-- The two cells that Add makes. -/
theorem two_new (w : World) (u v : Value) (t1 t2 : TypeId) : Below w.heap.size w ((w.alloc (.cells #[u] t1)).alloc (.cells #[v] t2)) ∧ ((w.alloc (.cells #[u] t1)).alloc (.cells #[v] t2)).cell? ⟨w.heap.size, 0, none⟩ = some u ∧ ((w.alloc (.cells #[u] t1)).alloc (.cells #[v] t2)).cell? ⟨w.heap.size + 1, 0, none⟩ = some v := by
  refine ⟨((Below.refl _ w).alloc (Nat.le_refl _) _).alloc (by simp) _, ?_, ?_⟩
  · have := ((Blk.new w #[u] t1).old (.cells #[v] t2)).cell 0; exact this
  · have := (Blk.fresh (w.alloc (.cells #[u] t1)) #[v] t2 (w.heap.size + 1) (by simp)).cell 0; exact this
theorem tapeAdd_lost {rv : Value} (h : Tk w base N sb tb t) (hl : t.lost = true) :
    Calls Try.prog 20 #[.pointer (some ⟨tb, 0, none⟩), rv] w fun e w' => e = .returned (.int .i64 190) ∧ TkTo w base N sb tb t w' := by
  have hmf : ∀ (fn : Fn) (first cap : Array Value) (w : World), (Instr.makeFunc fn first cap).run Try.prog w = .ok (.func fn first cap) w := fun _ _ _ _ => rfl
  obtain ⟨_, _, c0, c1, c2, _⟩ := h.cells
  rw [hl] at c2
  have hlt := (h.lt tb h.mem).2
  have H := Lib.hid h
  have HL := Lib.hid hl
  clear h hl
  go_enter_defers Try.func20, Try.ntmps20
  go_wp2_with fail
  obtain ⟨b2, p2, q2⟩ := two_new w (.pointer (some ⟨tb, 0, none⟩)) (.int .i64 190) 31 28
  refine leave_any (H.out.kept b2) w.heap.size (w.heap.size + 1) 190 p2 q2 (fun h => by have := (H.out.lt _ h).2; omega) _ rfl fun w' h' => ⟨rfl, ?_⟩
  rw [notT_lost H.out HL.out] at h'
  exact h'.join (fun _ _ => Iff.rfl) (fr_of_below b2 fun b h1 h2 => by omega)
theorem tapeAdd_long {A : Option Addr} {n c : Nat} (h : Tk w base N sb tb t) (hl : t.lost = false) (hn : 8000 < n) :
    Calls Try.prog 20 #[.pointer (some ⟨tb, 0, none⟩), .slice A n c] w fun e w' => e = .returned (.int .i64 3) ∧ TkTo w base N sb tb t w' := by
  have hmf : ∀ (fn : Fn) (first cap : Array Value) (w : World), (Instr.makeFunc fn first cap).run Try.prog w = .ok (.func fn first cap) w := fun _ _ _ _ => rfl
  obtain ⟨_, _, c0, c1, c2, _⟩ := h.cells
  rw [hl] at c2
  have hlt := (h.lt tb h.mem).2
  have H := Lib.hid h
  have HP : Hid (∀ w, Calls Try.prog 38 #[.slice A n c] w fun e w' => e = .returned (.tuple #[.slice none 0 0, .int .i64 3]) ∧ w' = w) := fun w => put_long w hn
  clear h hl hn
  go_enter_defers Try.func20, Try.ntmps20
  go_wp2_with fail
  refine (HP.out _).mono ?_; rintro e w1 ⟨rfl, rfl⟩
  go_wp2_with fail
  obtain ⟨b2, p2, q2⟩ := two_new w (.pointer (some ⟨tb, 0, none⟩)) (.int .i64 3) 31 28
  refine leave_any (H.out.kept b2) w.heap.size (w.heap.size + 1) 3 p2 q2 (fun h => by have := (H.out.lt _ h).2; omega) _ rfl fun w' h' => ⟨rfl, ?_⟩
  exact h'.join (fun _ _ => Iff.rfl) (fr_of_below b2 fun b h1 h2 => by omega)
theorem TkTo.cellOf {a : Addr} {v : Value} (h : TkTo w base N sb tb t w') (c : w.cell? a = some v) (hn : ¬ N a.block) : w'.cell? a = some v := by
  obtain ⟨_, _, _, f⟩ := h
  exact cell_fr c f hn
theorem Fr.none_of {w w' : World} (h : Below w.heap.size w w') {N : Nat → Prop} : Fr N w w' := fr_of_below h fun b h1 h2 => by omega
theorem tapeAdd_ok {rv : Value} {r : List UInt8} (h : Tk w base N sb tb t) (hl : t.lost = false) (hR : Rd w K rv (bts r)) (hK : ∀ b, K b → ¬ N b) (hn : r.length ≤ 8000) :
    Calls Try.prog 20 #[.pointer (some ⟨tb, 0, none⟩), rv] w fun e w' => e = .returned (.int .i64 (appT t r).2) ∧ TkTo w base N sb tb (notT (appT t r)).1 w' := by
  have hmf : ∀ (fn : Fn) (first cap : Array Value) (w : World), (Instr.makeFunc fn first cap).run Try.prog w = .ok (.func fn first cap) w := fun _ _ _ _ => rfl
  obtain ⟨t1, e1, ha⟩ : ∃ t1 e1, appT t r = (t1, e1) := ⟨_, _, rfl⟩
  rw [ha]
  obtain ⟨_, _, c0, c1, c2, _⟩ := h.cells
  rw [hl] at c2
  have hlt := (h.lt tb h.mem).2
  have H := Lib.hid h
  have HL := Lib.hid hl
  have HA := Lib.hid ha
  have HR := Lib.hid hR
  obtain ⟨Ar, cr, rfl, _⟩ := rd_form hR
  clear h hl ha hR
  go_enter_defers Try.func20, Try.ntmps20
  go_wp2_with fail
  obtain ⟨w0, hw0⟩ : ∃ w0, w0 = (w.alloc (.cells #[.pointer (some ⟨tb, 0, none⟩)] 31)).alloc (.cells #[.int .i64 0] 28) := ⟨_, rfl⟩
  rw [← hw0]
  have P0 : Hid (Blk w0 w.heap.size #[.pointer (some ⟨tb, 0, none⟩)] 31) := by rw [hw0]; exact (Blk.new w _ _).old _
  have Q0 : Hid (Blk w0 (w.heap.size + 1) #[.int .i64 0] 28) := by rw [hw0]; exact Blk.fresh _ _ _ _ (by simp)
  have B0 : Hid (Below w.heap.size w w0) := by rw [hw0]; exact ((Below.refl _ w).alloc (Nat.le_refl _) _).alloc (by simp) _
  have S0 : Hid (w0.heap.size = w.heap.size + 2) := by rw [hw0]; simp [Hid]
  clear hw0 c0 c1 c2
  refine (put_ok (HR.out.kept B0.out) hn).mono ?_; rintro e w1 ⟨v1, rfl, ho1, hb1⟩
  have O1 := Lib.hid ho1
  have B1 := Lib.hid hb1
  obtain ⟨A1, d1, rfl⟩ := owned_slice ho1
  have p1 := (P0.out.kept hb1).cell 0
  have q1 := (Q0.out.kept hb1).cell 0
  have fq := (Q0.out.kept hb1).free 0
  simp at p1 q1
  have hz1 : w.heap.size + 2 ≤ w1.heap.size := by have := hb1.size; rw [S0.out] at this; exact this
  clear ho1 hb1
  go_wp2_with fail
  obtain ⟨w2, hw2⟩ : ∃ w2, w2 = w1.setCell ⟨w.heap.size + 1, 0, none⟩ (.int .i64 0) := ⟨_, rfl⟩
  rw [← hw2]
  have F2 : Hid (Fr (fun b => b = w.heap.size + 1) w1 w2) := by rw [hw2]; exact Fr.one _ _ _ _
  have Q2 : Hid (Blk w2 (w.heap.size + 1) #[.int .i64 0] 28) := by rw [hw2]; exact Blk.set (Q0.out.kept B1.out) 0 _
  have P2 : Hid (Blk w2 w.heap.size #[.pointer (some ⟨tb, 0, none⟩)] 31) := (P0.out.kept B1.out).fr F2.out (by omega)
  have HR2 : Hid (Rd w2 (fun b => K b ∧ b < w.heap.size) (.slice Ar r.length cr) (bts r)) :=
    (((HR.out.mono fun b hb hk => ⟨hk, hb⟩ : Rd w (fun b => K b ∧ b < w.heap.size) _ _).kept B0.out).kept B1.out).fr F2.out fun b hb _ => by omega
  have HC2 : Hid (Rd w2 (fun b => w.heap.size + 2 ≤ b) (.slice A1 (putB r).length d1) (bts (putB r))) := by
    have e : r.length + 7 = (bts (putB r)).length := by rw [bts_len, putB_len]
    have := O1.out
    rw [e] at this
    have h2 := (Rd.of_owns this (K := fun b => w.heap.size + 2 ≤ b) fun g hg => by have := owns_base O1.out (g := g) (by rw [← hg]; rw [e]); rw [S0.out] at this; exact this).fr F2.out fun b hb _ => by omega
    rw [bts_len] at h2; exact h2
  have K2 : Hid (Tk w2 base N sb tb t) := ((H.out.kept B0.out).kept B1.out).fr F2.out fun b hb e => by have := (H.out.lt b hb).2; omega
  have AP : Hid (Calls Try.prog 39 #[.pointer (some ⟨tb, 0, none⟩), .slice Ar r.length cr, .slice A1 (putB r).length d1] w2 fun e w' => e = .returned (.int .i64 e1) ∧ TkTo w2 base N sb tb t1 w') := by
    have := append_any K2.out HL.out HR2.out (fun b hb => hK b hb.1) HC2.out (fun b hb hN => by have := (H.out.lt b hN).2; omega) hn
    rw [HA.out] at this; exact this
  have hlen : Hid ((putB r).length = r.length + 7) := putB_len r
  rw [hlen.out] at AP
  have p2 := P2.out.cell 0
  have q2 := Q2.out.cell 0
  simp at p2 q2
  have qz : w.heap.size + 1 < w2.heap.size := Q2.out.lt
  clear p1 q1 fq hw2
  go_wp2_with fail
  refine AP.out.mono ?_; rintro e w3 ⟨rfl, N3, n3, k3, f3⟩
  have hNq : ¬ N (w.heap.size + 1) := fun h => by have := (H.out.lt _ h).2; omega
  have hNp : ¬ N w.heap.size := fun h => by have := (H.out.lt _ h).2; omega
  have P3 : Hid (Blk w3 w.heap.size #[.pointer (some ⟨tb, 0, none⟩)] 31) := P2.out.fr f3 hNp
  have Q3 : Hid (Blk w3 (w.heap.size + 1) #[.int .i64 0] 28) := Q2.out.fr f3 hNq
  have N3q : Hid (¬ N3 (w.heap.size + 1) ∧ ¬ N3 w.heap.size) := ⟨fun h => hNq ((n3 _ qz).1 h), fun h => hNp ((n3 _ (by omega)).1 h)⟩
  have NN := Lib.hid n3
  have K3 := Lib.hid k3
  have F3 := Lib.hid f3
  have q3 := Q3.out.cell 0
  have fq3 := Q3.out.free 0
  simp at q3
  clear n3 k3 f3 p2 q2 hNq hNp
  go_wp2_with fail
  have F4 : Fr (fun b => b = w.heap.size + 1) w3 (w3.setCell ⟨w.heap.size + 1, 0, none⟩ (.int .i64 e1)) := Fr.one _ _ _ _
  have P4 := (P3.out.fr F4 (by omega)).cell 0
  have Q4 := (Blk.set Q3.out 0 (.int .i64 e1)).cell 0
  refine leave_any (K3.out.fr F4 fun b hb e => N3q.out.1 (e ▸ hb)) w.heap.size (w.heap.size + 1) e1 P4 Q4 N3q.out.1 _ rfl fun w' h' => ⟨rfl, ?_⟩
  have F24 : Fr N w (w3.setCell ⟨w.heap.size + 1, 0, none⟩ (.int .i64 e1)) := by
    have g1 : Fr N w w1 := (Fr.none_of B0.out).trans (Fr.none_of B1.out (N := fun _ => False)) fun _ _ h => h.elim
    have g2 := g1.trans F2.out fun b hb e => by omega
    have g3 := g2.trans F3.out fun b hb h => h
    exact g3.trans F4 fun b hb e => by omega
  exact h'.join (fun b hb => NN.out b (by omega)) F24
/-- Add, at any record. -/
theorem tapeAdd_any {rv : Value} {r : List UInt8} (h : Tk w base N sb tb t) (hR : Rd w K rv (bts r)) (hK : ∀ b, K b → ¬ N b) :
    Calls Try.prog 20 #[.pointer (some ⟨tb, 0, none⟩), rv] w fun e w' => e = .returned (.int .i64 (addT t r).2) ∧ TkTo w base N sb tb (addT t r).1 w' := by
  unfold addT
  cases hl : t.lost with
  | true => exact tapeAdd_lost h hl
  | false =>
    rw [if_neg (by decide)]
    by_cases hn : 8000 < r.length
    · rw [if_pos hn]
      obtain ⟨A, c, rfl, _⟩ := rd_form hR
      exact tapeAdd_long h hl hn
    · rw [if_neg hn, notT_snd]
      exact tapeAdd_ok h hl hR hK (by omega)
end
end

section
open Go Go.RowKit Go.Lib
/-- Copies of some records, all new. -/
def RecTo (w : World) (l : List (List UInt8)) (e : Ending) (w' : World) : Prop :=
  ∃ bv vs, e = .returned bv ∧ w'.ownsRow w.heap.size 37 1 bv vs.length vs ∧ Bods w' w.heap.size vs l ∧ Below w.heap.size w w'
def RecLp (w : World) (l : List (List UInt8)) (bv i : Value) (wr : World) : Prop :=
  ∃ (vs : List Value) (k : Nat), i = .int .i64 k ∧ k ≤ l.length ∧ wr.ownsRow w.heap.size 37 1 bv vs.length vs ∧ Bods wr w.heap.size vs (l.take k) ∧ Below w.heap.size w wr
section
variable {w w' : World} {base sb tb : Nat} {M N R K Kb : Nat → Prop} {l : List (List UInt8)} {lost : Bool} {t t' : TS} {s' : St}
theorem records_nil (w : World) : Calls Try.prog 13 #[.pointer none] w fun e w' => e = .returned (.slice none 0 0) ∧ w' = w := by
  go_enter Try.func13, Try.ntmps13
  go_wp2_with fail
  go_returns
  exact ⟨rfl, rfl⟩
theorem tapeLen_nil (w : World) : Calls Try.prog 16 #[.pointer none] w fun e w' => e = .returned (.int .i64 0) ∧ w' = w := by
  go_enter Try.func16, Try.ntmps16
  go_wp2_with fail
  go_returns
  exact ⟨rfl, rfl⟩
theorem tapeLen_any (h : Tk w base N sb tb t) : Calls Try.prog 16 #[.pointer (some ⟨tb, 0, none⟩)] w fun e w' => e = .returned (.int .i64 t.l.length) ∧ w' = w := by
  obtain ⟨rv, vs, c0, c1, c2, ho, hb⟩ := h.cells
  have e := hb.len
  rw [e] at ho
  obtain ⟨A, c, rfl⟩ := owned_slice ho
  clear ho e hb h
  generalize t.l.length = n at *
  go_enter Try.func16, Try.ntmps16
  go_wp2_with fail
  go_returns
  exact ⟨rfl, rfl⟩
set_option maxRecDepth 100000 in
theorem records_any (h : Tk w base N sb tb t) : Calls Try.prog 13 #[.pointer (some ⟨tb, 0, none⟩)] w (RecTo w t.l) := by
  obtain ⟨i0, hi, hz0, hz1, hz2⟩ := info_parts Try.infoL
  have hfew := h.few.2
  have hsh := h.shrt
  have htb := (h.lt tb h.mem).2
  obtain ⟨rv, vs, c0, c1, c2, ho, hb⟩ := h.cells
  have HL : Hid (RdL w rv t.l) := RdL.of_bods ho hb
  have e := hb.len
  rw [e] at ho
  obtain ⟨A, c, rfl⟩ := owned_slice ho
  generalize t.l = l at *
  clear ho e hb h
  obtain ⟨n, hn⟩ : ∃ n, n = l.length := ⟨_, rfl⟩
  rw [← hn] at c1 hfew HL
  have HSH := Lib.hid hsh
  clear hsh
  have HN := Lib.hid hn
  clear hn
  go_enter Try.func13, Try.ntmps13
  go_wp2_with fail
  go_loopw [3, 14] (RecLp w l) (fun _ i _ => n + 1 - (RowKit.intOf i).toNat)
  case atStart =>
    exact ⟨[], 0, rfl, Nat.zero_le _, World.ownsRow_made w #[] 0 (Nat.le_refl _) (Nat.zero_le _) (by simp), Bods.nil _ _, (Below.refl _ w).alloc (Nat.le_refl _) _⟩
  case round =>
    obtain ⟨vs, k, rfl, hk, ho, hb, hB⟩ := hrel
    obtain ⟨V, hV⟩ : ∃ V, V = vs.length := ⟨_, rfl⟩
    rw [← hV] at ho
    have HV := Lib.hid hV
    have HO := Lib.hid ho
    have HBD := Lib.hid hb
    have HB := Lib.hid hB
    have hVk : V ≤ k := by rw [hV, hb.len, List.length_take]; omega
    obtain ⟨A1, c1', rfl⟩ := owned_slice ho
    rw [← HN.out] at hk
    clear ho hb hB hV
    by_cases hlt : k < n
    · have t1 : decide (k < n) = true := decide_eq_true hlt
      have t1' : (k : Int) < n := by omega
      have hkl : k < l.length := by rw [← HN.out]; exact hlt
      obtain ⟨b, off, u, rfl, cu, hu⟩ := (HL.out.kept HB.out).at_ hkl
      have HTk : Hid (l.take (k + 1) = l.take k ++ [l[k]]) := List.take_succ_eq_append_getElem hkl
      have hx8 := HSH.out _ (List.getElem_mem hkl)
      generalize l[k] = x at *
      have CL := Lib.hid (clone_any hu (by omega))
      clear hu
      go_wp2_with fail
      refine CL.out.mono ?_; rintro e w2 ⟨v2, rfl, ho2, hb2⟩
      obtain ⟨N2, hN2⟩ : ∃ N2, N2 = x.length := ⟨_, rfl⟩
      rw [← hN2] at ho2
      have HO2 := Lib.hid ho2
      have HB2 := Lib.hid hb2
      have HN2 := Lib.hid hN2
      obtain ⟨A2, d2, rfl⟩ := owned_slice ho2
      clear ho2 hb2 hN2 CL
      go_wp2_with (at_builtin; refine wpList_append_own _ rfl _ _ 38 rfl w.heap.size 37 i0 _ 1 24 Try.underlying38 hi hz0 hz1 hz2 rfl (by decide) _ V vs rfl ?q6 ⟨w2.heap.size, 0, none⟩ 1 1 [.slice A2 N2 d2] rfl rfl ?q1 ?q0 ?q2 ?q3 ?q4 ?_)
      case q6 => exact owns_alloc (owns_next HO.out HB2.out) _
      case q1 => exact news_alloc w2 [.slice A2 N2 d2] 37
      case q0 => exact one_slice _ _ _
      case q2 => unfold maxLen; omega
      case q3 => omega
      case q4 => have h1 := HB2.out.size; have h2 := HB.out.size; simp; omega
      intro v3 w3 ho3 hg3 hl3
      have HO3 := Lib.hid ho3
      have HG3 := Lib.hid hg3
      clear ho3 hg3 hl3
      have F3 : Hid (Fr (fun b => (Value.slice A1 V c1').ownBlock = some b) w2 w3) := ((Fr.refl _ w2).alloc _).grown HG3.out fun b h => .inl h
      have LV : Hid ((vs ++ [Value.slice A2 N2 d2]).length = V + 1) := by unfold Hid; rw [HV.out]; simp
      have BD3 : Hid (Bods w3 w.heap.size (vs ++ [.slice A2 N2 d2]) (l.take k ++ [x])) := by
        have h1 := (HBD.out.kept HB2.out).push (by rw [← HN2.out]; exact HO2.out) HB.out.size fun i u g hu hg => HBD.out.lt hu hg
        refine h1.fr F3.out fun i u g hu hg hh => ?_
        obtain ⟨x, _, ho⟩ := h1.at_ hu
        exact head_ne (owns_next HO.out HB2.out) ho g hh hg
      have B3 : Hid (Below w.heap.size w w3) := HB.out.trans ((HB2.out.mono HB.out.size).trans (F3.out.below (Nat.le_trans HB.out.size HB2.out.size) fun b hb => owns_base HO.out hb))
      go_wp2_with fail
      go_roundw
      case rel => exact ⟨vs ++ [.slice A2 N2 d2], k + 1, by go_num, hkl, by rw [LV.out]; exact HO3.out, by rw [HTk.out]; exact BD3.out, B3.out⟩
      case measure => simp [RowKit.intOf]; omega
    · have t1 : decide (k < n) = false := decide_eq_false hlt
      have e : l.take k = l := List.take_of_length_le (by rw [← HN.out]; omega)
      rw [e] at HBD
      clear e
      go_wp2_with fail
      go_returns
      exact ⟨_, vs, rfl, by rw [← HV.out]; exact HO.out, HBD.out, HB.out⟩
end
end

section
open Go Go.RowKit Go.Lib
theorem rows_short : ∀ (n : Nat) (r : List UInt8), r.length ≤ n → (∀ x ∈ rowsB r, x.length ≤ 8000) ∧ endL (rowsB r) ≤ r.length := by
  intro n
  induction n with
  | zero =>
    intro r hr
    obtain rfl : r = [] := List.eq_nil_of_length_eq_zero (by omega)
    rw [rowsB_no isB_nil]
    exact ⟨fun x hx => by simp at hx, Nat.le_refl _⟩
  | succ n ih =>
    intro r hr
    cases h : isB r with
    | false => rw [rowsB_no h]; exact ⟨fun x hx => by simp at hx, Nat.zero_le _⟩
    | true =>
      have h1 := isB_len h
      have h2 := bodyB_len h
      have h3 := isB_short h
      obtain ⟨i1, i2⟩ := ih (r.drop (lenB r + 7)) (by rw [List.length_drop]; omega)
      rw [rowsB_yes h]
      refine ⟨fun x hx => ?_, ?_⟩
      · rcases List.mem_cons.1 hx with e | e
        · rw [e, h2]; exact h3
        · exact i1 x e
      · rw [endL_cons, h2]; rw [List.length_drop] at i2; omega
theorem rows_bd (r : List UInt8) : (∀ x ∈ rowsB r, x.length ≤ 8000) ∧ endL (rowsB r) ≤ r.length ∧ (rowsB r).length ≤ endL (rowsB r) := by
  obtain ⟨h1, h2⟩ := rows_short r.length r (Nat.le_refl _)
  exact ⟨h1, h2, by have := endL_len (rowsB r); omega⟩
theorem cut_len {s s' : St} {n : Nat} (h : cutS s (n : Int) = (s', 0)) (hn : n ≤ s.xs.length) : s'.xs.length = n := by
  unfold cutS at h
  split at h
  · injection h with _ h; cases h
  · split at h
    · injection h with _ h; cases h
    · split at h
      · injection h with _ h; cases h
      · injection h with h _
        rw [← h]
        simp; omega
theorem Bods.mono {w : World} {base B : Nat} {vs : List Value} {xs : List (List UInt8)} (h : Bods w B vs xs) (hb : base ≤ B) : Bods w base vs xs :=
  ⟨h.len, fun i v x hv hx => owns_mono (h.own i v x hv hx) hb, h.apart⟩
/-- What a tape that is opened is. -/
def OpenTo (w : World) (base : Nat) (N : Nat → Prop) (sb : Nat) (s : St) (e : Ending) (w' : World) : Prop :=
  ((openS s).2 = 0 ∧ ∃ tb N', e = .returned (.tuple #[.pointer (some ⟨tb, 0, none⟩), .int .i64 0]) ∧ Tk w' base N' sb tb ⟨(openS s).1, rowsB s.xs, false⟩ ∧ (∀ b, b < w.heap.size → (N' b ↔ N b)) ∧ Fr N w w') ∨
  ((openS s).2 ≠ 0 ∧ e = .returned (.tuple #[.pointer none, .int .i64 (openS s).2]) ∧ SpTo w base N sb (openS s).1 w')
theorem SpTo.join {w w2 w' : World} {base sb : Nat} {N : Nat → Prop} {s' : St} (h : SpTo w2 base N sb s' w') (hb : Below w.heap.size w w2) : SpTo w base N sb s' w' := by
  obtain ⟨N', h1, h2, h3⟩ := h
  exact ⟨N', fun b hl => h1 b (Nat.lt_of_lt_of_le hl hb.size), h2, (Fr.none_of hb (N := N)).trans h3 fun _ _ h => h⟩
section
variable {w w' : World} {base sb tb : Nat} {M N R K Kb : Nat → Prop} {l : List (List UInt8)} {lost : Bool} {t t' : TS} {s s' : St}
theorem Tk.fresh {w2 w3 : World} {B : Nat} {N3 : Nat → Prop} {bv : Value} {vs : List Value} (h : Sp w3 base N3 sb s') (hB : base ≤ B) (o2 : w2.ownsRow B 37 1 bv vs.length vs) (b2 : Bods w2 B vs l) (h8 : ∀ x ∈ l, x.length ≤ 8000) (hl : l.length ≤ s'.xs.length)
    (hN : ∀ b, N3 b → b < w2.heap.size → b < B) (f : Fr K w2 w3) (hK : ∀ b, K b → b < B) : Tk (w3.alloc (.cells #[.pointer (some ⟨sb, 0, none⟩), bv, .bool false] 65)) base (fun b => N3 b ∨ ((B ≤ b ∧ b < w2.heap.size) ∨ b = w3.heap.size)) sb w3.heap.size ⟨s', l, false⟩ := by
  have hBw : ∀ g, bv.ownBlock = some g → B ≤ g := fun g hg => owns_base o2 hg
  have F4 : Fr K w2 (w3.alloc (.cells #[.pointer (some ⟨sb, 0, none⟩), bv, .bool false] 65)) := f.alloc _
  have hs := f.size
  have hbase := h.baseLe
  refine ⟨N3, fun b => (B ≤ b ∧ b < w2.heap.size) ∨ b = w3.heap.size, h.alloc _, ⟨fun b hb => ?_, .inr rfl, (fun h => by cases h), h8, bv, vs, Blk.new _ _ _, owns_mono (owns_fr o2 F4 fun g hg hk => ?_) hB, (b2.fr F4 fun i v g hv hg hk => ?_).mono hB, fun g hg => ?_, fun i v g hv hg => ?_⟩, fun b hb hr => ?_, fun b => Iff.rfl, hl⟩
  · rcases hb with hb | hb
    · simp; omega
    · subst hb; simp; exact hbase
  · have := hBw g hg; have := hK g hk; omega
  · obtain ⟨x, _, ho⟩ := b2.at_ hv
    have := owns_base ho hg; have := hK g hk; omega
  · exact .inl ⟨hBw g hg, owns_lt o2 hg⟩
  · obtain ⟨x, _, ho⟩ := b2.at_ hv
    exact .inl ⟨owns_base ho hg, owns_lt ho hg⟩
  · have hb3 := h.lt b hb
    rcases hr with hr | hr
    · have := hN b hb hr.2; omega
    · omega
theorem open_nil (w : World) : Calls Try.prog 26 #[.pointer none] w fun e w' => e = .returned (.tuple #[.pointer none, .int .i64 1]) ∧ w' = w := by
  go_enter Try.func26, Try.ntmps26
  go_wp2_with fail
  go_returns
  exact ⟨rfl, rfl⟩
theorem open_off (h : Sp w base N sb s) (ho : s.off = true) : Calls Try.prog 26 #[.pointer (some ⟨sb, 0, none⟩)] w fun e w' => e = .returned (.tuple #[.pointer none, .int .i64 190]) ∧ w' = w := by
  have HO : Hid (Calls Try.prog 47 #[.pointer (some ⟨sb, 0, none⟩)] w fun e w' => e = .returned (.bool false) ∧ w' = w) := on_at (by rw [ho]; rfl) h
  clear h ho
  go_enter Try.func26, Try.ntmps26
  go_wp2_with fail
  refine HO.out.mono ?_; rintro e w1 ⟨rfl, rfl⟩
  go_wp2_with fail
  go_returns
  exact ⟨rfl, rfl⟩
theorem open_any (h : Sp w base N sb s) (hn : s.xs.length ≤ 1000000) : Calls Try.prog 26 #[.pointer (some ⟨sb, 0, none⟩)] w (OpenTo w base N sb s) := by
  cases ho : s.off with
  | true =>
    have e : openS s = (s, 190) := by unfold openS; rw [ho]; rfl
    refine (open_off h ho).mono fun e' w' ⟨he, hw⟩ => .inr ?_
    rw [e]
    subst hw
    exact ⟨by show (190 : Int) ≠ 0; decide, he, h.same (Fr.refl _ _)⟩
  | false =>
    have HO : Hid (Calls Try.prog 47 #[.pointer (some ⟨sb, 0, none⟩)] w fun e w' => e = .returned (.bool true) ∧ w' = w) := on_at (by rw [ho]; rfl) h
    have HB := Lib.hid (bytes_any h ho)
    have H := Lib.hid h
    obtain ⟨r1, r2, r3⟩ := rows_bd s.xs
    have R1 := Lib.hid r1
    have R3 := Lib.hid r3
    obtain ⟨E, hE⟩ : ∃ E, E = endL (rowsB s.xs) := ⟨_, rfl⟩
    have HE := Lib.hid hE
    have HN := Lib.hid hn
    obtain ⟨X, hX⟩ : ∃ X, X = s.xs.length := ⟨_, rfl⟩
    have HX := Lib.hid hX
    rw [← hE, ← hX] at r2
    rw [← hE] at R3
    have hXn : X ≤ 1000000 := by omega
    have HOf := Lib.hid ho
    clear h ho r1 r3 hE hn hX
    go_enter Try.func26, Try.ntmps26
    go_wp2_with fail
    refine HO.out.mono ?_; rintro e w ⟨rfl, rfl⟩
    go_wp2_with fail
    refine HB.out.mono ?_; rintro e w1 ⟨g, hg, rfl, hblk, hb1⟩
    have B1 := Lib.hid hb1
    have AL : Hid (Calls Try.prog 49 #[.slice (some ⟨g, 0, none⟩) s.xs.length s.xs.length] w1 (AllTo w1 s.xs)) := all_any (bytes_rd hblk (by have := HN.out; unfold maxLen; omega)) HN.out
    rw [← HX.out] at AL ⊢
    clear hblk hb1 hg
    go_wp2_with fail
    refine AL.out.mono ?_; rintro e w2 ⟨bv, vs, rfl, ho2, hb2, hB2⟩
    have O2 := Lib.hid ho2
    have D2 := Lib.hid hb2
    have B2 := Lib.hid hB2
    rw [← HE.out]
    obtain ⟨A2, d2, rfl⟩ := owned_slice ho2
    clear ho2 hb2 hB2
    have S2 : Hid (Sp w2 base N sb s) := (H.out.kept B1.out).kept B2.out
    have bw : base ≤ w1.heap.size := Nat.le_trans H.out.baseLe B1.out.size
    have B12 : Hid (Below w.heap.size w w2) := B1.out.trans (B2.out.mono B1.out.size)
    by_cases hlt : E < X
    · have t1 : decide (E < X) = true := decide_eq_true hlt
      have t1' : (E : Int) < X := by omega
      obtain ⟨s', e', hc⟩ : ∃ s' e', cutS s (E : Int) = (s', e') := ⟨_, _, rfl⟩
      have hop : openS s = (s', e') := by
        unfold openS
        rw [HOf.out, ← HE.out, ← HX.out, if_neg (by decide), if_pos hlt, hc]
      have HOP := Lib.hid hop
      have CU := Lib.hid (cut_at hc S2.out)
      have HC := Lib.hid hc
      clear hc hop
      by_cases h0 : e' = 0
      · subst h0
        go_wp2_with fail
        refine CU.out.mono ?_; rintro e w3 ⟨rfl, N3, n3, k3, f3⟩
        have NN := Lib.hid n3
        have K3 := Lib.hid k3
        have F3 := Lib.hid f3
        clear n3 k3 f3
        go_wp2_with fail
        go_returns
        refine .inl ?_
        rw [HOP.out]
        refine ⟨rfl, w3.heap.size, _, rfl, Tk.fresh K3.out bw O2.out D2.out R1.out ?_ ?_ F3.out (fun b hb => ?_), fun b hb => ?_, ((Fr.none_of B12.out).trans F3.out fun _ _ h => h).alloc _⟩
        · rw [cut_len HC.out (by rw [← HX.out]; exact r2)]; exact R3.out
        · intro b hb hl
          have := H.out.lt b ((NN.out b hl).1 hb)
          have := B1.out.size; omega
        · have := H.out.lt b hb; have := B1.out.size; omega
        · have := B1.out.size; have := B12.out.size; have := F3.out.size
          constructor
          · rintro (h | h | h)
            · exact (NN.out b (by omega)).1 h
            · omega
            · omega
          · exact fun h => .inl ((NN.out b (by omega)).2 h)
      · have t2 : (e' != 0) = true := bne_iff_ne.2 h0
        have H0 := Lib.hid h0
        clear h0
        go_wp2_with fail
        refine CU.out.mono ?_; rintro e w3 ⟨rfl, h3⟩
        have H3 := Lib.hid h3
        clear h3
        go_wp2_with fail
        go_returns
        refine .inr ?_
        rw [HOP.out]
        exact ⟨H0.out, rfl, H3.out.join B12.out⟩
    · have t1 : decide (E < X) = false := decide_eq_false hlt
      go_wp2_with fail
      go_returns
      refine .inl ?_
      have hop : openS s = (s, 0) := by
        unfold openS
        rw [HOf.out, ← HE.out, ← HX.out, if_neg (by decide), if_neg hlt]
      rw [hop]
      refine ⟨rfl, w2.heap.size, _, rfl, Tk.fresh (K := fun _ => False) S2.out bw O2.out D2.out R1.out ?_ ?_ (Fr.refl _ w2) (fun _ h => h.elim), fun b hb => ?_, (Fr.none_of B12.out).alloc _⟩
      · have := R3.out; rw [← HX.out]; omega
      · intro b hb _
        have := H.out.lt b hb
        have := B1.out.size; omega
      · have := B1.out.size; have := B12.out.size
        constructor
        · rintro (h | h | h)
          · exact h
          · omega
          · omega
        · exact .inl
end
end

section
open Go Go.RowKit Go.Lib
theorem addS_tick (s : St) (ys : List UInt8) (h1 : s.off = false) (h2 : ¬ s.room - s.xs.length < ys.length) (h3 : s.left ≠ 0) : addS s ys = ({ s with xs := s.xs ++ ys, left := tick s.left }, 0) := by
  unfold addS; rw [h1, if_neg (by decide), if_neg h2, if_neg h3]
theorem addT_ok (t : TS) (r : List UInt8) (hl : t.lost = false) (h8 : r.length ≤ 8000) (ho : t.s.off = false) (hn : t.s.left < 0) (hr : ¬ t.s.room - t.s.xs.length < ((r.length + 7 : Nat) : Int)) :
    addT t r = (⟨⟨t.s.room, t.s.xs ++ putB r, t.s.xs.length + (r.length + 7), t.s.left, false⟩, t.l ++ [r], false⟩, 0) := by
  obtain ⟨⟨room, xs, sure, left, off⟩, l, lost⟩ := t
  dsimp only at *
  subst hl ho
  unfold addT appT
  dsimp only
  rw [addS_ok ⟨room, xs, sure, left, false⟩ (putB r) rfl (by rw [putB_len]; exact hr) hn]
  dsimp only
  rw [syncS_ok ⟨room, xs ++ putB r, sure, left, false⟩ rfl hn]
  rw [if_neg (by decide), if_neg (by omega)]
  simp [notT, putB_len]
theorem addT_full (t : TS) (r : List UInt8) (hl : t.lost = false) (h8 : r.length ≤ 8000) (ho : t.s.off = false) (hr : t.s.room - t.s.xs.length < ((r.length + 7 : Nat) : Int)) : addT t r = (t, 5) := by
  obtain ⟨⟨room, xs, sure, left, off⟩, l, lost⟩ := t
  dsimp only at *
  subst hl ho
  unfold addT appT
  dsimp only
  rw [addS_full ⟨room, xs, sure, left, false⟩ (putB r) rfl (by rw [putB_len]; exact hr)]
  rw [if_neg (by decide), if_neg (by omega)]
  rfl
/-- Of a spool that stops behind the write, ahead of the sync. -/
theorem addT_stop (t : TS) (r : List UInt8) (hl : t.lost = false) (h8 : r.length ≤ 8000) (ho : t.s.off = false) (hn : t.s.left = 1) (hr : ¬ t.s.room - t.s.xs.length < ((r.length + 7 : Nat) : Int)) :
    addT t r = (⟨⟨t.s.room, t.s.xs ++ putB r, t.s.sure, 0, true⟩, [], true⟩, 190) := by
  obtain ⟨⟨room, xs, sure, left, off⟩, l, lost⟩ := t
  dsimp only at *
  subst hl ho hn
  unfold addT appT
  dsimp only
  rw [addS_tick ⟨room, xs, sure, 1, false⟩ (putB r) rfl (by rw [putB_len]; exact hr) (by show (1 : Int) ≠ 0; decide)]
  dsimp only
  rw [if_neg (by decide), if_neg (by omega)]
  rfl
theorem openS_flat (room : Int) (good : List (List UInt8)) (rest : List UInt8) (sure : Nat) (left : Int) (h : ∀ x ∈ good, x.length ≤ 8000) (hr : isB rest = false) (hl : left < 0) :
    rowsB (flatB good ++ rest) = good ∧ ∃ sure', openS ⟨room, flatB good ++ rest, sure, left, false⟩ = (⟨room, flatB good, sure', left, false⟩, 0) ∧ (rest ≠ [] → sure' = endL good) ∧ (rest = [] → sure' = sure) := by
  have h1 := (err_flat good rest h hr).1
  refine ⟨h1, ?_⟩
  unfold openS
  dsimp only
  rw [h1, if_neg (by decide)]
  by_cases he : rest = []
  · subst he
    rw [List.append_nil, if_neg (by rw [flatB_len]; omega)]
    exact ⟨sure, rfl, fun h => absurd rfl h, fun _ => rfl⟩
  · have hp : 0 < rest.length := List.length_pos_iff.2 he
    rw [if_pos (by rw [List.length_append, flatB_len]; omega), cutS_ok ⟨room, flatB good ++ rest, sure, left, false⟩ (endL good) rfl (by dsimp only; rw [List.length_append, flatB_len]; omega) hl]
    refine ⟨endL good, ?_, fun _ => rfl, fun h => absurd h he⟩
    dsimp only
    rw [List.take_left' (flatB_len good)]
section
variable {w w' : World} {base sb tb : Nat} {M N R K Kb : Nat → Prop} {l : List (List UInt8)} {lost : Bool} {t t' : TS} {s s' : St}
theorem tAdd_at {rv : Value} {r : List UInt8} {n : Int} (hr : addT t r = (t', n)) (h : Tk w base N sb tb t) (hR : Rd w K rv (bts r)) (hK : ∀ b, K b → ¬ N b) :
    Calls Try.prog 20 #[.pointer (some ⟨tb, 0, none⟩), rv] w fun e w' => e = .returned (.int .i64 n) ∧ TkTo w base N sb tb t' w' := by
  have := tapeAdd_any h hR hK; rw [hr] at this; exact this
theorem open_at (hr : openS s = (s', 0)) (h : Sp w base N sb s) (hn : s.xs.length ≤ 1000000) (hl : rowsB s.xs = l) :
    Calls Try.prog 26 #[.pointer (some ⟨sb, 0, none⟩)] w fun e w' => ∃ tb N', e = .returned (.tuple #[.pointer (some ⟨tb, 0, none⟩), .int .i64 0]) ∧ Tk w' base N' sb tb ⟨s', l, false⟩ ∧ (∀ b, b < w.heap.size → (N' b ↔ N b)) ∧ Fr N w w' := by
  refine (open_any h hn).mono fun e w' ho => ?_
  unfold OpenTo at ho
  rw [hr, hl] at ho
  rcases ho with ⟨_, h⟩ | ⟨h, _⟩
  · exact h
  · exact absurd rfl h
theorem Tk.alloc (h : Tk w base N sb tb t) (o : Obj) : Tk (w.alloc o) base N sb tb t := h.kept ((Below.refl _ _).alloc (Nat.le_refl _) _)
theorem TkTo.get (h : Tk w base N sb tb t) (k : TkTo w base N sb tb t' w') : ∃ N', Tk w' base N' sb tb t' ∧ Below base w w' := by
  obtain ⟨N', _, h1, h2⟩ := k
  exact ⟨N', h1, h.below h2⟩
theorem Tk.sp (h : Tk w base N sb tb t) : ∃ M, Sp w base M sb t.s ∧ ∀ b, M b → N b := by
  obtain ⟨M, R, h1, _, _, h4, _⟩ := h
  exact ⟨M, h1, fun b hb => (h4 b).2 (.inl hb)⟩
end
def sK (k : Nat) : St := if k = 0 then ⟨1000, [], 0, -1, false⟩ else ⟨1000, flatB [[97], [98]], 16, -1, false⟩
theorem k1 : addT ⟨⟨1000, [], 0, -1, false⟩, [], false⟩ [97] = (⟨⟨1000, putB [97], 8, -1, false⟩, [[97]], false⟩, 0) := by
  rw [addT_ok _ _ rfl (by decide) rfl (by decide) (by decide)]; rfl
theorem k2 : addT ⟨⟨1000, putB [97], 8, -1, false⟩, [[97]], false⟩ [98] = (⟨⟨1000, putB [97] ++ putB [98], 16, -1, false⟩, [[97], [98]], false⟩, 0) := by
  rw [addT_ok _ _ rfl (by decide) rfl (by decide) (by show ¬ (1000 : Int) - ((putB [97]).length : Int) < _; rw [putB_len]; decide)]
  dsimp only
  rw [putB_len]; rfl
theorem k3 : addT ⟨⟨1000, putB [97] ++ putB [98], 16, 1, false⟩, [[97], [98]], false⟩ [99] = (⟨⟨1000, putB [97] ++ putB [98] ++ putB [99], 16, 0, true⟩, [], true⟩, 190) := by
  rw [addT_stop _ _ rfl (by decide) rfl rfl (by show ¬ (1000 : Int) - ((putB [97] ++ putB [98]).length : Int) < _; rw [List.length_append, putB_len, putB_len]; decide)]
theorem flat2 : flatB [[97], [98]] = putB [97] ++ putB [98] := by simp [flatB]
theorem k4 : crashS ⟨1000, putB [97] ++ putB [98] ++ putB [99], 16, 0, true⟩ 3 = ⟨1000, flatB [[97], [98]] ++ (putB [99]).take 3, 19, -1, false⟩ := by
  have e : crashN ⟨1000, putB [97] ++ putB [98] ++ putB [99], 16, 0, true⟩ 3 = 19 := by
    unfold crashN; dsimp only
    simp only [List.length_append, putB_len]; decide
  unfold crashS
  rw [e, flat2]
  dsimp only
  rw [List.take_append, List.take_of_length_le (by simp only [List.length_append, putB_len]; decide)]
  simp only [List.length_append, putB_len]
  rfl
theorem k5 : ∃ u, rowsB (flatB [[97], [98]] ++ (putB [99]).take 3) = [[97], [98]] ∧ openS ⟨1000, flatB [[97], [98]] ++ (putB [99]).take 3, 19, -1, false⟩ = (⟨1000, flatB [[97], [98]], u, -1, false⟩, 0) := by
  obtain ⟨h1, u, h2, _⟩ := openS_flat 1000 [[97], [98]] ((putB [99]).take 3) 19 (-1) (by decide) (isB_cut [99] 3 (by decide) (by decide)) (by decide)
  exact ⟨u, h1, h2⟩
theorem k0 : rowsB [] = [] ∧ openS ⟨1000, [], 0, -1, false⟩ = (⟨1000, [], 0, -1, false⟩, 0) := by
  have := rowsB_no isB_nil
  refine ⟨this, ?_⟩
  unfold openS; dsimp only
  rw [this]; rfl
set_option maxRecDepth 100000 in
theorem known19_any (w : World) : Calls Try.prog 9 #[] w fun e w' => e = .returned (.bool true) ∧ Below w.heap.size w w' := by
  have q0 : ∀ (w : World) (C : Array Value) (n c : Nat), (convert 37 37 (.slice (some ⟨w.heap.size, 0, none⟩) n c)).run Try.prog (w.alloc (.cells C 5)) = .ok (.slice (some ⟨w.heap.size, 0, none⟩) n c) (w.alloc (.cells C 5 (C.size, C.size + 1))) := fun w C n c => run_convert_bytes_const w 37 5 C n c Try.underlying37 Try.underlying5
  have HNw := Lib.hid (new_any 1000 w w.heap.size (by decide) (by decide) (Nat.le_refl _))
  go_enter Try.func9, Try.ntmps9
  go_wp2_with fail
  refine HNw.out.mono ?_; rintro e w1 ⟨rfl, hs1, hb1, hz1⟩
  have S1 := Lib.hid hs1
  have B1 := Lib.hid hb1
  clear hs1 hb1 hz1
  go_wp2_with fail
  refine (open_at k0.2 S1.out (by decide) k0.1).mono ?_; rintro e w2 ⟨tb, N2, rfl, hk2, _, hf2⟩
  have K2 := Lib.hid hk2
  have B2 := Lib.hid (B1.out.trans (S1.out.below hf2))
  clear hk2 hf2
  go_wp2_with fail
  refine (tAdd_at k1 (K2.out.alloc _) (rd_lit w2 [97] 1 rfl (by decide) _ rfl _) (fun b hb h => by have := (K2.out.lt b h).2; omega)).mono ?_; rintro e w3 ⟨rfl, h3⟩
  obtain ⟨N3, hk3, hb3⟩ := TkTo.get (K2.out.alloc _) h3
  have K3 := Lib.hid hk3
  have B3 := Lib.hid ((B2.out.alloc B2.out.size _).trans hb3)
  clear h3 hk3 hb3
  go_wp2_with fail
  refine (tAdd_at k2 (K3.out.alloc _) (rd_lit w3 [98] 1 rfl (by decide) _ rfl _) (fun b hb h => by have := (K3.out.lt b h).2; omega)).mono ?_; rintro e w4 ⟨rfl, h4⟩
  obtain ⟨N4, hk4, hb4⟩ := TkTo.get (K3.out.alloc _) h4
  have K4 := Lib.hid hk4
  have B4 := Lib.hid ((B3.out.alloc B3.out.size _).trans hb4)
  clear h4 hk4 hb4
  go_wp2_with fail
  refine (K4.out.spool (s' := ⟨1000, putB [97] ++ putB [98], 16, 1, false⟩) K4.out.few.1 fun M hM hN => off_at rfl (by decide) hM).mono ?_; rintro e w5 ⟨rfl, h5⟩
  obtain ⟨N5, hk5, hb5⟩ := TkTo.get K4.out h5
  have K5 := Lib.hid hk5
  have B5 := Lib.hid (B4.out.trans hb5)
  clear h5 hk5 hb5
  go_wp2_with fail
  refine (tAdd_at k3 (K5.out.alloc _) (rd_lit w5 [99] 1 rfl (by decide) _ rfl _) (fun b hb h => by have := (K5.out.lt b h).2; omega)).mono ?_; rintro e w6 ⟨rfl, h6⟩
  obtain ⟨N6, hk6, hb6⟩ := TkTo.get (K5.out.alloc _) h6
  have K6 := Lib.hid hk6
  have B6 := Lib.hid ((B5.out.alloc B5.out.size _).trans hb6)
  clear h6 hk6 hb6
  go_wp2_with fail
  refine (tapeLen_any K6.out).mono ?_; rintro e w6 ⟨rfl, rfl⟩
  obtain ⟨M6, hs6, _⟩ := K6.out.sp
  have S6 := Lib.hid hs6
  clear hs6
  go_wp2_with fail
  refine (crash_at k4 S6.out).mono ?_; rintro e w7 ⟨rfl, N7, _, hs7, hf7⟩
  have S7 := Lib.hid hs7
  have B7 := Lib.hid (B6.out.trans (S6.out.below hf7))
  clear hs7 hf7
  obtain ⟨u5, r5, o5⟩ := k5
  go_wp2_with fail
  refine (open_at o5 S7.out (by dsimp only; simp only [flatB_len, List.length_append, List.length_take, putB_len]; decide) r5).mono ?_; rintro e w8 ⟨ub, N8, rfl, hk8, _, hf8⟩
  have K8 := Lib.hid hk8
  have B8 := Lib.hid (B7.out.trans (S7.out.below hf8))
  clear hk8 hf8 r5 o5
  go_wp2_with fail
  refine (records_any K8.out).mono ?_; rintro e w9 ⟨bv, vs, rfl, ho9, hb9, hB9⟩
  have B9 := Lib.hid (B8.out.trans (hB9.mono B8.out.size))
  have L9 := RdL.of_bods ho9 hb9
  obtain ⟨A9, c9, rfl, _⟩ := L9.form
  obtain ⟨g, off, u0, rfl, x0, r0⟩ := L9.at_ (k := 0) (by show 0 < 2; decide)
  obtain ⟨g', off', u1, e1, x1, r1⟩ := L9.at_ (k := 1) (by show 1 < 2; decide)
  obtain ⟨rfl, rfl⟩ : g = g' ∧ off = off' := by injection e1 with e1; injection e1 with e1 e2 _; exact ⟨e1, e2⟩
  have v0 : ∀ dst, Try.prog.underlying dst = some .string → (convert 37 dst u0).run Try.prog w9 = .ok (.string (str [97])) w9 := conv_bts r0
  have v1 : ∀ dst, Try.prog.underlying dst = some .string → (convert 37 dst u1).run Try.prog w9 = .ok (.string (str [98])) w9 := conv_bts r1
  have y0 : (str [97]).toList == [97] := by rw [str_list]; rfl
  have y1 : (str [98]).toList == [98] := by rw [str_list]; rfl
  clear hB9 ho9 hb9 L9 e1 r0 r1
  simp at x0
  go_wp2_with fail
  go_returns
  exact ⟨rfl, B9.out⟩
end

section
open Go Go.RowKit Go.Lib
theorem tapePack_nil (w : World) (v : Value) : Calls Try.prog 27 #[.pointer none, v] w fun e w' => e = .returned (.int .i64 1) ∧ Below w.heap.size w w' := by
  have hmf : ∀ (fn : Fn) (first cap : Array Value) (w : World), (Instr.makeFunc fn first cap).run Try.prog w = .ok (.func fn first cap) w := fun _ _ _ _ => rfl
  go_enter_defers Try.func27, Try.ntmps27
  go_wp2_with fail
  refine ⟨.int .i64 1, by simp [results, Try.results27, go_sem], rfl, ?_⟩
  exact ((Below.refl _ w).alloc (Nat.le_refl _) _).alloc (by simp) _
end

end Go.Proofs.Ytgohnidndjbjiaa
