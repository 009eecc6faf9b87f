/-
  The yard's remove.
-/
import Derived.Test.YtcdlfhheolbhaaaYdS
import Derived.Deep.QuietTactic
namespace Go.Proofs.Ytcdlfhheolbhaaa
open Go Go.RowKit Go.Lib
set_option linter.unusedVariables false

theorem Blk.at {w : World} {b : Nat} {cs : Array Value} {t : TypeId} (h : Blk w b cs t) {j : Nat} {v : Value} (hv : cs[j]? = some v) : w.cell? ⟨b, j, none⟩ = some v ∧ w.frozen? ⟨b, j, none⟩ = false :=
  ⟨by rw [h.cell]; exact hv, h.free j⟩
set_option maxHeartbeats 2000000 in
theorem remove_any (y : Nat) (own : Nat → Prop) (n : Nat) (op : Opn) (tk : List Bk) (fl : List Nat) (o s : Nat) (ho : o ≤ n) (w : World) (hY : YI w y own n op tk fl) :
    Calls Try.prog 80 #[.pointer (some ⟨y, 0, none⟩), bkV (s, o)] w
      fun e w' => ∃ r op', e = .returned (.bool r) ∧ ((r = true ∧ isF n op o s ∧ op' = less op o s) ∨ (r = false ∧ ¬ isF n op o s ∧ op' = op)) ∧ YI w' y own n op' tk fl ∧ Chg own w w' := by
  have hn := hY.n10
  have hyw := hY.lt
  obtain ⟨v, hv, hr⟩ := hY.free (show o ≤ 10 by omega)
  obtain ⟨l, hl⟩ : ∃ l, l = frL n op o := ⟨_, rfl⟩
  have hll : l.length ≤ 1024 := by rw [hl]; exact frL_len hn op o
  have hinc : l.Pairwise (· < ·) := by rw [hl]; exact frL_inc n op o
  have hmem : ∀ x, x ∈ l ↔ isF n op o x := fun x => by rw [hl]; exact frL_mem
  obtain ⟨p1, p2, p3, p4⟩ := pos_facts hinc s
  rw [← hl] at hr
  have BS : Hid (∀ w', (∃ q, w' = (w.alloc (.cells #[.int .i64 (s : Int), .int .i64 (o : Int)] 45)).drewN q) → Calls Try.prog 60 #[v, .int .i64 (s : Int)] w' fun e w'' => e = .returned (.tuple #[.int .i64 (posN l s : Nat), .bool (hasN l s)]) ∧ ∃ q, w'' = w'.drewN q) := by
    rintro w' ⟨q, rfl⟩
    exact bsN_any v l s _ hll hinc ((nrow_of_own hr).kept (below_drewN ((Below.refl _ _).alloc (Nat.le_refl _) _) _))
  obtain ⟨p, hp⟩ : ∃ p, p = posN l s := ⟨_, rfl⟩
  obtain ⟨f, hf⟩ : ∃ f, f = hasN l s := ⟨_, rfl⟩
  rw [← hp, ← hf] at BS
  obtain ⟨w0, hw0⟩ : ∃ w0, w0 = w.alloc (.cells #[.int .i64 (s : Int), .int .i64 (o : Int)] 45) := ⟨_, rfl⟩
  rw [← hw0] at BS
  have hY0 : YI w0 y own n op tk fl := hw0 ▸ hY.kept ((Below.refl _ _).alloc (Nat.le_refl _) _)
  have hB0 : Below w.heap.size w w0 := hw0 ▸ (Below.refl _ _).alloc (Nat.le_refl _) _
  have hr0 : NOwn w0 0 v (natI l) := own_older hr hB0
  have hv0 : w0.cell? ⟨y, 1 + o, none⟩ = some v := cell_next hB0 hv
  have hc0 : w0.cell? ⟨w.heap.size, 0, none⟩ = some (.int .i64 (s : Int)) := by rw [hw0]; simp
  have hc1 : w0.cell? ⟨w.heap.size, 1, none⟩ = some (.int .i64 (o : Int)) := by rw [hw0]; simp
  have hoi : (o : Int) < 11 := by omega
  have hoz : (0 : Int) ≤ (o : Int) := by omega
  have HY := Lib.hid hY0
  have HR := Lib.hid hr0
  have HM := Lib.hid hmem
  have HB := Lib.hid hB0
  cases f with
  | false =>
    have hno : ¬ isF n op o s := fun h => by
      have := hasN_iff.2 ((hmem s).2 h)
      rw [← hf] at this; cases this
    clear hmem hinc p1 p2 p3 p4 hf hp hl hr hv hY hB0 hY0 hr0
    go_enter Try.func80, Try.ntmps80
    go_wp2_with fail
    rw [← hw0]
    clear hw0
    go_quiet (first | (go_at_call 60; exact Calls.quiet_of (BS.out _ ⟨_, rfl⟩)))
    go_wp2_with fail
    go_returns
    exact ⟨false, op, rfl, .inr ⟨rfl, hno, rfl⟩, HY.out.kept (below_drewN (Below.refl _ _) _), (Chg.of_below HB.out).trans (Chg.of_below (below_drewN (Below.refl _ _) _))⟩
  | true =>
    obtain ⟨hpl, hps⟩ := p4.1 hf.symm
    have hF : isF n op o s := (hmem s).1 (hasN_iff.1 hf.symm)
    rw [← hp] at p1 p2 p3 hpl
    have hgp : l[p]'hpl = s := by simp only [hp]; exact hps
    have hdel : frL n (less op o s) o = l.take p ++ l.drop (p + 1) := by
      have hpl' : p < (frL n op o).length := by rw [← hl]; exact hpl
      have e := frL_del (n := n) (op := op) (o := o) (p := p) hpl'
      have e2 : (frL n op o)[p]'hpl' = s := by
        have : (frL n op o)[p]'hpl' = l[p]'hpl := by simp only [hl]
        rw [this, hgp]
      rw [e2] at e
      rw [← e, hl]
    have DL : Hid (∀ w', (∃ q, w' = w0.drewN q) → Calls Try.prog 63 #[v, .int .i64 (p : Int), .int .i64 ((p : Int) + 1)] w' fun e w'' => ∃ va vn vc, e = .returned (.slice va vn vc) ∧
        (w''.cell? ⟨w.heap.size, 0, none⟩ = some (.int .i64 (s : Int)) ∧ w''.cell? ⟨w.heap.size, 1, none⟩ = some (.int .i64 (o : Int)) ∧ w''.cell? ⟨y, 1 + o, none⟩ = some v ∧ w''.frozen? ⟨y, 1 + o, none⟩ = false) ∧
        Hid (YI (w''.setCell ⟨y, 1 + o, none⟩ (.slice va vn vc)) y own n (less op o s) tk fl ∧ Chg own w (w''.setCell ⟨y, 1 + o, none⟩ (.slice va vn vc)))) := by
      rintro w' ⟨q, rfl⟩
      refine (delN_any v l p (w0.drewN q) hpl (own_older hr0 (below_drewN (Below.refl _ _) _))).mono ?_
      rintro e w2 ⟨v', rfl, d1, d2, d3⟩
      rw [← hdel] at d1
      have hYq : YI (w0.drewN q) y own n op tk fl := hY0.kept (below_drewN (Below.refl _ _) _)
      obtain ⟨e1, e2, cs, e3, e4⟩ := hYq.putFree (o := o) (by omega) (v := v) (v' := v') (cell_next (below_drewN (Below.refl _ _) _) hv0) d2 d3 d1 (fun o' hne => frL_less hF hne)
      have hne : some w.heap.size ≠ v.ownBlock := fun e => by have := (hr.lt _ e.symm).2; omega
      obtain ⟨va, vc, rfl⟩ := own_slice d1
      exact ⟨va, _, vc, rfl, ⟨d2.cell (a := ⟨w.heap.size, 0, none⟩) hc0 hne, d2.cell (a := ⟨w.heap.size, 1, none⟩) hc1 hne, (e3.at e4).1, (e3.at e4).2⟩, e1, (Chg.of_below (hB0.trans (below_drewN (Below.refl _ _) _ |>.mono hB0.size))).trans e2⟩
    have hp1 : IntKind.i64.wrap ((p : Int) + 1) = (p : Int) + 1 := by rw [IntKind.wrap_i64]; omega
    clear hmem hinc p1 p2 p3 p4 hf hp hl hr hv hY hB0 hY0 hr0 hdel hgp hpl hps
    go_enter Try.func80, Try.ntmps80
    go_wp2_with fail
    rw [← hw0]
    clear hw0
    go_quiet (first | (go_at_call 60; exact Calls.quiet_of (BS.out _ ⟨_, rfl⟩)))
    go_wp2_with fail
    go_region_law (first | (go_simp; go_at_call 63; ((with_reducible refine (DL.out _ ⟨_, rfl⟩).mono ?_); rintro e w2 ⟨va, vn, vc, rfl, ⟨d1, d2, d3, d4⟩, hfin⟩)))
    all_goals (go_wp2_with fail; go_returns; exact ⟨true, less op o s, rfl, .inl ⟨rfl, hF, rfl⟩, hfin.out⟩)
end Go.Proofs.Ytcdlfhheolbhaaa
