/-
  make, and copy into what was made, whatever slice comes in. No program is imported.
-/
import Derived.Test.YtgohnidndjbjiaaFr
import Derived.Laws.CopyOwn
namespace Go.Proofs.Ytgohnidndjbjiaa
open Go Go.RowKit
set_option linter.unusedVariables false

section
variable {P : Program} {w : World}
theorem wpList_copy_full {ops : Array Oper} {rest : List Oper} {o : Oper} {a : Act} {Q : Exit → Act → World → Prop} (hgd : o.guard = none) (d s : Operand) (dT sT : TypeId)
    (ho : o.op = .call { callee := .builtin .copy, args := #[d, s], argTypes := #[dT, sT] }) (elem : TypeId) (hu : P.underlying dT = some (.slice elem)) (hsz : (P.info? elem).map (·.size) = some 1)
    (g n : Nat) (K : Nat → Prop) (sv : Value) (xs : List Value) (hd : a.eval d = .slice (some ⟨g, 0, none⟩) n n) (hs : a.eval s = sv) (hS : Rd w K sv xs) (hn : xs.length = n)
    (cur : Array Value) (t : TypeId) (hg : Blk w g cur t) (hc : cur.size = n) (h1 : ∀ v ∈ xs, v.oneCell' = true)
    (h : ∀ w', Blk w' g xs.toArray t → Fr (fun b => b = g) w w' → wpList P ops Q rest (a.put o.dst (goInt n)) w') : wpList P ops Q (o :: rest) a w := by
  subst hn
  obtain ⟨A, c, rfl, hlc, hcm, hr⟩ := hS
  rcases Nat.eq_zero_or_pos xs.length with h0 | h0
  · have h0' := h0
    obtain rfl : xs = [] := List.eq_nil_of_length_eq_zero h0
    have : cur = #[] := Array.eq_empty_of_size_eq_zero (by simpa using hc)
    subst this
    exact wpList_copy_nothing hgd d s dT sT ho elem hu hsz _ A _ _ 0 c hd hs (by simp) (by simpa using h w hg (Fr.refl _ _))
  · obtain ⟨b, off, rfl, _, _, hcell⟩ := hr h0
    refine wpList_copy_own hgd d s dT sT ho elem hu hsz g 0 xs.length xs.length ⟨b, off, none⟩ xs.length c hd hs cur t hg xs (by simp) (fun j v hj => by rw [Addr.add_lit]; exact hcell j v hj) (by omega) h1 ?_
    refine h _ ?_ ⟨rfl, rfl, rfl, by simp [World.setRow], fun k hk hne => setRow_other w g k _ hne⟩
    have := setRow_heap w g cur (([] : List Value) ++ (xs ++ cur.toList.drop (0 + xs.length))).toArray t (0, 0) hg
    have e : (cur.toList.drop (0 + xs.length)) = [] := List.drop_eq_nil_of_le (by simp; omega)
    unfold Blk
    rw [e] at this ⊢
    simpa using this
theorem wpList_make_blk {ops : Array Oper} {rest : List Oper} {o : Oper} {a : Act} {Q : Exit → Act → World → Prop} (hgd : o.guard = none) (l c : Operand) (t : TypeId) (ho : o.op = Op.makeSlice t l c)
    (e : TypeId) (i : TypeInfo) (z : Value) (h1 : P.underlying t = some (.slice e)) (h2 : P.info? e = some i) (h3 : i.zero = some z) (h4 : i.size = 1) (hz : z.cells = #[z])
    (kl kc : IntKind) (L C : Int) (n : Nat) (hl : a.eval l = .int kl L) (hc : a.eval c = .int kc C) (hL : L = (n : Int)) (hC : C = (n : Int)) (b2 : i.bytes * n ≤ 281474976710656) (b3 : n ≤ maxLen)
    (h : ∀ w', Blk w' w.heap.size (List.replicate n z).toArray e → Below w.heap.size w w' → w'.heap.size = w.heap.size + 1 → wpList P ops Q rest (a.put o.dst (.slice (some ⟨w.heap.size, 0, none⟩) n n)) w') :
    wpList P ops Q (o :: rest) a w := by
  subst hL hC
  have b2' : (i.bytes : Int) * (n : Int) ≤ 281474976710656 := by
    have h : ((i.bytes * n : Nat) : Int) ≤ 281474976710656 := by omega
    rwa [Int.natCast_mul] at h
  have hr := run_make (P := P) w t e i z h1 h2 h3 kl kc n n (by omega) (Int.le_refl _) b2' (by unfold maxLen at b3; omega)
  simp only [Int.toNat_natCast] at hr
  refine wpList_plain hgd fun K hK => ?_
  unfold Oper.wp
  simp [execOp, ho, hl, hc, hr, Result.andThen]
  refine hK _ _ (h _ ?_ ((Below.refl _ _).alloc (Nat.le_refl _) _) (by simp))
  have e : (madeCells z.cells (n * i.size)) = (List.replicate n z).toArray := by
    apply Array.ext'
    rw [hz, h4, Nat.mul_one, toList_madeCells_one]
  rw [e]
  exact Blk.new w _ _
end
end Go.Proofs.Ytgohnidndjbjiaa
