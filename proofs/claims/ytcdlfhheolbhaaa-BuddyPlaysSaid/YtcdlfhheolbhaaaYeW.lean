/-
  Rows of the law's own beside a yard, any number; failed and healed, plainly.
-/
import Derived.Test.YtcdlfhheolbhaaaYeV
namespace Go.Proofs.Ytcdlfhheolbhaaa
open Go Go.RowKit Go.Lib
set_option linter.unusedVariables false

/-- All that is new, but for some rows. -/
def ownL (h0 : Nat) (vs : List Value) : Nat → Prop := fun k => h0 ≤ k ∧ ∀ v ∈ vs, v.ownBlock ≠ some k
theorem ownL_out {h0 : Nat} {vs : List Value} {v : Value} (hv : v ∈ vs) : ∀ k, v.ownBlock = some k → ¬ ownL h0 vs k := fun k e h => h.2 v hv e
theorem ownL_lo {h0 : Nat} {vs : List Value} : ∀ k, k < h0 → ¬ ownL h0 vs k := fun k e h => by have := h.1; omega
theorem YS.rowsL {w1 w3 : World} {h0 g n : Nat} {tk : List Bk} {fl : List Nat} {vs : List Value} (hY : YS w1 g (fun k => h0 ≤ k) n tk fl) (hb : Below w1.heap.size w1 w3) (hv : ∀ v ∈ vs, ∀ k, v.ownBlock = some k → w1.heap.size ≤ k ∧ k < w3.heap.size) : YS w3 g (ownL h0 vs) n tk fl := by
  refine ⟨hY.1, ?_⟩
  obtain ⟨cs, q1, q2, q3⟩ := hY.2
  have hin : ∀ k, k < w1.heap.size → h0 ≤ k → ownL h0 vs k := fun k hk h => ⟨h, fun v hm e => by have := (hv v hm k e).1; omega⟩
  have k3 := q1.kept hb
  refine ⟨cs, ⟨k3.blk, k3.sz, hin g q1.blk.lt q1.bown, fun k hk => ⟨q1.new k (Nat.le_trans hb.size hk), fun v hm e => by have := (hv v hm k e).2; omega⟩, k3.row, fun j u b j1 j2 hu hub => ?_, k3.apart⟩, q2, q3⟩
  obtain ⟨u', m, hu', ho⟩ := q1.row j j1 j2
  rw [hu] at hu'; cases hu'
  exact ⟨hin b (ho.lt b hub).2 (q1.ob j u b j1 j2 hu hub).1, (q1.ob j u b j1 j2 hu hub).2⟩

/-! Failed one by one, then healed one by one. -/
structure FellR (n : Nat) (fl0 fl : List Nat) (D : List Nat) : Prop where
  mem : ∀ x, x ∈ fl ↔ x ∈ fl0 ∨ x ∈ D
  new : ∀ x ∈ D, x ∉ fl0
  nd : D.Nodup
  rg : ∀ x ∈ D, x < 2 ^ n
theorem FellR.zero (n : Nat) (fl : List Nat) : FellR n fl fl [] := ⟨fun x => by simp, fun x h => absurd h (by simp), List.Pairwise.nil, fun x h => absurd h (by simp)⟩
theorem FellR.step {n : Nat} {fl0 fl D : List Nat} {x : Nat} (h : FellR n fl0 fl D) (hx : x < 2 ^ n) (hn : x ∉ fl) : FellR n fl0 (insF fl x) (D ++ [x]) := by
  refine ⟨fun z => ?_, fun z hz => ?_, ?_, fun z hz => ?_⟩
  · rw [mem_insF, h.mem, List.mem_append, List.mem_singleton]
    constructor
    · rintro (e | e | e)
      · exact .inr (.inr e)
      · exact .inl e
      · exact .inr (.inl e)
    · rintro (e | e | e)
      · exact .inr (.inl e)
      · exact .inr (.inr e)
      · exact .inl e
  · rcases List.mem_append.1 hz with e | e
    · exact h.new z e
    · rw [List.mem_singleton.1 e]; exact fun q => hn ((h.mem x).2 (.inl q))
  · unfold List.Nodup at *
    have := h.nd
    rw [List.pairwise_append]
    refine ⟨this, by simp, fun a ha b hb e => ?_⟩
    rw [List.mem_singleton.1 hb] at e
    exact hn ((h.mem x).2 (.inr (e ▸ ha)))
  · rcases List.mem_append.1 hz with e | e
    · exact h.rg z e
    · rw [List.mem_singleton.1 e]; exact hx
/-- j of them are healed. -/
structure HealdR (n : Nat) (fl0 fl : List Nat) (D : List Nat) (j : Nat) : Prop where
  mem : ∀ x, x ∈ fl ↔ x ∈ fl0 ∨ x ∈ D.drop j
  inc : fl.Pairwise (· < ·)
theorem HealdR.zero {n : Nat} {fl0 fl D : List Nat} (h : FellR n fl0 fl D) (hi : fl.Pairwise (· < ·)) : HealdR n fl0 fl D 0 := ⟨fun x => by rw [h.mem]; rfl, hi⟩
theorem HealdR.step {n : Nat} {fl0 flN fl D : List Nat} {j : Nat} (hD : FellR n fl0 flN D) (h : HealdR n fl0 fl D j) (hj : j < D.length) : D[j] ∈ fl ∧ HealdR n fl0 (remF fl D[j]) D (j + 1) ∧ D[j] ∉ remF fl D[j] := by
  have hd : D.drop j = D[j] :: D.drop (j + 1) := List.drop_eq_getElem_cons hj
  have hno : D[j] ∉ D.drop (j + 1) := by
    have hp : (D.drop j).Nodup := hD.nd.sublist (List.drop_sublist _ _)
    rw [hd] at hp
    unfold List.Nodup at hp
    rw [List.pairwise_cons] at hp
    exact fun hm => hp.1 _ hm rfl
  refine ⟨(h.mem _).2 (.inr (by rw [hd]; exact List.mem_cons_self)), ⟨fun x => ?_, List.Pairwise.filter _ h.inc⟩, fun hm => ?_⟩
  · unfold remF
    rw [List.mem_filter, decide_eq_true_eq, h.mem, hd, List.mem_cons]
    constructor
    · rintro ⟨e | e | e, hne⟩
      · exact .inl e
      · exact absurd e hne
      · exact .inr e
    · rintro (e | e)
      · exact ⟨.inl e, fun q => hD.new D[j] (List.getElem_mem hj) (q ▸ e)⟩
      · exact ⟨.inr (.inr e), fun q => hno (q ▸ e)⟩
  · unfold remF at hm
    rw [List.mem_filter] at hm
    simp at hm
theorem HealdR.all {n : Nat} {fl0 fl D : List Nat} {j : Nat} (h : HealdR n fl0 fl D j) (h0 : fl0.Pairwise (· < ·)) (hj : D.length ≤ j) : fl = fl0 :=
  inc_uniq h.inc h0 fun x => by rw [h.mem, List.drop_eq_nil_of_le hj]; simp
/-- A failed worker is in no free block. -/
theorem not_free {n : Nat} {tk : List Bk} {fl : List Nat} {x : Nat} (hx : x ∈ fl) {b : Bk} (hb : b ∈ freeL n (opn n tk fl)) : ¬ inB b.2 b.1 x := fun hin => by
  have h := (freeL_mem.1 hb).2.2.2.1 x hin
  exact (opn_iff.1 h).2.2 hx
end Go.Proofs.Ytcdlfhheolbhaaa
