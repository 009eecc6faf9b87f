/-
  A row of the law's own beside a yard.
-/
import Derived.Test.YtcdlfhheolbhaaaYeT
import Derived.Maps.AppendAt
namespace Go.Proofs.Ytcdlfhheolbhaaa
open Go Go.RowKit Go.Lib
set_option linter.unusedVariables false

/-- A row that is not the yard's grows: the yard stays, and is apart from the row as it lies now. -/
theorem YI.apartRow {W w3 : World} {y : Nat} {own : Nat → Prop} {n : Nat} {op : Opn} {tk : List Bk} {fl : List Nat} (h : YI W y own n op tk fl) {v v1 : Value} (hg : W.grownBy w3 v.ownBlock) (hv : ∀ k, v.ownBlock = some k → ¬ own k)
    (hat : v1.ownBlock = v.ownBlock ∨ v1.ownBlock = some W.heap.size) (hlt : ∀ k, v1.ownBlock = some k → k < w3.heap.size) : YI w3 y (fun k => own k ∧ v1.ownBlock ≠ some k) n op tk fl := by
  obtain ⟨cs, q1, q2, q3⟩ := h
  have hno : ∀ k, k < W.heap.size → own k → v1.ownBlock ≠ some k := fun k hk ho e => by
    rcases hat with h1 | h1
    · rw [h1] at e; exact hv k e ho
    · rw [h1] at e; cases e; omega
  refine ⟨cs, ⟨q1.blk.grown hg (fun e => hv y e q1.bown), q1.sz, ⟨q1.bown, hno y q1.blk.lt q1.bown⟩, fun k hk => ⟨q1.new k (Nat.le_trans hg.size hk), fun e => by have := hlt k e; omega⟩, fun j j1 j2 => ?_, fun j u g j1 j2 hu hug => ?_, q1.apart⟩, q2, q3⟩
  · obtain ⟨u, m, hu, ho⟩ := q1.row j j1 j2
    refine ⟨u, m, hu, ho.kept hg ?_⟩
    cases hub : u.ownBlock with
    | none => exact .inl rfl
    | some g => exact .inr fun e => hv g e.symm (q1.ob j u g j1 j2 hu hub).1
  · obtain ⟨u', m, hu', ho⟩ := q1.row j j1 j2
    rw [hu] at hu'; cases hu'
    have h1 := (q1.ob j u g j1 j2 hu hug).1
    exact ⟨⟨h1, hno g (ho.lt g hug).2 h1⟩, (q1.ob j u g j1 j2 hu hug).2⟩
/-- The yard's calls leave a row alone that is not the yard's. -/
theorem own_chg {own : Nat → Prop} {w w' : World} {base size n : Nat} {e : TypeId} {v : Value} {xs : List Value} (h : w.ownsRow base e size v n xs) (hc : Chg own w w') (hv : ∀ k, v.ownBlock = some k → ¬ own k) : w'.ownsRow base e size v n xs := by
  refine ⟨h.1, ?_⟩
  rcases h.2 with hn | ⟨g, cap, cur, rfl, hb, hgg, rest⟩
  · exact .inl hn
  · exact .inr ⟨g, cap, cur, rfl, hb, by rw [hc.block g (Array.getElem?_eq_some_iff.1 hgg).1 (hv g rfl)]; exact hgg, rest⟩
theorem brow_chg {own : Nat → Prop} {w w' : World} {B : Nat} {v : Value} {l : List Bk} (h : BOwn w B v l) (hc : Chg own w w') (hv : ∀ k, v.ownBlock = some k → ¬ own k) : BOwn w' B v l := own_chg h hc hv
/-- Two rows and a growing one beside the yard. -/
def ownB (h0 : Nat) (va vb vc : Value) : Nat → Prop := fun k => h0 ≤ k ∧ va.ownBlock ≠ some k ∧ vb.ownBlock ≠ some k ∧ vc.ownBlock ≠ some k
theorem ownB_a {h0 : Nat} {va vb vc : Value} : ∀ k, va.ownBlock = some k → ¬ ownB h0 va vb vc k := fun k e h => h.2.1 e
theorem ownB_b {h0 : Nat} {va vb vc : Value} : ∀ k, vb.ownBlock = some k → ¬ ownB h0 va vb vc k := fun k e h => h.2.2.1 e
theorem ownB_c {h0 : Nat} {va vb vc : Value} : ∀ k, vc.ownBlock = some k → ¬ ownB h0 va vb vc k := fun k e h => h.2.2.2 e
theorem ownB_lo {h0 : Nat} {va vb vc : Value} : ∀ k, k < h0 → ¬ ownB h0 va vb vc k := fun k e h => by have := h.1; omega
/-- The yard, and two rows that were asked of it: both apart. -/
theorem YS.rows2 {w1 w3 : World} {h0 g n : Nat} {tk la lb : List Bk} {fl : List Nat} {va vb : Value} (hY : YS w1 g (fun k => h0 ≤ k) n tk fl) (hb : Below w1.heap.size w1 w3) (ha : BOwn w3 w1.heap.size va la) (hbb : BOwn w3 w1.heap.size vb lb) :
    YS w3 g (ownB h0 va vb (.slice none 0 0)) n tk fl := by
  refine ⟨hY.1, ?_⟩
  obtain ⟨cs, q1, q2, q3⟩ := hY.2
  have hin : ∀ k, k < w1.heap.size → h0 ≤ k → ownB h0 va vb (.slice none 0 0) k := fun k hk h => ⟨h, fun e => by have := (ha.lt k e).1; omega, fun e => by have := (hbb.lt k e).1; omega, fun e => by cases e⟩
  have k3 := q1.kept hb
  refine ⟨cs, ⟨k3.blk, k3.sz, hin g q1.blk.lt q1.bown, fun k hk => ⟨q1.new k (Nat.le_trans hb.size hk), fun e => by have := (ha.lt k e).2; omega, fun e => by have := (hbb.lt k e).2; omega, fun e => by cases e⟩, k3.row, fun j u b j1 j2 hu hub => ?_, k3.apart⟩, q2, q3⟩
  obtain ⟨u', m, hu', ho⟩ := q1.row j j1 j2
  rw [hu] at hu'; cases hu'
  exact ⟨hin b (ho.lt b hub).2 (q1.ob j u b j1 j2 hu hub).1, (q1.ob j u b j1 j2 hu hub).2⟩
end Go.Proofs.Ytcdlfhheolbhaaa
