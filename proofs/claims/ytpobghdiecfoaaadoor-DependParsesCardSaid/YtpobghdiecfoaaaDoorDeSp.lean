/-
  A dependency that was read, written over: the needs' row stays, each one's jobs are still the reader's own.
-/
import Derived.Test.YtpobghdiecfoaaaDoorDePp
import Derived.Test.YtpobghdiecfoaaaDoorDeCp
namespace Go.Proofs.YtpobghdiecfoaaaDoor
open Go Go.RowKit Go.Lib
set_option linter.unusedVariables false

structure SpA (w : World) (base : Nat) (v : Value) (l : List NdM) : Prop where
  row : w.ownsRow base 46 2 v l.length (l.flatMap ndV)
  jobs : ∀ p ∈ l, ∃ js : List Nat, js.length = p.2.2.length ∧ UOwn w base p.2.1 js
theorem SpA.of {w : World} {base : Nat} {v : Value} {l : List NdM} (h : NdOwn w base v l) : SpA w base v l := ⟨h.row, fun p hp => ⟨_, rfl, h.jobs p hp⟩⟩
theorem SpA.older {w w' : World} {base : Nat} {v : Value} {l : List NdM} (h : SpA w base v l) (hb : Below w.heap.size w w') : SpA w' base v l :=
  ⟨own_older h.row hb, fun p hp => by obtain ⟨js, hl, ho⟩ := h.jobs p hp; exact ⟨js, hl, own_older ho hb⟩⟩
theorem uown_set {w : World} {base : Nat} {v : Value} {js : List Nat} (h : UOwn w base v js) (g j : Nat) : ∃ ks : List Nat, ks.length = js.length ∧ UOwn (w.setCell ⟨g, j, none⟩ (.int .u32 0)) base v ks := by
  by_cases hb : v.ownBlock = some g
  · obtain ⟨a, c, rfl⟩ := own_slice h
    have ha : a = some ⟨g, 0, none⟩ := by
      obtain ⟨_, ⟨e, h0⟩ | ⟨g', cap, cur, e, _⟩⟩ := h
      · injection e with e1 _ _; rw [e1] at hb; cases hb
      · injection e with e1 _ _
        rw [e1] at hb
        obtain rfl : g' = g := by simpa [Value.ownBlock] using hb
        exact e1
    subst ha
    refine ⟨js.set j 0, by rw [List.length_set], ?_⟩
    unfold UOwn
    rw [List.length_set, uL_set]
    exact (World.ownsRow.stored h j (.int .u32 0)).1
  · exact ⟨js, rfl, own_one h (Chg.setCell (own := One g) j _ rfl) hb⟩
theorem SpA.put {w : World} {base : Nat} {v : Value} {l : List NdM} (h : SpA w base v l) {p : NdM} (hp : p ∈ l) {g : Nat} (hg : p.2.1.ownBlock = some g) (j : Nat) : SpA (w.setCell ⟨g, j, none⟩ (.int .u32 0)) base v l := by
  obtain ⟨js, _, ho⟩ := h.jobs p hp
  refine ⟨own_one h.row (Chg.setCell (own := One g) j _ rfl) fun e => blk_ne8 h.row ho (by decide) g e hg, fun q hq => ?_⟩
  obtain ⟨ks, hl, hk⟩ := h.jobs q hq
  obtain ⟨ms, hm, hu⟩ := uown_set hk g j
  exact ⟨ms, hm.trans hl, hu⟩
theorem SpA.at {w : World} {base : Nat} {a : Option Addr} {n c : Nat} {l : List NdM} (h : SpA w base (.slice a n c) l) {i : Nat} (hi : i < l.length) :
    ∃ g, a = some ⟨g, 0, none⟩ ∧ w.cell? ⟨g, i * 2 + 1, none⟩ = some l[i].2.1 := by
  obtain ⟨g, rfl⟩ : ∃ g, a = some ⟨g, 0, none⟩ := by
    obtain ⟨_, ⟨e, h0⟩ | ⟨g, cap, cur, e, _⟩⟩ := h.row
    · omega
    · injection e with e1 _ _; exact ⟨g, e1⟩
  refine ⟨g, rfl, ?_⟩
  have hn : n = l.length := by
    obtain ⟨_, _, e⟩ := own_slice h.row
    injection e with _ e _
  have h1 := World.ownsRow.cells h.row (g := g) rfl _ _ (flatG_get ndV_len l i hi 1 (by decide))
  rwa [Addr.add_lit, Nat.zero_add] at h1
/-- The jobs of a need, to be written over. -/
theorem SpA.job {w : World} {base : Nat} {v : Value} {l : List NdM} (h : SpA w base v l) {p : NdM} (hp : p ∈ l) : ∃ a c, p.2.1 = .slice a p.2.2.length c ∧ ∀ k, k < p.2.2.length → ∃ g, a = some ⟨g, 0, none⟩ ∧ p.2.1.ownBlock = some g ∧ base ≤ g ∧ g < w.heap.size ∧ (∃ x, w.cell? ⟨g, k, none⟩ = some x) ∧ w.frozen? ⟨g, k, none⟩ = false := by
  obtain ⟨js, hl, ho⟩ := h.jobs p hp
  obtain ⟨a, c, e⟩ := own_slice ho
  rw [hl] at e
  refine ⟨a, c, e, fun k hk => ?_⟩
  rw [e] at ho
  obtain ⟨g, rfl⟩ : ∃ g, a = some ⟨g, 0, none⟩ := by
    obtain ⟨_, ⟨e, h0⟩ | ⟨g, cap, cur, e, _⟩⟩ := ho
    · omega
    · injection e with e1 _ _; exact ⟨g, e1⟩
  have ho2 : w.ownsRow base 38 1 (.slice (some ⟨g, 0, none⟩) p.2.2.length c) p.2.2.length (uL js) := by
    have h2 := ho
    unfold UOwn at h2
    rw [hl] at h2
    exact h2
  obtain ⟨hx, hf, _, _⟩ := owns_put8 ho2 (show k < p.2.2.length * 1 by omega) (.int .u32 0)
  have hlt := World.ownsRow.lt ho2 g rfl
  exact ⟨g, rfl, by rw [e]; rfl, hlt.1, hlt.2, hx, hf⟩
end Go.Proofs.YtpobghdiecfoaaaDoor
