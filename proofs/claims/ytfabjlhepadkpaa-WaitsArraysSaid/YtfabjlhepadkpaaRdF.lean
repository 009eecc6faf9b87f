/-
  Fields that are rows of elements of any number of cells, opened. No program is imported.
-/
import Derived.Test.YtfabjlhepadkpaaRdG
import Derived.Test.YtfabjlhepadkpaaGRw
import Derived.SizedLaws
namespace Go.Proofs.Ytfabjlhepadkpaa
open Go Go.ChangeShapes Go.WideShapes Go.ChangeAt Go.RowKit Go.Deep
set_option linter.unusedVariables false

section
variable {H : Type} {enc : TypeId × Value → H} {P : Program} {W : World} {α : Type}
theorem field_rowG (s : Nat) (encE : α → List Value) (Ok : α → Prop) (hsz : 0 < s) (hlen : ∀ x, (encE x).length = s) {t e : TypeId} (ht : P.underlying t = some (.slice e)) (hC : P.cellsOf e = s)
    (elem : ∀ (n : Nat) (cs : List Value) (x : DataW H × List MemPlace), DataW.trod enc P W 0 (fun _ => true) true n e cs = some x → ∃ k : α, cs = encE k ∧ Ok k)
    {n : Nat} {c : Value} {y : DataW H × List MemPlace} (h : DataW.trod enc P W 0 (fun _ => true) true n t [c] = some y) : ∃ xs : List α, RowG s encE W c xs ∧ xs.length ≤ maxLen ∧ ∀ x ∈ xs, Ok x := by
  have hv : ∃ a len cap, c = .slice a len cap := by
    rcases open_slice ht h with ⟨hcs, _⟩ | ⟨a, len, cap, m, q, D, Pl, hcs, _⟩
    · exact ⟨none, 0, 0, by simpa using hcs⟩
    · exact ⟨some a, len, cap, by simpa using hcs⟩
  obtain ⟨a, len, cap, rfl⟩ := hv
  exact open_rowG s encE Ok hsz hlen ht hC elem (d := y.1) (p := y.2) ⟨n, h⟩ ⟨a, len, cap, rfl⟩
theorem grow_of_rowG {w : World} {v : Value} {l : List Int} (h : RowG 1 (fun z => [.int .i64 z]) w v l) : GRow w v l := by
  rcases h with ⟨rfl, a, c, rfl⟩ | ⟨b, off, c, rfl, h0, hx⟩
  · exact .inl ⟨rfl, a, c, rfl⟩
  · refine .inr ⟨b, off, c, rfl, fun k hk => ?_⟩
    have := hx k hk 0 _ rfl
    rw [List.getD_eq_getElem?_getD, List.getElem?_eq_getElem hk]
    simpa using this
/-- A field that is a slice of integers. -/
theorem field_growG {t e : TypeId} {n : Nat} {c : Value} {y : DataW H × List MemPlace} (ht : P.underlying t = some (.slice e)) (he : P.underlying e = some (.int .i64)) (hc : P.cellsOf e = 1)
    (h : DataW.trod enc P W 0 (fun _ => true) true n t [c] = some y) : ∃ xs : List Int, GRow W c xs ∧ xs.length ≤ maxLen ∧ ∀ x ∈ xs, (Lit.int .i64 x).wf = true := by
  obtain ⟨xs, h1, h2, h3⟩ := field_rowG 1 (fun z => [.int .i64 z]) (fun z => (Lit.int .i64 z).wf = true) (by decide) (fun x => rfl) ht hc (fun n cs x hx => by
    obtain ⟨z, hz, _, hw⟩ := DataW.trod_int he hx
    exact ⟨z, by simpa using hz, hw⟩) h
  exact ⟨xs, grow_of_rowG h1, h2, h3⟩
/-- How long a row may be that came in, within the form's own reach. -/
theorem slice_reach {t e : TypeId} (ht : P.underlying t = some (.slice e)) {a : Option Addr} {len cap : Nat} {d : DataW H} {p : List MemPlace} (h : DataW.Trod enc P W 0 (fun _ => true) true t (.slice a len cap) d p) (hz : ∀ k ∈ d.weights P t, k ≤ reachBytes) : len * P.bytesOf e ≤ reachBytes := by
  obtain ⟨n, hf⟩ := h
  rcases open_slice ht hf with ⟨hcs, _⟩ | ⟨a', len', cap', m, q, D, Pl, hcs, _, hl, hm, hmm, hx, hi⟩
  · have e1 : Value.slice a len cap = .slice none 0 0 := by simpa [Value.cells] using hcs
    injection e1 with _ e2 _
    rw [e2]; simp
  · have e1 : Value.slice a len cap = .slice (some a') len' cap' := by simpa [Value.cells] using hcs
    injection e1 with _ e2 _
    subst e2
    have hw : d.weights P t = ((List.range len).map D).length.add ((List.range (m - len)).map fun j => D (len + j)).length * P.bytesOf e :: (DataW.weightsAll P e ((List.range len).map D) ++ DataW.weightsAll P e ((List.range (m - len)).map fun j => D (len + j))) := by
      have hx' := congrArg Prod.fst hx
      dsimp only at hx'
      rw [hx']; simp only [DataW.weights, ht]; rfl
    have := hz _ (by rw [hw]; exact List.mem_cons_self)
    refine Nat.le_trans (Nat.mul_le_mul_right _ ?_) this
    show len ≤ _ + _
    simp
end
end Go.Proofs.Ytfabjlhepadkpaa
