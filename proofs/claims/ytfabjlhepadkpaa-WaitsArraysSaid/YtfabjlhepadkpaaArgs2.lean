/-
  Arguments that are structs of plain fields, by value, opened.
-/
import Derived.Test.YtfabjlhepadkpaaArgs
import Derived.Deep.Fields
import Derived.ChangeMaps5
namespace Go.Proofs.Ytfabjlhepadkpaa
open Go.ChangeShapes Go.WideShapes Go.ChangeAt Go.RowKit Go.Deep
set_option linter.unusedVariables false

section
variable {H : Type} {enc : TypeId × Value → H} {P : Program} {W : World}
/-- A struct of one-cell fields: its cells, and how each reads. -/
theorem open_plain_struct {r : Reach} {b0 : Nat} {t : TypeId} {fs : Array Field} {v : Value} {d : DataW H} {p : List MemPlace} (hs : P.underlying t = some (.struct fs)) (hone : oneCellFields P fs = true)
    (hC : P.cellsOf t = fs.size) (hv : Value.okWide P W r b0 t v) (h : DataW.Trod enc P W 0 (fun _ => true) true t v d p) :
    ∃ cs : Array Value, v = .agg cs ∧ cs.size = fs.size ∧ ∀ (j : Nat) (f : Field), fs[j]? = some f → ∃ (c : Value) (y : DataW H × List MemPlace) (n : Nat), cs[j]? = some c ∧ DataW.trod enc P W 0 (fun _ => true) true n f.type [c] = some y := by
  obtain ⟨cs, rfl, hsz⟩ := okWide_struct hs hv
  rw [hC] at hsz
  obtain ⟨fuel, hf⟩ := h
  obtain ⟨xs, n, _, _, _, hlen, hg⟩ := DataW.trod_struct hs hf
  refine ⟨cs, rfl, hsz, fun j f hj => ?_⟩
  have hlt : j < fs.size := (Array.getElem?_eq_some_iff.1 hj).1
  obtain ⟨ho, hk⟩ := hone_of hone j f hj
  have := hg j f hj
  rw [ho, hk] at this
  have hcs : (Value.agg cs).cells.toList = cs.toList := rfl
  have e : ((Value.agg cs).cells.toList.drop j).take 1 = [cs[j]'(by omega)] := by
    rw [hcs, List.drop_eq_getElem_cons (by simpa using (by omega : j < cs.size))]
    simp
  rw [e, List.getElem?_eq_getElem (by omega)] at this
  exact ⟨cs[j]'(by omega), _, n, by simp [Array.getElem?_eq_getElem (show j < cs.size by omega)], this⟩
theorem field_int {t : TypeId} {k : IntKind} {n : Nat} {c : Value} {y : DataW H × List MemPlace} (ht : P.underlying t = some (.int k)) (h : DataW.trod enc P W 0 (fun _ => true) true n t [c] = some y) :
    ∃ m, c = .int k m ∧ (Lit.int k m).wf = true := by
  obtain ⟨m, hc, _, hw⟩ := DataW.trod_int ht h
  exact ⟨m, by simpa using hc, hw⟩
theorem field_bool {t : TypeId} {n : Nat} {c : Value} {y : DataW H × List MemPlace} (ht : P.underlying t = some .bool) (h : DataW.trod enc P W 0 (fun _ => true) true n t [c] = some y) :
    ∃ b, c = .bool b := by
  obtain ⟨b, hc, _⟩ := DataW.trod_bool ht h
  exact ⟨b, by simpa using hc⟩
theorem field_string {t : TypeId} {n : Nat} {c : Value} {y : DataW H × List MemPlace} (ht : P.underlying t = some .string) (h : DataW.trod enc P W 0 (fun _ => true) true n t [c] = some y) :
    ∃ s : ByteArray, c = .string s ∧ s.size ≤ maxLen := by
  obtain ⟨s, hc, _, hw⟩ := DataW.trod_string ht h
  exact ⟨s, by simpa using hc, hw⟩
theorem arr_of (cs : Array Value) (l : List Value) (h : cs.size = l.length) (hj : ∀ (j : Nat) (hj : j < l.length), cs[j]? = some (l[j]'hj)) : cs = l.toArray := by
  apply Array.ext_getElem?
  intro j
  by_cases h' : j < l.length
  · rw [hj j h']; simp [h']
  · rw [Array.getElem?_eq_none (by omega), Array.getElem?_eq_none (by simpa using h')]
theorem open_string_arg {r : Reach} {b0 : Nat} {t : TypeId} {v : Value} {d : DataW H} {p : List MemPlace} (ht : P.underlying t = some .string) (hv : Value.okWide P W r b0 t v)
    (h : DataW.Trod enc P W 0 (fun _ => true) true t v d p) : ∃ s : ByteArray, v = .string s ∧ s.size ≤ maxLen := by
  obtain ⟨s, rfl, _, _, hs⟩ := Go.ChangeMaps.open_string ht hv h
  exact ⟨s, rfl, hs⟩
end
end Go.Proofs.Ytfabjlhepadkpaa
