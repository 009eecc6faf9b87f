/-
  Arguments within the form's own reach: rows of elements of any number of cells, and structs of one-cell fields, with how long each row may be. No program is imported.
-/
import Derived.Test.YtpobghdiecfoaaaDoorRwG
import Derived.ChangeSlices
import Derived.Deep.Slices
import Derived.Test.YtpobghdiecfoaaaDoorArgs2
import Derived.SizedLaws
namespace Go.Proofs.YtpobghdiecfoaaaDoor
open Go Go.ChangeShapes Go.WideShapes Go.ChangeAt Go.RowKit Go.Deep
set_option linter.unusedVariables false

section
variable {H : Type} {enc : TypeId × Value → H} {P : Program} {W : World} {α : Type}
theorem reach_all {e : TypeId} : ∀ {ds : List (DataW H)} {d : DataW H}, d ∈ ds → ∀ k ∈ d.weights P e, k ∈ DataW.weightsAll P e ds
  | d0 :: ds, d, hd, k, hk => by
    simp only [DataW.weightsAll, List.mem_append]
    rcases List.mem_cons.1 hd with h | h
    · exact .inl (h ▸ hk)
    · exact .inr (reach_all h k hk)
theorem field_rowZ (s : Nat) (encE : α → List Value) (Ok : α → Prop) (hsz : 0 < s) (hlen : ∀ x, (encE x).length = s) {t e : TypeId} (ht : P.underlying t = some (.slice e)) (hC : P.cellsOf e = s)
    (elem : ∀ (n : Nat) (cs : List Value) (x : DataW H × List MemPlace), DataW.trod enc P W 0 (fun _ => true) true n e cs = some x → (∀ k ∈ x.1.weights P e, k ≤ reachBytes) → ∃ k : α, cs = encE k ∧ Ok k)
    {n : Nat} {c : Value} {y : DataW H × List MemPlace} (h : DataW.trod enc P W 0 (fun _ => true) true n t [c] = some y) (hz : ∀ k ∈ y.1.weights P t, k ≤ reachBytes) : ∃ xs : List α, RowG s encE W c xs ∧ xs.length * P.bytesOf e ≤ reachBytes ∧ ∀ x ∈ xs, Ok x := by
  rcases open_slice ht h with ⟨hcs, _⟩ | ⟨a, len, cap, m, q, D, Pl, hcs, _, hl, hm, hmm, hx0, hi⟩
  · obtain rfl : c = .slice none 0 0 := by simpa using hcs
    exact ⟨[], .inl ⟨rfl, none, 0, rfl⟩, by simp, fun x hx => nomatch hx⟩
  · obtain rfl : c = .slice (some a) len cap := by simpa using hcs
    simp only [if_true] at hmm
    rw [hC] at hi
    have hw : y.1.weights P t = ((List.range len).map D).length.add ((List.range (m - len)).map fun j => D (len + j)).length * P.bytesOf e :: (DataW.weightsAll P e ((List.range len).map D) ++ DataW.weightsAll P e ((List.range (m - len)).map fun j => D (len + j))) := by
      rw [hx0]; simp only [DataW.weights, ht]; rfl
    have hbytes : len * P.bytesOf e ≤ reachBytes := by
      have := hz _ (by rw [hw]; exact List.mem_cons_self)
      refine Nat.le_trans (Nat.mul_le_mul_right _ ?_) this
      show len ≤ _ + _
      simp
    by_cases h0 : len = 0
    · subst h0
      exact ⟨[], .inl ⟨rfl, some a, cap, rfl⟩, by simp, fun x hx => nomatch hx⟩
    · have hk : ∀ i, i < len → ∃ k : α, Ok k ∧ ∀ j, j < s → W.cell? (a.add (i * s + j)) = (encE k)[j]? := by
        intro i hil
        obtain ⟨cs', hc, ht'⟩ := hi i (by omega)
        obtain ⟨k, rfl, hok⟩ := elem _ _ _ ht' fun k hk => hz k (by
          rw [hw]
          exact List.mem_cons_of_mem _ (List.mem_append_left _ (reach_all (List.mem_map.2 ⟨i, List.mem_range.2 hil, rfl⟩) k hk)))
        obtain ⟨_, _, hat⟩ := World.cells?_some hc
        refine ⟨k, hok, fun j hj => ?_⟩
        rw [← hat j hj, add_add]
      obtain ⟨b, off, spot⟩ := a
      have hspot : spot = none := by
        obtain ⟨k, _, hh⟩ := hk 0 (by omega)
        have h1 := hh 0 hsz
        rw [List.getElem?_eq_getElem (by rw [hlen]; exact hsz)] at h1
        simpa [Addr.add] using World.cell?_spot h1
      subst hspot
      let f : ∀ i, i < len → α := fun i h => (hk i h).choose
      let xs : List α := (List.range len).pmap f (fun i hi => by simpa using hi)
      have hxl : xs.length = len := by simp [xs]
      have hat : ∀ i (h : i < xs.length), xs[i] = f i (by rw [← hxl]; exact h) := fun i h => by simp [xs]
      refine ⟨xs, .inr ⟨b, off, cap, by rw [hxl], by omega, fun i hi j u hu => ?_⟩, by rw [hxl]; exact hbytes, fun x hx => ?_⟩
      · have hi' : i < len := by rw [← hxl]; exact hi
        rw [hat i hi] at hu
        have hj : j < s := by have := (List.getElem?_eq_some_iff.1 hu).1; rw [hlen] at this; exact this
        have hh := (hk i hi').choose_spec.2 j hj
        rw [Addr.add_lit, ← Nat.add_assoc] at hh
        rw [hh]; exact hu
      · obtain ⟨i, hi, rfl⟩ := List.getElem_of_mem hx
        rw [hat i hi]
        exact (hk i (by rw [← hxl]; exact hi)).choose_spec.1
theorem open_rowZ (s : Nat) (encE : α → List Value) (Ok : α → Prop) (hsz : 0 < s) (hlen : ∀ x, (encE x).length = s) {t e : TypeId} (ht : P.underlying t = some (.slice e)) (hC : P.cellsOf e = s)
    (elem : ∀ (n : Nat) (cs : List Value) (x : DataW H × List MemPlace), DataW.trod enc P W 0 (fun _ => true) true n e cs = some x → (∀ k ∈ x.1.weights P e, k ≤ reachBytes) → ∃ k : α, cs = encE k ∧ Ok k)
    {v : Value} {d : DataW H} {p : List MemPlace} (h : DataW.Trod enc P W 0 (fun _ => true) true t v d p) (hz : ∀ k ∈ d.weights P t, k ≤ reachBytes) (hv : ∃ a len cap, v = .slice a len cap) : ∃ xs : List α, RowG s encE W v xs ∧ xs.length * P.bytesOf e ≤ reachBytes ∧ ∀ x ∈ xs, Ok x := by
  obtain ⟨n, hf⟩ := h
  obtain ⟨a0, len0, cap0, rfl⟩ := hv
  exact field_rowZ s encE Ok hsz hlen ht hC elem (y := (d, p)) hf hz
/-- The cells of a struct among an element's. -/
theorem cells_structZ {t : TypeId} {fs : Array Field} {n : Nat} {cs : List Value} {x : DataW H × List MemPlace} (hs : P.underlying t = some (.struct fs)) (hone : oneCellFields P fs = true) (hC : P.cellsOf t = fs.size)
    (h : DataW.trod enc P W 0 (fun _ => true) true n t cs = some x) (hz : ∀ k ∈ x.1.weights P t, k ≤ reachBytes) :
    cs.length = fs.size ∧ ∀ (j : Nat) (f : Field), fs[j]? = some f → ∃ (c : Value) (y : DataW H × List MemPlace) (m : Nat), cs[j]? = some c ∧ DataW.trod enc P W 0 (fun _ => true) true m f.type [c] = some y ∧ ∀ k ∈ y.1.weights P f.type, k ≤ reachBytes := by
  obtain ⟨xs, m, _, hx, hl, hlen, hg⟩ := DataW.trod_struct hs h
  rw [hC] at hl
  refine ⟨hl, fun j f hj => ?_⟩
  have hlt : j < fs.size := (Array.getElem?_eq_some_iff.1 hj).1
  obtain ⟨ho, hk⟩ := hone_of hone j f hj
  have := hg j f hj
  rw [ho, hk] at this
  have e : (cs.drop j).take 1 = [cs[j]'(by omega)] := by
    rw [List.drop_eq_getElem_cons (by omega), List.take_succ_cons, List.take_zero]
  rw [e, List.getElem?_eq_getElem (by omega)] at this
  refine ⟨cs[j]'(by omega), _, m, List.getElem?_eq_getElem (by omega), this, fun k hk => hz k ?_⟩
  have hw : x.1.weights P t = DataW.weightsEach P (fs.toList.map (·.type)) (xs.map (·.1)) := by
    rw [hx]; simp only [DataW.weights, hs]
  rw [hw]
  refine DataW.weights_mem_each (j := j) (t := f.type) (d := (xs[j]'(by omega)).1) ?_ ?_ k hk
  · rw [List.getElem?_map, Array.getElem?_toList, hj]; rfl
  · rw [List.getElem?_map, List.getElem?_eq_getElem (by omega)]; rfl
/-- A struct of one-cell fields as an argument. -/
theorem open_structZ {r : Reach} {b0 : Nat} {t : TypeId} {fs : Array Field} {v : Value} {d : DataW H} {p : List MemPlace} (hs : P.underlying t = some (.struct fs)) (hone : oneCellFields P fs = true)
    (hC : P.cellsOf t = fs.size) (hv : Value.okWide P W r b0 t v) (hz : ∀ k ∈ d.weights P t, k ≤ reachBytes) (h : DataW.Trod enc P W 0 (fun _ => true) true t v d p) :
    ∃ cs : Array Value, v = .agg cs ∧ cs.size = fs.size ∧ ∀ (j : Nat) (f : Field), fs[j]? = some f → ∃ (c : Value) (y : DataW H × List MemPlace) (n : Nat), cs[j]? = some c ∧ DataW.trod enc P W 0 (fun _ => true) true n f.type [c] = some y ∧ ∀ k ∈ y.1.weights P f.type, k ≤ reachBytes := by
  obtain ⟨cs, rfl, hsz⟩ := okWide_struct hs hv
  rw [hC] at hsz
  obtain ⟨fuel, hf⟩ := h
  obtain ⟨hl, hg⟩ := cells_structZ (x := (d, p)) hs hone hC hf hz
  refine ⟨cs, rfl, hsz, fun j f hj => ?_⟩
  obtain ⟨c, y, n, hc, ht, hzz⟩ := hg j f hj
  have hc2 : cs.toList[j]? = some c := hc
  exact ⟨c, y, n, by simpa using hc2, ht, hzz⟩
end
end Go.Proofs.YtpobghdiecfoaaaDoor
