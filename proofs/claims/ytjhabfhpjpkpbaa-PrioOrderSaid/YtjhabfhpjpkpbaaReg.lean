/-
  A region that draws its order, by an invariant over what has come up: whatever is listed, whatever comes up next keeps it.
-/
import Derived.OrdersHeld
import Derived.Deep.RegionHeld
namespace Go.Proofs.Ytjhabfhpjpkpbaa
open Go

/-- Each operation waits only for earlier ones. -/
def afterSmall (ops : Array Oper) : Bool := (List.range ops.size).all fun i => ((ops[i]?).map (·.after.all fun e => decide (e.on < i))).getD true

theorem mem_ready {md : Region.Mode} {ops : Array Oper} {listed : Array Bool} {i : Nat} (h : i ∈ Region.ready md ops listed) :
    i < ops.size ∧ listed.getD i true = false ∧ ∀ o, ops[i]? = some o → ∀ e ∈ o.after, Region.binds md e = true → listed.getD e.on false = true := by
  unfold Region.ready at h
  rw [List.mem_filter] at h
  obtain ⟨h1, h2⟩ := h
  rw [Bool.and_eq_true] at h2
  refine ⟨by simpa using h1, by simpa using h2.1, ?_⟩
  intro o ho e he hb
  have h3 := h2.2
  rw [ho] at h3
  simp only [Option.map_some, Option.getD_some, Array.all_eq_true'] at h3
  have h4 := h3 e he
  rw [hb] at h4
  simpa using h4

theorem all_listed {md : Region.Mode} {ops : Array Oper} {listed : Array Bool} (hsz : listed.size = ops.size) (ha : afterSmall ops = true) (hr : Region.ready md ops listed = []) :
    ∀ i, i < ops.size → listed.getD i false = true := by
  intro i
  induction i using Nat.strongRecOn with
  | ind i ih =>
    intro hi
    by_cases hl : listed.getD i false = true
    · exact hl
    · exfalso
      have hm : i ∈ Region.ready md ops listed := by
        unfold Region.ready
        rw [List.mem_filter]
        refine ⟨by simpa using hi, ?_⟩
        rw [Bool.and_eq_true]
        have hi' : i < listed.size := by omega
        refine ⟨by simp [Array.getD, hi'] at hl ⊢; exact hl, ?_⟩
        have ho : ops[i]? = some ops[i] := Array.getElem?_eq_getElem hi
        rw [ho]
        simp only [Option.map_some, Option.getD_some, Array.all_eq_true']
        intro e he
        have ha' := ha
        unfold afterSmall at ha'
        rw [List.all_eq_true] at ha'
        have h5 := ha' i (by simpa using hi)
        rw [ho] at h5
        simp only [Option.map_some, Option.getD_some, Array.all_eq_true'] at h5
        have h6 : e.on < i := of_decide_eq_true (h5 e he)
        rw [ih e.on h6 (by omega)]
        simp
      rw [hr] at hm
      cases hm

theorem count_set_true (l : List Bool) (i n : Nat) (h : l[i]? = some false) (hc : l.count false = n + 1) : (l.set i true).count false = n := by
  induction l generalizing i n with
  | nil => simp at h
  | cons x xs ih =>
    cases i with
    | zero => simp at h; subst h; simp at hc ⊢; exact hc
    | succ i =>
      simp at h
      cases x
      · simp at hc ⊢
        cases n with
        | zero => exfalso; have : false ∈ xs := List.mem_of_getElem? h; have := List.count_pos_iff.2 this; omega
        | succ n => have := ih i n h (by omega); omega
      · simp at hc ⊢; exact ih i n h hc

theorem wpAny_inv {P : Program} {md : Region.Mode} {ops : Array Oper} {Q : Exit → Act → World → Prop} {I : Array Bool → Act → World → Prop} (ha : afterSmall ops = true)
    (hs : ∀ i listed a w, listed.size = ops.size → I listed a w → i ∈ Region.ready md ops listed → wpOp P ops Q i (fun a' w' => I (listed.setIfInBounds i true) a' w') a w)
    (he : ∀ listed a w, (∀ i, i < ops.size → listed.getD i false = true) → I listed a w → Q .normal a w) :
    ∀ (fuel : Nat) (listed : Array Bool) (a : Act) (w : World), listed.size = ops.size → listed.toList.count false = fuel → I listed a w → wpAny P md ops Q fuel listed a w := by
  intro fuel
  induction fuel with
  | zero =>
    intro listed a w hsz hc hI
    have hall : ∀ i, i < ops.size → listed.getD i false = true := by
      intro i hi
      have hi' : i < listed.size := by omega
      simp only [Array.getD, hi', dite_true]
      rw [List.count_eq_zero] at hc
      cases hv : listed[i] with
      | true => simpa using hv
      | false => exact absurd (by rw [← hv]; simp) hc
    refine ⟨?_, he _ _ _ hall hI⟩
    cases hr : Region.ready md ops listed with
    | nil => rfl
    | cons i is =>
      have hm : i ∈ Region.ready md ops listed := by rw [hr]; exact List.mem_cons_self
      obtain ⟨h1, h2, _⟩ := mem_ready hm
      have hi' : i < listed.size := by omega
      have h3 := hall i h1
      simp only [Array.getD, hi', dite_true] at h2 h3
      simp_all
  | succ fuel ih =>
    intro listed a w hsz hc hI
    refine ⟨fun hr => he _ _ _ (all_listed hsz ha hr) hI, fun i hi => ?_⟩
    refine wpOp_mono (fun a' w' hI' => ih _ _ _ (by simpa using hsz) ?_ hI') (hs i listed a w hsz hI hi)
    obtain ⟨h1, h2, _⟩ := mem_ready hi
    have hi' : i < listed.size := by omega
    simp only [Array.getD, hi', dite_true] at h2
    rw [Array.toList_setIfInBounds]
    exact count_set_true _ _ _ (by simp [hi']; simpa using h2) hc

/-- THE RULE: an invariant that holds with nothing listed, that each operation that may come up keeps, and that says enough when all are listed. -/
theorem wp_region_inv {P : Program} {ops : Array Oper} {Q : Exit → Act → World → Prop} {id : Nat} {a : Act} {w : World} (I : Array Bool → Act → World → Prop)
    (hm : P.follows .mixedOrders = true) (ha : afterSmall ops = true) (h0 : I (Array.replicate ops.size false) a w.drew)
    (hs : ∀ i listed a w, listed.size = ops.size → I listed a w → i ∈ Region.ready .any ops listed → wpOp P ops Q i (fun a' w' => I (listed.setIfInBounds i true) a' w') a w)
    (he : ∀ listed a w, (∀ i, i < ops.size → listed.getD i false = true) → I listed a w → Q .normal a w) : (Code.region id ops true).wp P Q a w :=
  wp_region_any hm (wpAny_inv ha hs he ops.size _ a w.drew (by simp) (by simp) h0)

end Go.Proofs.Ytjhabfhpjpkpbaa
