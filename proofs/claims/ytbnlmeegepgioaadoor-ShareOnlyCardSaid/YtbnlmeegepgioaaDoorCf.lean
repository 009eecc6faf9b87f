/-
  Configurations, plainly: which may be. No program is imported.
-/
import Derived.Test.YtbnlmeegepgioaaDoorNm
namespace Go.Proofs.YtbnlmeegepgioaaDoor
set_option linter.unusedVariables false

abbrev PaT := ByteArray × Int × Int × Int
abbrev ClT := ByteArray × Int × Int
abbrev AcT := ByteArray × ByteArray × Int
def inR (n lo hi : Int) : Bool := decide (lo ≤ n) && decide (n ≤ hi)
theorem inR_iff {n lo hi : Int} : inR n lo hi = true ↔ lo ≤ n ∧ n ≤ hi := by unfold inR; rw [Bool.and_eq_true, decide_eq_true_eq, decide_eq_true_eq]
def paOk (p : PaT) : Bool := nameB p.1 && inR p.2.1 0 10 && inR p.2.2.1 0 1048576 && inR p.2.2.2 1 1073741824
def clOk (p : ClT) : Bool := nameB p.1 && inR p.2.1 0 1048576 && inR p.2.2 1 1048576
def acOk (p : AcT) : Bool := nameB p.1 && inR p.2.2 1 1048576
/-- No name twice, each one right: of the first k. -/
structure RowOk {α : Type} (f : α → ByteArray) (ok : α → Bool) (l : List α) (k : Nat) : Prop where
  el : ∀ i (h : i < l.length), i < k → ok l[i] = true
  nw : ∀ i (h : i < l.length), i < k → ∀ j (hj : j < i), f (l[j]'(by omega)) ≠ f l[i]
theorem RowOk.zero {α : Type} (f : α → ByteArray) (ok : α → Bool) (l : List α) : RowOk f ok l 0 := ⟨fun i h hk => by omega, fun i h hk => by omega⟩
theorem RowOk.step {α : Type} {f : α → ByteArray} {ok : α → Bool} {l : List α} {k : Nat} (h : RowOk f ok l k) (hk : k < l.length) (h1 : ok l[k] = true) (h2 : f l[k] ∉ (l.take k).map f) : RowOk f ok l (k + 1) := by
  refine ⟨fun i hi hik => ?_, fun i hi hik j hj => ?_⟩
  · rcases (by omega : i < k ∨ i = k) with h3 | rfl
    · exact h.el i hi h3
    · exact h1
  · rcases (by omega : i < k ∨ i = k) with h3 | rfl
    · exact h.nw i hi h3 j hj
    · intro e
      refine h2 (List.mem_map.2 ⟨l[j], ?_, e⟩)
      exact List.mem_take_iff_getElem.2 ⟨j, by omega, rfl⟩
theorem RowOk.back {α : Type} {f : α → ByteArray} {ok : α → Bool} {l : List α} {n k : Nat} (h : RowOk f ok l n) (hk : k < l.length) (hn : k < n) : ok l[k] = true ∧ f l[k] ∉ (l.take k).map f := by
  refine ⟨h.el k hk hn, fun hm => ?_⟩
  obtain ⟨x, hx, e⟩ := List.mem_map.1 hm
  obtain ⟨j, hj, rfl⟩ := List.mem_take_iff_getElem.1 hx
  exact h.nw k hk hn j (by omega) e
def PartsOk (l : List PaT) : Prop := 1 ≤ l.length ∧ l.length ≤ 8 ∧ RowOk (·.1) paOk l l.length
def ClassesOk (l : List ClT) : Prop := 1 ≤ l.length ∧ l.length ≤ 8 ∧ RowOk (·.1) clOk l l.length
/-- Each one's parent stands ahead of it; the first one has none. -/
def ParOk (l : List AcT) (k : Nat) : Prop := ∀ i (h : i < l.length), i < k → (i = 0 ∧ l[i].2.1 = ByteArray.empty) ∨ (0 < i ∧ l[i].2.1 ∈ (l.take i).map (·.1))
def AccOk (l : List AcT) : Prop := 1 ≤ l.length ∧ l.length ≤ 50 ∧ RowOk (·.1) acOk l l.length ∧ ParOk l l.length
theorem ParOk.zero (l : List AcT) : ParOk l 0 := fun i h hk => by omega
theorem ParOk.step {l : List AcT} {k : Nat} (h : ParOk l k) (hk : k < l.length) (h1 : (k = 0 ∧ l[k].2.1 = ByteArray.empty) ∨ (0 < k ∧ l[k].2.1 ∈ (l.take k).map (·.1))) : ParOk l (k + 1) := fun i hi hik => by
  rcases (by omega : i < k ∨ i = k) with h3 | rfl
  · exact h i hi h3
  · exact h1
structure ConfT where
  pol : Int
  half : Int
  quan : Int
  req : Int
  wts : List Int
  parts : List PaT
  classes : List ClT
  accs : List AcT
def numsOk (c : ConfT) : Bool := inR c.pol 1 4 && inR c.half 1 4294967296 && inR c.quan 1 1073741824 && inR c.req 0 100
def wtsOk (l : List Int) : Bool := l.all fun x => inR x 0 1048576
def ConfOk (c : ConfT) : Prop := numsOk c = true ∧ wtsOk c.wts = true ∧ PartsOk c.parts ∧ ClassesOk c.classes ∧ AccOk c.accs
theorem take_names {α : Type} (f : α → ByteArray) {l : List α} {k : Nat} (h : k < l.length) : (l.take (k + 1)).map f = (l.take k).map f ++ [f l[k]] := by
  have e : l.take (k + 1) = l.take k ++ [l[k]] := by rw [List.take_add_one, List.getElem?_eq_getElem h]; rfl
  rw [e, List.map_append]; rfl
end Go.Proofs.YtbnlmeegepgioaaDoor
