/-
  What gangerlaw08.DependStays does with its row: plainly.
-/
import Derived.Test.YtpobghdiecfoaaaDoorDeW
import Derived.Test.YtpobghdiecfoaaaDoorDeKZ
import Derived.Test.YtpobghdiecfoaaaDoorDeCp
namespace Go.Proofs.YtpobghdiecfoaaaDoor
open Go Go.RowKit Go.Lib
set_option linter.unusedVariables false

/-- How a job is at first. -/
def modW (h : Int) : Nat := 1 + ((IntKind.u64.wrap h) % 4).toNat
theorem modW_le (h : Int) : 1 ≤ modW h ∧ modW h ≤ 4 := by
  unfold modW
  have := Int.emod_lt_of_pos (IntKind.u64.wrap h) (show (0 : Int) < 4 by decide)
  have := Int.emod_nonneg (IntKind.u64.wrap h) (show (4 : Int) ≠ 0 by decide)
  omega
theorem modW_eq (h : Int) : (1 : Int) + (IntKind.u64.wrap h).tmod 4 = (modW h : Int) := by
  have h0 : 0 ≤ IntKind.u64.wrap h := by
    rw [show IntKind.u64.wrap h = h % 18446744073709551616 from rfl]
    exact Int.emod_nonneg _ (by decide)
  rw [Int.tmod_eq_emod_of_nonneg h0]
  unfold modW
  have := Int.emod_nonneg (IntKind.u64.wrap h) (show (4 : Int) ≠ 0 by decide)
  omega
def nowW (l : List Wh) : List Wh := l.map fun p => (p.1, (modW p.2 : Int))
theorem nowW_len (l : List Wh) : (nowW l).length = l.length := by simp [nowW]
theorem nowW_how {l : List Wh} {p : Wh} (h : p ∈ nowW l) : 1 ≤ p.2 ∧ p.2 ≤ 4 := by
  obtain ⟨q, _, rfl⟩ := List.mem_map.1 h
  have := modW_le q.2
  dsimp only; omega
theorem nowW_take (l : List Wh) {i : Nat} (h : i < l.length) : nowW (l.take (i + 1)) = nowW (l.take i) ++ [(l[i].1, (modW l[i].2 : Int))] := by
  unfold nowW; rw [List.take_add_one, List.getElem?_eq_getElem h, List.map_append]; simp
theorem flat_set : ∀ (l : List Wh) (k : Nat) (hk : k < l.length) (h' : Int), (l.flatMap whV).set (k * 2 + 1) (.int .i64 h') = (l.set k (l[k].1, h')).flatMap whV
  | p :: l, 0, _, h' => by simp [whV]
  | p :: l, k + 1, hk, h' => by
    have ih := flat_set l k (by simpa using hk) h'
    have e : (k + 1) * 2 + 1 = k * 2 + 1 + 2 := by omega
    rw [e]
    simp only [List.flatMap_cons, List.set_cons_succ, List.getElem_cons_succ]
    rw [← ih]
    simp [whV]
theorem set_how {l : List Wh} {k : Nat} {h' : Int} {x : Nat} (h : ∀ p ∈ l, 1 ≤ p.2 ∧ p.2 ≤ 4) (hh : 1 ≤ h' ∧ h' ≤ 4) : ∀ p ∈ l.set k (x, h'), 1 ≤ p.2 ∧ p.2 ≤ 4 := fun p hp => by
  rcases List.mem_or_eq_of_mem_set hp with hp | rfl
  · exact h p hp
  · exact hh
theorem flatW_get {l : List Wh} {k : Nat} (hk : k < l.length) : (l.flatMap whV)[k * 2]? = some (.int .u32 (l[k].1 : Nat)) ∧ (l.flatMap whV)[k * 2 + 1]? = some (.int .i64 l[k].2) := by
  have h0 := flatG_get whV_len l k hk 0 (by decide)
  have h1 := flatG_get whV_len l k hk 1 (by decide)
  exact ⟨h0, h1⟩
end Go.Proofs.YtpobghdiecfoaaaDoor
