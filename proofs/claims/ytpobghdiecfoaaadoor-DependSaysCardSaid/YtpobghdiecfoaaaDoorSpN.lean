/-
  strings.SplitN and strings.Cut at one sign: at any text.
-/
import Derived.Test.YtpobghdiecfoaaaDoorClkL
import Derived.Test.YtpobghdiecfoaaaDoorMem
import Derived.Test.YtpobghdiecfoaaaDoorShelf
import Derived.WalkKit
import Derived.Lib.Hide
namespace Go.Proofs.YtpobghdiecfoaaaDoor
open Go Go.RowKit Go.Lib
set_option linter.unusedVariables false

theorem splitN_k (c : UInt8) (k : Nat) (s : Bs) : Lib.splitK [c] 0 (min (k + 1) (s.length + 1) - 1) s = splitK c k s := by
  rw [splitK_one]
  by_cases h : k ≤ s.length
  · rw [show min (k + 1) (s.length + 1) - 1 = k by omega]
  · rw [show min (k + 1) (s.length + 1) - 1 = s.length by omega]
    exact splitK_big c _ _ s (Nat.le_refl _) (by omega)
def nthB (ws : List Bs) (i : Nat) : Bs := ws.getD i []
def wordsV (ws : List Bs) : List Value := ws.map fun l => .string ⟨l.toArray⟩
theorem cells_splitN (c : UInt8) (k : Nat) (s : ByteArray) : (Lib.splitB ⟨#[c]⟩ 0 (min (k + 1) (s.size + 1) - 1) s).map Value.string = wordsV (splitK c k s.data.toList) := by
  have h := Lib.splitB_data ⟨#[c]⟩ 0 (min (k + 1) (s.size + 1) - 1) s
  have e : (⟨#[c]⟩ : ByteArray).data.toList = [c] := rfl
  have hl : s.data.toList.length = s.size := Array.length_toList
  rw [e, ← hl, splitN_k] at h
  rw [← hl]
  unfold wordsV
  rw [← h, List.map_map]
  rfl
theorem len_splitN (c : UInt8) (k : Nat) (s : ByteArray) : (Lib.splitB ⟨#[c]⟩ 0 (min (k + 1) (s.size + 1) - 1) s).length = (splitK c k s.data.toList).length := by
  have := congrArg List.length (cells_splitN c k s)
  simpa [wordsV] using this
theorem wordsV_at {ws : List Bs} {i : Nat} (h : i < ws.length) : (wordsV ws)[i]? = some (.string ⟨(nthB ws i).toArray⟩) := by
  unfold wordsV nthB
  rw [List.getElem?_map, List.getElem?_eq_getElem h]
  simp [List.getD, List.getElem?_eq_getElem h]
theorem splitN_len (c : UInt8) : ∀ (k : Nat) (s : Bs), ∀ w ∈ splitK c k s, w.length ≤ s.length
  | 0, s, w, h => by
    have : w = s := by simpa [splitK] using h
    subst this; exact Nat.le_refl _
  | k + 1, s, w, h => by
    unfold splitK at h
    cases hc : cut1 c s with
    | none => rw [hc] at h; have : w = s := by simpa using h
              subst this; exact Nat.le_refl _
    | some p =>
      obtain ⟨a, b⟩ := p
      rw [hc] at h
      obtain ⟨hs, _⟩ := cut1_some hc
      have hl : s.length = a.length + (b.length + 1) := by rw [hs]; simp
      rcases List.mem_cons.1 h with rfl | h
      · omega
      · have := splitN_len c k b w h; omega
theorem nthB_len (c : UInt8) (k : Nat) (s : Bs) (i : Nat) : (nthB (splitK c k s) i).length ≤ s.length := by
  unfold nthB
  by_cases h : i < (splitK c k s).length
  · have e : (splitK c k s).getD i [] = (splitK c k s)[i] := by simp [List.getD, List.getElem?_eq_getElem h]
    rw [e]; exact splitN_len c k s _ (List.getElem_mem h)
  · have e : (splitK c k s).getD i [] = [] := by simp [List.getD, List.getElem?_eq_none (by omega : (splitK c k s).length ≤ i)]
    rw [e]; exact Nat.zero_le _
def cutV (c : UInt8) (s : Bs) : Bs × Bs × Bool := match cut1 c s with | none => (s, [], false) | some (a, b) => (a, b, true)
theorem cutV_len (c : UInt8) (s : Bs) : (cutV c s).1.length ≤ s.length ∧ (cutV c s).2.1.length ≤ s.length := by
  unfold cutV
  cases hc : cut1 c s with
  | none => exact ⟨Nat.le_refl _, Nat.zero_le _⟩
  | some p =>
    obtain ⟨a, b⟩ := p
    obtain ⟨hs, _⟩ := cut1_some hc
    have hl : s.length = a.length + (b.length + 1) := by rw [hs]; simp
    exact ⟨by show a.length ≤ _; omega, by show b.length ≤ _; omega⟩
theorem cut_any (s : ByteArray) (c : UInt8) (m : Int) (w : World) (hs : s.size < 4294967281) (hm : w.cell? ⟨1, 0, none⟩ = some (.int .i64 m)) :
    Calls Tryd.prog 34 #[.string s, .string ⟨#[c]⟩] w fun e w' => e = .returned (.tuple #[.string ⟨(cutV c s.data.toList).1.toArray⟩, .string ⟨(cutV c s.data.toList).2.1.toArray⟩, .bool (cutV c s.data.toList).2.2]) ∧ Below w.heap.size w w' := by
  refine (Tryd.strings_Cut s ⟨#[c]⟩ m w hs hm).mono ?_
  rintro e w' ⟨rfl, n, rfl⟩
  have e1 := cut_one c s.data.toList
  have e2 : (⟨#[c]⟩ : ByteArray).data.toList = [c] := rfl
  rw [e2, e1]
  exact ⟨rfl, below_drewN (Below.refl _ _) _⟩
end Go.Proofs.YtpobghdiecfoaaaDoor
