/-
  Rows of texts that the call owns; strings.Join of them.
-/
import Derived.Test.YtpobghdiecfoaaaDoorNums
import Derived.Test.YtpobghdiecfoaaaDoorShelf
import Derived.Test.YtpobghdiecfoaaaDoorApp
import Derived.Lib.Join
import Derived.Test.YtpobghdiecfoaaaDoorClkP
namespace Go.Proofs.YtpobghdiecfoaaaDoor
open Go Go.RowKit Go.Lib
set_option linter.unusedVariables false

def strB (l : Bs) : ByteArray := ⟨l.toArray⟩
theorem strB_size (l : Bs) : (strB l).size = l.length := by show l.toArray.size = _; simp
theorem strB_list (l : Bs) : (strB l).data.toList = l := by simp [strB]
theorem strB_app (a b : Bs) : strB a ++ strB b = strB (a ++ b) := by
  apply ByteArray.ext; apply Array.toList_inj.1; simp [strB]
theorem strB_inj {a b : Bs} (h : strB a = strB b) : a = b := by rw [← strB_list a, h, strB_list]
def sL (l : List Bs) : List Value := l.map fun x => .string (strB x)
theorem sL_len (l : List Bs) : (sL l).length = l.length := by simp [sL]
theorem sL_app (a b : List Bs) : sL (a ++ b) = sL a ++ sL b := by simp [sL]
theorem sL_one (l : List Bs) : ∀ u ∈ sL l, u.oneCell' = true := fun u hu => by
  obtain ⟨x, _, h⟩ := List.mem_map.1 hu
  rw [← h]; rfl
theorem sL_get {l : List Bs} {j : Nat} {x : Bs} (h : l[j]? = some x) : (sL l)[j]? = some (.string (strB x)) := by simp [sL, h]
def SOwn (w : World) (b : Nat) (v : Value) (l : List Bs) : Prop := w.ownsRow b 9 1 v l.length (sL l)
theorem sown_parts {w : World} {base : Nat} {v : Value} {l : List Bs} (h : SOwn w base v l) :
    (l = [] ∧ v = .slice none 0 0) ∨ ∃ g cap, v = .slice (some ⟨g, 0, none⟩) l.length cap ∧ base ≤ g ∧ g < w.heap.size ∧ l.length ≤ cap ∧ ∀ j x, l[j]? = some x → w.cell? ⟨g, j, none⟩ = some (.string (strB x)) := by
  have h' := h
  obtain ⟨_, ⟨rfl, e⟩ | ⟨g, cap, cur, rfl, hb, hg, h1, h2, h3, h4⟩⟩ := h
  · exact .inl ⟨List.length_eq_zero_iff.1 e, rfl⟩
  · refine .inr ⟨g, cap, rfl, hb, (Array.getElem?_eq_some_iff.1 hg).1, h1, fun j x hj => ?_⟩
    have h1 := World.ownsRow.cells h' (g := g) rfl j _ (sL_get hj)
    rwa [Addr.add_lit, Nat.zero_add] at h1
theorem strB_map (l : List Bs) : (l.map strB).map (fun x => x.data.toList) = l := by
  rw [List.map_map]
  conv => rhs; rw [← List.map_id l]
  exact List.map_congr_left fun x _ => strB_list x
theorem join_own {w : World} {base : Nat} {v : Value} {l : List Bs} (h : SOwn w base v l) (sep : Bs) (hN : l.length ≤ 1048576) (hlen : (Lib.join l sep).length ≤ 140737488355328) :
    Calls Tryd.prog 27 #[v, .string (strB sep)] w fun e w' => e = .returned (.string (strB (Lib.join l sep))) ∧ Below w.heap.size w w' := by
  rcases sown_parts h with ⟨rfl, rfl⟩ | ⟨g, cap, rfl, _, hg, hc, hcells⟩
  · refine (Tryd.strings_Join_none none 0 (strB sep) w).mono ?_
    rintro e w' ⟨rfl, rfl⟩
    exact ⟨rfl, Below.refl _ _⟩
  · have J := Tryd.strings_Join g 0 cap (l.map strB) (strB sep) w (fun j x hj => by
      rw [List.getElem?_map] at hj
      rw [Nat.zero_add]
      cases hx : l[j]? with
      | none => rw [hx] at hj; cases hj
      | some y => rw [hx] at hj; cases hj; exact hcells j y hx) hg (by rw [List.length_map]; omega) (by rw [List.length_map]; omega) (by rw [strB_map, strB_list]; exact hlen)
    rw [strB_map, strB_list, List.length_map] at J
    exact J
theorem Tryd.infoStr8 : (Tryd.prog.info? 9).map (fun i => (i.zero, i.size, i.bytes)) = some (some (.string ⟨#[]⟩), 1, 16) := by kernel_rfl
end Go.Proofs.YtpobghdiecfoaaaDoor
