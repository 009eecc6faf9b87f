/-
  gangerref06.Parse as a walk takes it; how long what is read is.
-/
import Derived.Test.YtdhkinknhjpjmaaDoorIxW
import Derived.Test.YtdhkinknhjpjmaaDoorIxJ
namespace Go.Proofs.YtdhkinknhjpjmaaDoor
open Go Go.RowKit Go.Lib
set_option linter.unusedVariables false
theorem listO_len (o : Out) : (listO o).length ≤ 1001 := by
  cases o with
  | ok f k =>
    show (listF f).length ≤ 1001
    unfold listF
    exact Nat.le_trans (List.length_filter_le _ _) (by simp)
  | txt p => exact Nat.zero_le _
  | arg p => exact Nat.zero_le _
theorem refParse_at (s : ByteArray) (w : World) (hs : s.size ≤ 4000000000) (l : List Nat) (m p : Nat) (q : Int) (h : mostO (parseM s.data.toList) = m ∧ posO (parseM s.data.toList) = p ∧ errO (parseM s.data.toList) = q ∧ listO (parseM s.data.toList) = l) :
    Calls Tryd.prog 12 #[.string s] w fun e w' => (∃ a c, e = .returned (.tuple #[.agg #[.slice a l.length c, .int .i64 m], .int .i64 p, .int .i64 q]) ∧ NOwn w' w.heap.size (.slice a l.length c) (ofN l)) ∧ Below w.heap.size w w' := by
  refine (refParse_any s w hs).mono ?_
  rintro e w' ⟨⟨v, rfl, ho⟩, hb⟩
  obtain ⟨h1, h2, h3, h4⟩ := h
  rw [h4] at ho
  obtain ⟨a, c, hv⟩ := own_slice ho
  rw [ofN_len] at hv
  subst hv
  rw [h1, h2, h3]
  exact ⟨⟨a, c, rfl, ho⟩, hb⟩
end Go.Proofs.YtdhkinknhjpjmaaDoor
