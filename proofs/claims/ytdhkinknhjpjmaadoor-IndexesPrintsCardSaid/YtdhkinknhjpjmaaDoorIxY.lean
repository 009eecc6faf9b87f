/-
  Indexes, for the laws: what has answers, and two texts joined.
-/
import Derived.Test.YtdhkinknhjpjmaaDoorIxX
import Derived.Test.YtdhkinknhjpjmaaDoorIxR
namespace Go.Proofs.YtdhkinknhjpjmaaDoor
open Go Go.RowKit Go.Lib
set_option linter.unusedVariables false

theorem mem_ofN (l : List Nat) (j : Nat) : ((j : Int) ∈ ofN l) ↔ j ∈ l := by
  unfold ofN
  constructor
  · intro h
    obtain ⟨x, hx, e⟩ := List.mem_map.1 h
    have : x = j := by exact_mod_cast e
    rw [← this]; exact hx
  · intro h
    exact List.mem_map.2 ⟨j, h, rfl⟩
theorem has_listF (f : Nat → Bool) {j : Nat} (hj : j ≤ 1000) : decide ((j : Int) ∈ ofN (listF f)) = f j := by
  rw [Bool.eq_iff_iff, decide_eq_true_eq, mem_ofN, mem_listF]
  exact ⟨fun h => h.2, fun h => ⟨hj, h⟩⟩
theorem ok_of {o : Out} (he : errO o = 0) (hm : mostO o = 0) : ∃ f, o = .ok f 0 := by
  cases o with
  | txt p => exact absurd he (by show ¬ (60 : Int) = 0; decide)
  | arg p => exact absurd he (by show ¬ (2 : Int) = 0; decide)
  | ok f k => exact ⟨f, by rw [show k = 0 from hm]⟩
/-- Two texts with a comma between. -/
theorem join_any {a b : ByteArray} {f g : Nat → Bool} (ha : parseM a.data.toList = .ok f 0) (hb : parseM b.data.toList = .ok g 0) :
    parseM (a ++ ⟨#[44]⟩ ++ b).data.toList = .ok (fun i => f i || g i) 0 := by
  rw [← parse_join ha hb]
  congr 1
  simp
theorem join_comm (f g : Nat → Bool) : listF (fun i => g i || f i) = listF (fun i => f i || g i) := by
  congr 1; funext i; exact Bool.or_comm _ _
end Go.Proofs.YtdhkinknhjpjmaaDoor
