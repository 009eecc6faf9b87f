/-
  Layer 17: Put and gangerref17.Put alike, at any bytes.
-/
import Derived.Test.YtgohnidndjbjiaaCrateW
import Derived.Test.YtgohnidndjbjiaaCrateK
namespace Go.Proofs.Ytgohnidndjbjiaa
open Go Go.RowKit Go.Lib
set_option linter.unusedVariables false

def putR (xs : List UInt8) : List UInt8 := if xs.length ≤ 8000 then putB xs else []
def putE (xs : List UInt8) : Int := if xs.length ≤ 8000 then 0 else 3
theorem putR_len (xs : List UInt8) : (putR xs).length ≤ 8007 := by
  unfold putR
  split
  · rw [putB_len]; omega
  · simp
def PutTo (w : World) (xs : List UInt8) (e : Ending) (w' : World) : Prop :=
  ∃ v', e = .returned (.tuple #[v', .int .i64 (putE xs)]) ∧ w'.ownsRow w.heap.size 5 1 v' (putR xs).length (bts (putR xs)) ∧ Below w.heap.size w w'
theorem put_any {w : World} {K : Nat → Prop} {v : Value} {xs : List UInt8} (h : Rd w K v (bts xs)) : Calls Try.prog 38 #[v] w (PutTo w xs) := by
  by_cases hn : xs.length ≤ 8000
  · refine (put_ok h hn).mono fun e w' ⟨v', he, ho, hb⟩ => ⟨v', ?_, ?_, hb⟩
    · unfold putE; rw [if_pos hn]; exact he
    · unfold putR; rw [if_pos hn, putB_len]; exact ho
  · obtain ⟨A, c, rfl, _⟩ := rd_len h
    refine (put_long w (by omega)).mono fun e w' ⟨he, hw⟩ => ?_
    subst hw
    exact ⟨.slice none 0 0, by unfold putE; rw [if_neg hn]; exact he, by unfold putR; rw [if_neg hn]; exact World.ownsRow_nil _ _ _ _, Below.refl _ _⟩
theorem refPut_any {w : World} {K : Nat → Prop} {v : Value} {xs : List UInt8} (h : Rd w K v (bts xs)) : Calls Try.prog 40 #[v] w (PutTo w xs) := by
  by_cases hn : xs.length ≤ 8000
  · refine (refPut_ok h hn).mono fun e w' ⟨v', he, ho, hb⟩ => ⟨v', ?_, ?_, hb⟩
    · unfold putE; rw [if_pos hn]; exact he
    · unfold putR; rw [if_pos hn, putB_len]; exact ho
  · obtain ⟨A, c, rfl, _⟩ := rd_len h
    refine (refPut_long w (by omega)).mono fun e w' ⟨he, hw⟩ => ?_
    subst hw
    exact ⟨.slice none 0 0, by unfold putE; rw [if_neg hn]; exact he, by unfold putR; rw [if_neg hn]; exact World.ownsRow_nil _ _ _ _, Below.refl _ _⟩
end Go.Proofs.Ytgohnidndjbjiaa
