/-
  digits.Plain: at any text.
-/
import Derived.Test.YtpobghdiecfoaaaDoorClkA
import Derived.Test.YtpobghdiecfoaaaDoorDgP
import Derived.Handy
namespace Go.Proofs.YtpobghdiecfoaaaDoor
open Go Go.RowKit Go.Lib
set_option linter.unusedVariables false

theorem numR_form (o : Option Nat) : ∃ (a : Int) (b : Bool), numR o = .tuple #[.int .i64 a, .bool b] := by cases o <;> exact ⟨_, _, rfl⟩
theorem plain_any (s : ByteArray) (most : Nat) (w : World) (hs : s.size ≤ 9223372036854775807) (h18 : most ≤ 18) :
    Calls Tryd.prog 56 #[.string s, .int .i64 most] w fun e w' => e = .returned (numR (plainG most s.data.toList)) ∧ Below w.heap.size w w' := by
  have hlen : s.data.toList.length = s.size := Array.length_toList
  have HN := Lib.hid (fun w => number_any s most w hs h18)
  have hg : Hid (leadB s.data.toList = false → plainG most s.data.toList = numG most s.data.toList) := fun h => by unfold plainG; rw [h]; rfl
  have hb : Hid (leadB s.data.toList = true → plainG most s.data.toList = none) := fun h => by unfold plainG; rw [h]; rfl
  by_cases h1 : 1 < s.size
  · have t1 : decide (1 < s.size) = true := decide_eq_true h1
    have t1' : decide ((s.size : Int) > 1) = true := decide_eq_true (by omega)
    have e0 : s.data.toList = (s[0]'(by omega)) :: s.data.toList.drop 1 := by
      cases h : s.data.toList with
      | nil => rw [h] at hlen; simp at hlen; omega
      | cons x r =>
        have := at_list (s := s) (pos := 0) (by omega)
        rw [h] at this
        simp at this
        rw [this]; rfl
    have hlead : leadB s.data.toList = decide ((s[0]'(by omega)).toNat = 48) := by
      rw [e0]
      have hd : (s.data.toList.drop 1) ≠ [] := by intro e; have := congrArg List.length e; simp at this; omega
      obtain ⟨y, r, hy⟩ := List.exists_cons_of_ne_nil hd
      rw [hy]
      unfold leadB
      split
      · rename_i h; simp only [List.cons.injEq] at h; rw [h.1]; rfl
      · rename_i h
        rw [eq_comm, decide_eq_false_iff_not]
        intro q
        exact h y r (by rw [show s[0] = 48 from UInt8.toNat_inj.1 q])
    have hi : Hid (s.get! 0 = s[0]'(by omega)) := by
      unfold Hid; show s.data[0]! = _
      exact getElem!_pos s.data 0 (by simpa using (by omega : 0 < s.size))
    cases hq : leadB s.data.toList
    · have hne : ¬ (s[0]'(by omega)).toNat = 48 := by rw [hq] at hlead; exact of_decide_eq_false hlead.symm
      rw [hg.out hq]
      obtain ⟨av, bv, hab⟩ := numR_form (numG most s.data.toList)
      rw [hab] at HN ⊢
      clear hab
      clear hg hb hlead hq e0
      go_enter Tryd.func56, Tryd.ntmps56
      go_wp2_with fail
      refine (HN.out _).mono ?_; rintro e w1 ⟨rfl, b1⟩
      go_wp2_with fail
      go_returns
      exact ⟨rfl, b1⟩
    · have he : (s[0]'(by omega)).toNat = 48 := by rw [hq] at hlead; exact of_decide_eq_true hlead.symm
      rw [hb.out hq]
      clear hg hb hlead hq e0 HN
      go_enter Tryd.func56, Tryd.ntmps56
      go_wp2_with fail
      go_ret2
      exact ⟨rfl, Below.refl _ _⟩
  · have t1 : decide (1 < s.size) = false := decide_eq_false h1
    have t1' : decide ((s.size : Int) > 1) = false := decide_eq_false (by omega)
    have hq : leadB s.data.toList = false := by
      unfold leadB
      split
      · rename_i h; rw [h] at hlen; simp at hlen; omega
      · rfl
    rw [hg.out hq]
    obtain ⟨av, bv, hab⟩ := numR_form (numG most s.data.toList)
    rw [hab] at HN ⊢
    clear hab
    clear hg hb hq
    go_enter Tryd.func56, Tryd.ntmps56
    go_wp2_with fail
    refine (HN.out _).mono ?_; rintro e w1 ⟨rfl, b1⟩
    go_wp2_with fail
    go_returns
    exact ⟨rfl, b1⟩
end Go.Proofs.YtpobghdiecfoaaaDoor
