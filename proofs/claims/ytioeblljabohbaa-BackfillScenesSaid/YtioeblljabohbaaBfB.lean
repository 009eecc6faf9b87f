/-
  backfill.share.
-/
import Derived.Test.YtioeblljabohbaaBfA
namespace Go.Proofs.Ytioeblljabohbaa
open Go Go.RowKit Go.Lib
set_option linter.unusedVariables false

theorem sh_bool (s s' o : Nat) : ((s : Int) / 2 ^ o == (s' : Int) / 2 ^ o) = decide (s / 2 ^ o = s' / 2 ^ o) := by
  have e : ∀ a : Nat, (a : Int) / 2 ^ o = ((a / 2 ^ o : Nat) : Int) := fun a => by simp
  rw [e, e, Bool.eq_iff_iff, beq_iff_eq, decide_eq_true_eq]
  exact Int.ofNat_inj
set_option maxRecDepth 100000 in
set_option maxHeartbeats 4000000 in
theorem share_any (s o s' o' : Nat) (w : World) (hs : s % 2 ^ o = 0) (hs' : s' % 2 ^ o' = 0) (hb : s < 4096) (hb' : s' < 4096) (ho : o ≤ 10) (ho' : o' ≤ 10) :
    Calls Try.prog 32 #[.agg #[.int .i64 (s : Nat), .int .i64 (o : Nat)], .agg #[.int .i64 (s' : Nat), .int .i64 (o' : Nat)]] w fun e w' => e = .returned (.bool (meetB s o s' o')) ∧ Below w.heap.size w w' := by
  rw [meetB_max hs hs']
  by_cases h : o < o'
  · rw [Nat.max_eq_right (Nat.le_of_lt h)]
    clear hs hs'
    have h1 : (o : Int) < (o' : Int) := by omega
    go_enter Try.func32, Try.ntmps32
    go_wp2_with fail
    go_region
    go_wp2_with fail
    go_ret
    exact ⟨by (rw [sh_bool]; rfl), (((Below.refl _ _).alloc (Nat.le_refl _) _).alloc (by simp) _).drew⟩
  · rw [Nat.max_eq_left (Nat.le_of_not_lt h)]
    clear hs hs'
    have h1 : ¬ (o : Int) < (o' : Int) := by omega
    go_enter Try.func32, Try.ntmps32
    go_wp2_with fail
    go_region
    go_wp2_with fail
    go_ret
    exact ⟨by (rw [sh_bool]; rfl), (((Below.refl _ _).alloc (Nat.le_refl _) _).alloc (by simp) _).drew⟩
end Go.Proofs.Ytioeblljabohbaa
