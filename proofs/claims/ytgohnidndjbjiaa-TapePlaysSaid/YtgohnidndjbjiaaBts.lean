/-
  Bytes, as cells. No program is imported.
-/
import Derived.Test.YtgohnidndjbjiaaMem
namespace Go.Proofs.Ytgohnidndjbjiaa
open Go Go.RowKit
set_option linter.unusedVariables false

/-- Bytes, as cells. -/
def bts (xs : List UInt8) : List Value := xs.map fun b => .int .u8 (b.toNat : Int)
@[simp] theorem bts_len (xs : List UInt8) : (bts xs).length = xs.length := by simp [bts]
theorem bts_app (xs ys : List UInt8) : bts (xs ++ ys) = bts xs ++ bts ys := by simp [bts]
theorem bts_take (xs : List UInt8) (n : Nat) : bts (xs.take n) = (bts xs).take n := by simp [bts]
theorem bts_one (xs : List UInt8) : ∀ u ∈ bts xs, u.oneCell' = true := by
  intro u hu
  obtain ⟨b, _, rfl⟩ := List.mem_map.1 hu
  rfl
theorem bts_get (xs : List UInt8) (j : Nat) (h : j < xs.length) : (bts xs)[j]? = some (.int .u8 (xs[j].toNat : Int)) := by simp [bts, h]

end Go.Proofs.Ytgohnidndjbjiaa
