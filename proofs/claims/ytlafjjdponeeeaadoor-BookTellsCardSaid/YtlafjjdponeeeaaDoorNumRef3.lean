
/-
  Contracts of package gangerref01's functions: told, Add, Sub, Product.
-/
import Derived.Test.YtlafjjdponeeeaaDoorNumRef2
namespace Go.Proofs.YtlafjjdponeeeaaDoor
open Go.ChangeShapes Go.WideShapes Go.ChangeAt Go.RowKit
set_option linter.unusedVariables false



/-- A number with a sign lies in a block. -/
def W3 (m : Bool) (N : Nat) : Array Value := #[.bool m, .int .u64 (hiW N), .int .u64 (loW N)]
def ProdRel (W0 : World) (base : Nat) (A B : Nat) (n : Value) (wr : World) : Prop :=
  ∃ k p S : Nat, n = .int .u64 k ∧ k ≤ B ∧ p * k ≤ B ∧ S + A * p * k = A * B ∧ Below (base + 1 + 1 + 1) W0 wr ∧ Blk wr (base + 1 + 1 + 1) (W3 false S) 65 ∧ Blk wr (base + 1 + 1 + 1 + 1) (W3 false (A * p)) 65

theorem prod_step (A B p k S : Nat) (h1 : p * k ≤ B) (h2 : S + A * p * k = A * B) :
    (p + p) * (k / 2) ≤ B ∧ A * (p + p) = A * p + A * p ∧ (k % 2 = 1 → S + A * p + A * (p + p) * (k / 2) = A * B) ∧ (k % 2 = 0 → S + A * (p + p) * (k / 2) = A * B) := by
  obtain ⟨q, r, hq, hr⟩ : ∃ q r, k = 2 * q + r ∧ r < 2 := ⟨k / 2, k % 2, by omega, by omega⟩
  have e : k / 2 = q := by omega
  rw [e]
  have e1 : (p + p) * q = p * (2 * q) := by rw [← Nat.two_mul, Nat.mul_comm 2 p, Nat.mul_assoc]
  have e2 : A * (p + p) * q = A * p * (2 * q) := by rw [Nat.mul_assoc, e1, Nat.mul_assoc]
  have e3 : p * k = p * (2 * q) + p * r := by rw [hq, Nat.mul_add]
  have e4 : A * p * k = A * p * (2 * q) + A * p * r := by rw [hq, Nat.mul_add]
  refine ⟨by rw [e1]; have := Nat.zero_le (p * r); omega, Nat.mul_add _ _ _, fun h => ?_, fun h => ?_⟩
  · have : r = 1 := by omega
    subst this; rw [e2]; omega
  · have : r = 0 := by omega
    subst this; rw [e2]; omega

def neB (a b : Bool) : Bool := a != b

end Go.Proofs.YtlafjjdponeeeaaDoor
