/-
  gangerref06.Digits: of any number that is not below nought, its decimal digits.
-/
import Derived.Test.YtlafjjdponeeeaaDoorProg
import Derived.Test.YtlafjjdponeeeaaDoorMem
import Derived.Lib.ItoaNum
import Derived.Lib.Hide
import Derived.Lib.SlBytesRow
import Derived.Deep.RegionHeld3
import Derived.Deep.RegionLaw
namespace Go.Proofs.YtlafjjdponeeeaaDoor
open Go Go.RowKit
set_option linter.unusedVariables false

/-- A number's text. -/
def digS (n : Nat) : ByteArray := ⟨(Lib.decDigits n).toArray⟩
def oneS (d : Nat) : ByteArray := ⟨#[UInt8.ofNat (48 + d)]⟩
theorem conv_one (W : World) (b d : Nat) (hd : d < 10) (h : W.cell? ⟨b, 0, none⟩ = some (.int .u8 (48 + (d : Int)))) :
    (convert 74 9 (.slice (some ⟨b, 0, none⟩) 1 1)).run Tryd.prog W = .ok (.string (oneS d)) W := by
  have e : (UInt8.ofNat (48 + d)).toNat = 48 + d := by rw [UInt8.toNat_ofNat']; omega
  refine Lib.run_convert_whole (P := Tryd.prog) W 74 5 9 Tryd.underlying74 Tryd.underlying5 Tryd.underlying9 b 0 (oneS d) (fun i hi => ?_) 1
  have hi' : i = 0 := by have : i < 1 := hi; omega
  subst hi'
  rw [h]
  show some (Value.int .u8 (48 + (d : Int))) = some (.int .u8 ((UInt8.ofNat (48 + d)).toNat : Int))
  rw [e]; push_cast; rfl
theorem dec_step {n : Nat} (h : 10 ≤ n) : digS n = digS (n / 10) ++ oneS (n % 10) := by
  apply ByteArray.ext
  apply Array.toList_inj.1
  rw [ByteArray.data_append, Array.toList_append]
  show Lib.decDigits n = Lib.decDigits (n / 10) ++ [UInt8.ofNat (48 + n % 10)]
  rw [Lib.decDigits, dif_neg (by omega)]
theorem dec_low {n : Nat} (h : n < 10) : digS n = oneS n := by unfold digS; rw [Lib.decDigits, dif_pos h]; rfl

theorem decDigits_len (k : Nat) : ∀ u : Nat, u < 10 ^ (k + 1) → (Lib.decDigits u).length ≤ k + 1 := by
  induction k with
  | zero => intro u hu; rw [Lib.decDigits, dif_pos (by simpa using hu)]; simp
  | succ k ih =>
    intro u hu
    by_cases h : u < 10
    · rw [Lib.decDigits, dif_pos h]; simp
    · have := ih (u / 10) (by rw [Nat.pow_succ] at hu; omega)
      rw [Lib.decDigits, dif_neg h]
      simp; omega
theorem digS_len (k n : Nat) (h : n < 10 ^ (k + 1)) : (digS n).size ≤ k + 1 := by
  have := decDigits_len k n h
  show (Lib.decDigits n).toArray.size ≤ k + 1
  simpa using this
theorem digS_size {n : Nat} (h : n ≤ 9223372036854775807) : (digS n).size ≤ 19 := digS_len 18 n (by omega)
theorem oneS_size (d : Nat) : (oneS d).size = 1 := rfl

end Go.Proofs.YtlafjjdponeeeaaDoor
