/-
  gangerref06.Digits: of any number that is not below nought, its decimal digits.
-/
import Derived.Test.YtpobghdiecfoaaaDoorProg
import Derived.Test.YtpobghdiecfoaaaDoorMem
import Derived.Lib.ItoaNum
import Derived.Lib.Hide
import Derived.Lib.SlBytesRow
import Derived.Deep.RegionHeld3
import Derived.Deep.RegionLaw
namespace Go.Proofs.YtpobghdiecfoaaaDoor
open Go Go.RowKit
set_option linter.unusedVariables false

/-- A number's text. -/
def digS (n : Nat) : ByteArray := ⟨(Lib.decDigits n).toArray⟩
def oneS (d : Nat) : ByteArray := ⟨#[UInt8.ofNat (48 + d)]⟩
theorem conv_one (W : World) (b d : Nat) (hd : d < 10) (h : W.cell? ⟨b, 0, none⟩ = some (.int .u8 (48 + (d : Int)))) :
    (convert 52 9 (.slice (some ⟨b, 0, none⟩) 1 1)).run Tryd.prog W = .ok (.string (oneS d)) W := by
  have e : (UInt8.ofNat (48 + d)).toNat = 48 + d := by rw [UInt8.toNat_ofNat']; omega
  refine Lib.run_convert_whole (P := Tryd.prog) W 52 5 9 Tryd.underlying52 Tryd.underlying5 Tryd.underlying9 b 0 (oneS d) (fun i hi => ?_) 1
  have hi' : i = 0 := by have : i < 1 := hi; omega
  subst hi'
  rw [h]
  show some (Value.int .u8 (48 + (d : Int))) = some (.int .u8 ((UInt8.ofNat (48 + d)).toNat : Int))
  rw [e]; push_cast; rfl
theorem dec_step {n : Nat} (h : 10 ≤ n) : digS n = digS (n / 10) ++ oneS (n % 10) := by
  apply ByteArray.ext
  apply Array.toList_inj.1
  rw [ByteArray.data_append, Array.toList_append]
  show Lib.decDigits n = Lib.decDigits (n / 10) ++ [UInt8.ofNat (48 + n % 10)]
  rw [Lib.decDigits, dif_neg (by omega)]
theorem dec_low {n : Nat} (h : n < 10) : digS n = oneS n := by unfold digS; rw [Lib.decDigits, dif_pos h]; rfl

theorem decDigits_len (k : Nat) : ∀ u : Nat, u < 10 ^ (k + 1) → (Lib.decDigits u).length ≤ k + 1 := by
  induction k with
  | zero => intro u hu; rw [Lib.decDigits, dif_pos (by simpa using hu)]; simp
  | succ k ih =>
    intro u hu
    by_cases h : u < 10
    · rw [Lib.decDigits, dif_pos h]; simp
    · have := ih (u / 10) (by rw [Nat.pow_succ] at hu; omega)
      rw [Lib.decDigits, dif_neg h]
      simp; omega
theorem digS_len (k n : Nat) (h : n < 10 ^ (k + 1)) : (digS n).size ≤ k + 1 := by
  have := decDigits_len k n h
  show (Lib.decDigits n).toArray.size ≤ k + 1
  simpa using this
theorem digS_size {n : Nat} (h : n ≤ 9223372036854775807) : (digS n).size ≤ 19 := digS_len 18 n (by omega)
theorem oneS_size (d : Nat) : (oneS d).size = 1 := rfl

theorem digits_low (n : Nat) (w : World) (hn : n < 10) :
    Calls Tryd.prog 30 #[.int .i64 n] w fun e w' => e = .returned (.string (digS n)) ∧ Below w.heap.size w w' := by
  rw [dec_low hn]
  have t : decide (n < 10) = true := decide_eq_true hn
  have t2 : decide ((n : Int) < 10) = true := decide_eq_true (by omega)
  have hcv := conv_one (w.alloc (.cells #[.int .u8 (48 + (n : Int))] 5)) w.heap.size n hn (by simp)
  have hB : Below w.heap.size w (w.alloc (.cells #[.int .u8 (48 + (n : Int))] 5)) := (Below.refl _ _).alloc (Nat.le_refl _) _
  go_enter Tryd.func30, Tryd.ntmps30
  go_wp2_with fail
  go_ret
  exact ⟨rfl, hB⟩
theorem digits_step (n : Nat) (w : World) (hn : 10 ≤ n) (hm : n ≤ 9223372036854775807)
    (ih : ∀ w, Calls Tryd.prog 30 #[.int .i64 (n / 10 : Nat)] w fun e w' => e = .returned (.string (digS (n / 10))) ∧ Below w.heap.size w w') :
    Calls Tryd.prog 30 #[.int .i64 n] w fun e w' => e = .returned (.string (digS n)) ∧ Below w.heap.size w w' := by
  rw [dec_step hn]
  have IH : Hid (∀ w, Calls Tryd.prog 30 #[.int .i64 (IntKind.i64.wrap (n / 10 : Nat))] w fun e w' => e = .returned (.string (digS (n / 10))) ∧ Below w.heap.size w w') := fun w => by
    have : IntKind.i64.wrap ((n / 10 : Nat) : Int) = (n / 10 : Nat) := by rw [IntKind.wrap_i64]; omega
    rw [this]; exact ih w
  have t : decide (n < 10) = false := decide_eq_false (by omega)
  have t2 : decide ((n : Int) < 10) = false := decide_eq_false (by omega)
  have e1 : (n : Int).tdiv 10 = (n / 10 : Nat) := by rw [Int.tdiv_eq_ediv_of_nonneg (by omega)]; omega
  have e2 : (n : Int).tmod 10 = (n % 10 : Nat) := by rw [Int.tmod_eq_emod_of_nonneg (by omega)]; omega
  have e3 : (n : Int) / 10 = (n / 10 : Nat) := by omega
  have e4 : (n : Int) % 10 = (n % 10 : Nat) := by omega
  have hd : n % 10 < 10 := by omega
  have hq : n / 10 ≤ 922337203685477580 := by omega
  have hX : IntKind.u8.wrap (IntKind.i64.wrap (48 + ((n % 10 : Nat) : Int))) = 48 + ((n % 10 : Nat) : Int) := by
    have h1 : IntKind.i64.wrap (48 + ((n % 10 : Nat) : Int)) = 48 + ((n % 10 : Nat) : Int) := by rw [IntKind.wrap_i64]; omega
    rw [h1, IntKind.wrap_u8]; omega
  have H0 : ∀ W : World, (W.alloc (.cells #[.int .u8 (IntKind.u8.wrap (IntKind.i64.wrap (48 + ((n % 10 : Nat) : Int))))] 5)).cell? ⟨W.heap.size, 0, none⟩ = some (.int .u8 (IntKind.u8.wrap (IntKind.i64.wrap (48 + ((n % 10 : Nat) : Int))))) := fun W => by simp
  have hcv : ∀ (W : World) (b : Nat), W.cell? ⟨b, 0, none⟩ = some (.int .u8 (IntKind.u8.wrap (IntKind.i64.wrap (48 + ((n % 10 : Nat) : Int))))) → (convert 52 9 (.slice (some ⟨b, 0, none⟩) 1 1)).run Tryd.prog W = .ok (.string (oneS (n % 10))) W := fun W b h => conv_one W b _ hd (by rw [h, hX])
  have hcw := fun W => hcv _ W.heap.size (H0 W)
  have hBA : ∀ W : World, Below w.heap.size w W → Below w.heap.size w (W.alloc (.cells #[.int .u8 (IntKind.u8.wrap (IntKind.i64.wrap (48 + ((n % 10 : Nat) : Int))))] 5)) := fun W h => h.alloc h.size _
  have HBA := Lib.hid hBA
  have hsz : (digS (n / 10)).size + (oneS (n % 10)).size ≤ 20 := by have := digS_size (n := n / 10) (by omega); have := oneS_size (n % 10); omega
  clear hX hBA
  generalize n % 10 = d at *
  generalize n / 10 = q at *
  clear ih
  go_enter Tryd.func30, Tryd.ntmps30
  go_wp2_with fail
  go_region_with (first | (go_at_call 30; refine (IH.out _).mono ?_; rintro e w2 ⟨rfl, b2⟩; try have hk := cell_next b2 (H0 _); try dsimp only))
  all_goals
    have hB : Below w.heap.size w w2 := by
      first
        | exact below_next b2 ((Below.refl _ _).drew)
        | exact below_next b2 (HBA.out w (Below.refl _ _)).drew
    have HB := Lib.hid hB
    clear hB
    go_wp2_with fail
    go_ret
    refine ⟨rfl, ?_⟩
    first
      | exact HB.out
      | exact HB.out.drew
      | exact HB.out.alloc HB.out.size _
      | exact (HB.out.alloc HB.out.size _).drew
/-- gangerref06.Digits: of any number that is not below nought. -/
theorem digits_any (n : Nat) : ∀ (w : World), n ≤ 9223372036854775807 →
    Calls Tryd.prog 30 #[.int .i64 n] w fun e w' => e = .returned (.string (digS n)) ∧ Below w.heap.size w w' := by
  induction n using Nat.strongRecOn with
  | _ n ih =>
    intro w hm
    by_cases h : n < 10
    · exact digits_low n w h
    · exact digits_step n w (by omega) hm fun w' => ih (n / 10) (by omega) w' (by omega)
end Go.Proofs.YtpobghdiecfoaaaDoor
