/-
  strconv.FormatUint at base 10: any number below 2^64.
-/
import Derived.Test.YtpobghdiecfoaaaDoorItoa
import Derived.Lib.ItoaMem
import Derived.Handy
namespace Go.Proofs.YtpobghdiecfoaaaDoor
open Go Go.RowKit Go.Sort Go.Lib
set_option linter.unusedVariables false

set_option maxHeartbeats 6400000 in
set_option maxRecDepth 100000 in
theorem fmtU_int (u : Nat) (w : World) (hu64 : u < 18446744073709551616) (hT : TabW w) :
    Calls Tryd.prog 47 #[.int .u64 u, .int .i64 10] w fun e w' => e = .returned (.string (digS u)) ∧ Below w.heap.size w w' := by
  by_cases h : u < 100
  · have HS : Hid (∀ w, Calls Tryd.prog 63 #[.int .i64 u] w fun e w' => e = .returned (.string (digS u)) ∧ w' = w) := fun w => Tryd.internal_strconv_small u h w
    have t1 : decide (u < 100) = true := decide_eq_true h
    have t2 : decide ((u : Int) < 100) = true := decide_eq_true (by omega)
    clear hT
    go_enter Tryd.func47, Tryd.ntmps47
    go_wp2_with fail
    refine (HS.out _).mono ?_; rintro e w1 ⟨rfl, rfl⟩
    go_wp2_with fail
    go_ret
    exact ⟨rfl, Below.refl _ _⟩
  · have t1 : decide (u < 100) = false := decide_eq_false h
    have t2 : decide ((u : Int) < 100) = false := decide_eq_false (by omega)
    have hu1 : 1 ≤ u := by omega
    have hnd20 : Lib.nDigits u ≤ 20 := by have := Lib.numDigits_eq u hu1 hu64; split at this <;> omega
    have hal : Tryd.prog.arrayLen 107 = 24 := by kernel_rfl
    have hsl : ∀ W, (Instr.sliceAt 107 (.pointer (some ⟨w.heap.size, 0, none⟩)) none (some (.int .i64 (Lib.nDigits u : Int))) none).run Tryd.prog W = .ok (.slice (some ⟨w.heap.size, 0, none⟩) (Lib.nDigits u) 24) W := fun W => by
      rw [run_sliceAt_array_h W 107 ⟨w.heap.size, 0, none⟩ (by kernel_rfl) .i64 (Lib.nDigits u : Int) (by omega) (by rw [hal]; omega)]
      rw [hal]
      go_simp
    have hH0 : Holds (fun (b : UInt8) => Value.int .u8 (b.toNat : Int)) (w.alloc (.cells Lib.zeros24 107)) w.heap.size 0 (Array.replicate (Lib.nDigits u) 0) := fun j hj => by
      have hj' : j < Lib.nDigits u := by simpa using hj
      refine ⟨?_, World.frozen?_alloc_new _ _ _ _⟩
      rw [World.cell?_alloc_new, zeros24_at _ (by omega), getElem!_pos _ j hj]
      simp
    have hfmt := Tryd.internal_strconv_formatBase10 w.heap.size 0 24 u (Array.replicate (Lib.nDigits u) 0) (w.alloc (.cells Lib.zeros24 107)) hH0 (by rw [Array.size_replicate]; exact Lib.lt_pow_nDigits u) hu64 (by rw [Array.size_replicate]; omega)
    rw [Array.size_replicate] at hfmt
    have HH0 := Lib.hid hH0
    have HF := Lib.hid hfmt
    have HN : Hid (∀ w', Below w.heap.size w w' → Calls Tryd.prog 64 #[.int .u64 u] w' fun e w'' => e = .returned (.int .i64 (Lib.nDigits u)) ∧ w'' = w') := fun w' hb => Tryd.internal_strconv_numDigits u hu1 hu64 w' (hT.next hb)
    have HB := Lib.hid ((Below.refl w.heap.size w).alloc (Nat.le_refl _) (.cells Lib.zeros24 107))
    clear hH0 hal hfmt hT
    go_enter Tryd.func47, Tryd.ntmps47
    go_wp2_with fail
    refine (HN.out _ HB.out).mono ?_; rintro e w1 ⟨rfl, rfl⟩
    go_wp2_with fail
    refine HF.out.mono ?_
    rintro e w' ⟨rfl, k, v', dk, rfl, hF⟩
    have hcv : (convert 52 9 (.slice (some ⟨w.heap.size, 0, none⟩) (Lib.nDigits u) 24)).run Tryd.prog ((putRow (fun (b : UInt8) => Value.int .u8 (b.toNat : Int)) (w.alloc (.cells Lib.zeros24 107)) w.heap.size 0 dk).drewN k) = .ok (.string (digS u)) ((putRow (fun (b : UInt8) => Value.int .u8 (b.toNat : Int)) (w.alloc (.cells Lib.zeros24 107)) w.heap.size 0 dk).drewN k) := by
      have h := run_convert_bytes_back (P := Tryd.prog) ((putRow (fun (b : UInt8) => Value.int .u8 (b.toNat : Int)) (w.alloc (.cells Lib.zeros24 107)) w.heap.size 0 dk).drewN k) 52 9 5 ⟨w.heap.size, 0, none⟩ 24 (Lib.decDigits u) (by kernel_rfl) (by kernel_rfl) (by kernel_rfl) (fun j hj => by
        rw [Lib.row_is_numeral hF j hj, Lib.add_plain, World.cell?_drewN]
        exact cell?_putRow (fun (b : UInt8) => Value.int .u8 (b.toNat : Int)) _ w.heap.size 0 _ dk HH0.out (by rw [hF.size, Array.size_replicate]) j (by rw [hF.size]; rw [Lib.decDigits_length] at hj; exact hj))
      rw [Lib.decDigits_length] at h
      exact h
    obtain ⟨os, _, eo⟩ := putRow_grow_new (fun (b : UInt8) => Value.int .u8 (b.toNat : Int)) w #[.cells Lib.zeros24 107] w.heap.size 0 dk (Nat.le_refl _)
    rw [← alloc_eq_grow] at eo
    rw [eo] at hcv ⊢
    have HE : Hid (Below w.heap.size w ((grow w os).drewN k)) := below_drewN (by simpa [World.drewN_zero] using below_grow w.heap.size w (Nat.le_refl _) 0 os) k
    clear hF eo HN HF HB HH0
    generalize (grow w os).drewN k = W at *
    go_wp2_with fail
    go_ret
    exact ⟨rfl, HE.out⟩
theorem fmtU_any (u : Nat) (w : World) (hu64 : u < 18446744073709551616) (hT : TabW w) :
    Calls Tryd.prog 26 #[.int .u64 u, .int .i64 10] w fun e w' => e = .returned (.string (digS u)) ∧ Below w.heap.size w w' := by
  have H := Lib.hid (fmtU_int u w hu64 hT)
  clear hT
  go_enter Tryd.func26, Tryd.ntmps26
  go_wp2_with fail
  refine H.out.mono ?_; rintro e w1 ⟨rfl, b1⟩
  go_wp2_with fail
  go_ret
  exact ⟨rfl, b1⟩
end Go.Proofs.YtpobghdiecfoaaaDoor
