/-
  gangerlaw17.known: what the chapter's examples fix holds.
-/
import Derived.Test.YtbgdhmacpgnfeaaCrateD
import Derived.Lib.SlBytesConst
import Derived.Deep.RegionHeld3
namespace Go.Proofs.Ytbgdhmacpgnfeaa
open Go Go.RowKit Go.Lib
set_option linter.unusedVariables false

theorem k_put : putB [] = [197, 0, 0, 210, 119, 97, 241] := by kernel_rfl
theorem k_sum : sumB [49, 50, 51, 52, 53, 54, 55, 56, 57] = 3808858755 := by kernel_rfl
theorem k_is : isB [197, 0, 0, 210, 119, 97, 241] = true := by kernel_rfl
theorem k_len : lenB [197, 0, 0, 210, 119, 97, 241] = 0 := by kernel_rfl
theorem k_rows : rowsB [197, 0, 0, 210, 119, 97, 241] = [[]] := by
  rw [rowsB_yes k_is, k_len]
  rw [show ([197, 0, 0, 210, 119, 97, 241] : List UInt8).drop (0 + 7) = [] from rfl, rowsB_no isB_nil]
  unfold bodyB; rw [k_len]; rfl
theorem k_err : errB [197, 0, 0, 210, 119, 97, 241] = 0 := by unfold errB; rw [k_rows]; rfl
/-- A literal of bytes, just made. -/
theorem rd_lit (w : World) (xs : List UInt8) (n : Nat) (hn : xs.length = n) (hm : n ≤ maxLen) (b : Nat) (hb : w.heap.size = b) (fr : Nat × Nat) : Rd (w.alloc (.cells (bts xs).toArray 5 fr)) (fun k => k = b) (.slice (some ⟨b, 0, none⟩) n n) (bts xs) := by
  subst hn hb
  refine ⟨_, _, by rw [bts_len], by rw [bts_len]; exact Nat.le_refl _, hm, fun _ => ⟨w.heap.size, 0, rfl, rfl, by simp, fun j u hj => ?_⟩⟩
  rw [Nat.zero_add, cell_of_row _ w.heap.size j _ _ _ (heap_alloc_new w (.cells (bts xs).toArray 5 fr))]
  simpa using hj
theorem owned_rd {w : World} {base n : Nat} {v : Value} {xs : List UInt8} (h : w.ownsRow base 5 1 v n (bts xs)) : Rd w (fun _ => True) v (bts xs) := by
  have hl := h.1
  rw [Nat.mul_one] at hl
  rw [← hl] at h
  exact Rd.of_owns h fun _ _ => trivial
set_option maxRecDepth 100000 in
theorem known17_any (w : World) : Calls Try.prog 9 #[] w fun e w' => e = .returned (.bool true) ∧ Below w.heap.size w w' := by
  have q0 : ∀ (w : World) (C : Array Value) (n c : Nat), (convert 22 22 (.slice (some ⟨w.heap.size, 0, none⟩) n c)).run Try.prog (w.alloc (.cells C 5)) = .ok (.slice (some ⟨w.heap.size, 0, none⟩) n c) (w.alloc (.cells C 5 (C.size, C.size + 1))) := fun w C n c => run_convert_bytes_const w 22 5 C n c Try.underlying22 Try.underlying5
  go_enter Try.func9, Try.ntmps9
  go_wp2_with fail
  refine (put_ok (xs := []) (Rd.nil w fun _ => True) (Nat.zero_le _)).mono ?_; rintro e w1 ⟨v1, rfl, ho1, hb1⟩
  rw [k_put] at ho1
  have R1 := Lib.hid (owned_rd ho1)
  obtain ⟨A1, d1, rfl⟩ := owned_slice ho1
  have B1 := Lib.hid hb1
  clear ho1 hb1
  go_wp2_with fail
  refine (all_any R1.out (by decide)).mono ?_; rintro e w2 ⟨v2, vs, rfl, ho2, hbd2, hb2⟩
  rw [k_rows] at hbd2 ⊢
  rw [k_err]
  have hv1 : vs.length = 1 := hbd2.len
  rw [hv1] at ho2
  obtain ⟨A2, d2, rfl⟩ := owned_slice ho2
  have R2 := Lib.hid (R1.out.kept hb2)
  have B2 := Lib.hid (B1.out.trans (hb2.mono B1.out.size))
  rw [show endL [[]] = 7 from rfl]
  have cv : ∀ (o : Obj) (dst : TypeId), Try.prog.underlying dst = some .string → (convert 22 dst (.slice A1 7 d1)).run Try.prog (w2.alloc o) = .ok (.string ⟨#[197, 0, 0, 210, 119, 97, 241]⟩) (w2.alloc o) := fun o dst h => conv_bts (R2.out.kept ((Below.refl _ w2).alloc (Nat.le_refl _) o)) dst h
  have SM : Hid (∀ fr, Calls Try.prog 11 #[.slice (some ⟨w2.heap.size, 0, none⟩) 9 9] (w2.alloc (.cells (bts [49, 50, 51, 52, 53, 54, 55, 56, 57]).toArray 5 fr)) fun e w' => e = .returned (.int .u32 3808858755) ∧ w' = w2.alloc (.cells (bts [49, 50, 51, 52, 53, 54, 55, 56, 57]).toArray 5 fr)) := fun fr => by
    have := sum_any (rd_lit w2 [49, 50, 51, 52, 53, 54, 55, 56, 57] 9 rfl (by decide) _ rfl fr) (by decide)
    rw [k_sum] at this; exact this
  clear ho2 hbd2 hb2 hv1
  go_wp2_with fail
  refine (get_out w2 8 (.inr (by decide))).mono ?_; rintro e w2' ⟨rfl, rfl⟩
  go_wp2_with fail
  refine (SM.out (9, 10)).mono ?_; rintro e w3 ⟨rfl, rfl⟩
  go_wp2_with fail
  go_returns
  exact ⟨rfl, B2.out.alloc B2.out.size _⟩
end Go.Proofs.Ytbgdhmacpgnfeaa
