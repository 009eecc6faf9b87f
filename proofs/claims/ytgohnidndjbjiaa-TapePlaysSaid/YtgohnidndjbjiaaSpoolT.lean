/-
  gangerref18: Sync, Cut, Off, Crash.
-/
import Derived.Test.YtgohnidndjbjiaaSpoolS
namespace Go.Proofs.Ytgohnidndjbjiaa
open Go Go.RowKit Go.Lib
set_option linter.unusedVariables false

theorem refSync_no (w : World) (mb : Nat) (fv sv : Value) (room left : Int) (dim : Bool) (h : RB w mb fv sv room left dim) (hd : dim = true ∨ left = 0) :
    Calls Try.prog 42 #[.pointer (some ⟨mb, 0, none⟩)] w fun e w' => e = .returned (.int .i64 190) ∧ w' = w.setCell ⟨mb, 4, none⟩ (.bool true) := by
  have HA : Hid (Calls Try.prog 57 #[.pointer (some ⟨mb, 0, none⟩)] w fun e w' => e = .returned (.bool false) ∧ w' = w.setCell ⟨mb, 4, none⟩ (.bool true)) := by
    cases dim with
    | true => exact act_dim w mb fv sv room left h
    | false =>
      obtain rfl : left = 0 := by rcases hd with hd | hd; cases hd; exact hd
      exact act_zero w mb fv sv room h
  clear hd h
  go_enter Try.func42, Try.ntmps42
  go_wp2_with fail
  refine HA.out.mono ?_; rintro e w1 ⟨rfl, rfl⟩
  go_wp2_with fail
  go_returns
  exact ⟨rfl, rfl⟩
/-- All bytes are firm, in new memory. -/
def RSyncTo (w : World) (mb : Nat) (room left : Int) (xs : List UInt8) (e : Ending) (w' : World) : Prop :=
  e = .returned (.int .i64 0) ∧ ∃ v', RB w' mb v' (.slice none 0 0) room (tick left) false ∧ w'.ownsRow w.heap.size 5 1 v' xs.length (bts xs) ∧ Fr (fun b => b = mb) w w'
theorem refSync_ok (w : World) (mb : Nat) (fv sv : Value) (room left : Int) (K : Nat → Prop) (fs ss : List UInt8) (h : RB w mb fv sv room left false) (hf : Rd w K fv (bts fs)) (hs : Rd w K sv (bts ss)) (hK : ∀ b, K b → b ≠ mb)
    (hn : fs.length ≤ 1048576) (hm : ss.length ≤ 1048576) (hl : left ≠ 0) (hb : left ≤ 9223372036854775807) :
    Calls Try.prog 42 #[.pointer (some ⟨mb, 0, none⟩)] w (RSyncTo w mb room left (fs ++ ss)) := by
  have hF : Hid (Calls Try.prog 57 #[.pointer (some ⟨mb, 0, none⟩)] w (ActTo w mb fv sv room left)) := act_go w 0 mb _ _ room left h hl hb
  have HS := Lib.hid hs
  have HF := Lib.hid hf
  have H := Lib.hid h
  clear h hf hs hl
  go_enter Try.func42, Try.ntmps42
  go_wp2_with fail
  refine hF.out.mono ?_; rintro e w1 ⟨rfl, hs1, hf1, hz1⟩
  have HA : Hid (Calls Try.prog 45 #[.pointer (some ⟨mb, 0, none⟩)] w1 (CopyTo w1 (fs ++ ss))) :=
    all_run w1 mb fv sv room _ K fs ss hs1 (HF.out.fr hf1 fun b hb _ => hK b hb) (HS.out.fr hf1 fun b hb _ => hK b hb) hn hm
  have HS1 := Lib.hid hs1
  have HF1 := Lib.hid hf1
  have HZ1 := Lib.hid hz1
  clear hs1 hf1 hz1
  go_wp2_with fail
  refine HA.out.mono ?_; rintro e w2 ⟨v2, rfl, ho2, hb2⟩
  have HO2 := Lib.hid ho2
  have HB2 := Lib.hid hb2
  have hs2 : RB w2 mb fv sv room (tick left) false := Blk.kept HS1.out hb2
  obtain ⟨c0, c1, c2, c3, c4, f⟩ := RB.cells hs2
  have f1 := f 1
  have f0 := f 0
  have HS2 := Lib.hid hs2
  obtain ⟨A2, d2, rfl⟩ := owned_slice ho2
  generalize (fs ++ ss).length = nn at *
  clear ho2 hb2 hs2 f
  go_wp2_with fail
  go_returns
  have hF2 : Fr (fun b => b = mb) w w2 := Fr.trans (M := fun _ => False) HF1.out (fr_of_below HB2.out fun b h1 h2 => by omega) fun _ _ h => h.elim
  have hF3 := (hF2.trans (Fr.one w2 mb 0 (.slice A2 nn d2)) fun _ _ h => h).trans (Fr.one _ mb 1 (.slice none 0 0)) fun _ _ h => h
  have hB := Blk.set (Blk.set HS2.out 0 (.slice A2 nn d2)) 1 (.slice none 0 0)
  have hN : ∀ g, (Value.slice A2 nn d2).ownBlock = some g → ¬ g = mb := fun g hg e => by
    have := owns_base HO2.out hg
    have := Blk.lt HS1.out
    omega
  have hO : w2.ownsRow w.heap.size 5 1 (.slice A2 nn d2) nn (bts (fs ++ ss)) := by rw [← HZ1.out]; exact HO2.out
  have hl : nn = (fs ++ ss).length := by have := hO.1; simpa using this.symm
  have hO3 := owns_fr (owns_fr hO (Fr.one w2 mb 0 (.slice A2 nn d2)) hN) (Fr.one _ mb 1 (.slice none 0 0)) hN
  refine ⟨rfl, .slice A2 nn d2, hB, ?_, hF3⟩
  rw [← hl]; exact hO3

theorem refCut_dim (w : World) (mb : Nat) (fv sv : Value) (room left k : Int) (h : RB w mb fv sv room left true) :
    Calls Try.prog 53 #[.pointer (some ⟨mb, 0, none⟩), .int .i64 k] w fun e w' => e = .returned (.int .i64 190) ∧ w' = w := by
  obtain ⟨c0, c1, c2, c3, c4, f⟩ := h.cells
  clear f h
  go_enter Try.func53, Try.ntmps53
  go_wp2_with fail
  go_returns
  exact ⟨rfl, rfl⟩
theorem refCut_arg (w : World) (mb : Nat) (fv sv : Value) (room left k : Int) (xs : List UInt8) (h : RB w mb fv sv room left false) (hA : Calls Try.prog 45 #[.pointer (some ⟨mb, 0, none⟩)] w (CopyTo w xs))
    (hk : k < 0 ∨ (xs.length : Int) < k) :
    Calls Try.prog 53 #[.pointer (some ⟨mb, 0, none⟩), .int .i64 k] w fun e w' => e = .returned (.int .i64 2) ∧ Below w.heap.size w w' := by
  obtain ⟨c0, c1, c2, c3, c4, f⟩ := h.cells
  have HA := Lib.hid hA
  clear f h hA
  by_cases h0 : k < 0
  · clear hk
    go_enter Try.func53, Try.ntmps53
    go_wp2_with fail
    refine HA.out.mono ?_; rintro e w2 ⟨v2, rfl, ho2, hb2⟩
    have HB2 := Lib.hid hb2
    obtain ⟨A2, d2, rfl⟩ := owned_slice ho2
    clear ho2 hb2
    go_wp2_with fail
    go_returns
    exact ⟨rfl, HB2.out⟩
  · have h1 : (xs.length : Int) < k := by omega
    clear hk
    go_enter Try.func53, Try.ntmps53
    go_wp2_with fail
    refine HA.out.mono ?_; rintro e w2 ⟨v2, rfl, ho2, hb2⟩
    have HB2 := Lib.hid hb2
    obtain ⟨A2, d2, rfl⟩ := owned_slice ho2
    clear ho2 hb2
    go_wp2_with fail
    go_returns
    exact ⟨rfl, HB2.out⟩
theorem refCut_lost (w : World) (mb : Nat) (fv sv : Value) (room k : Int) (xs : List UInt8) (h : RB w mb fv sv room 0 false) (hA : Calls Try.prog 45 #[.pointer (some ⟨mb, 0, none⟩)] w (CopyTo w xs))
    (h0 : ¬ k < 0) (h1 : ¬ (xs.length : Int) < k) :
    Calls Try.prog 53 #[.pointer (some ⟨mb, 0, none⟩), .int .i64 k] w fun e w' => e = .returned (.int .i64 190) ∧ ∃ w1, Below w.heap.size w w1 ∧ w' = w1.setCell ⟨mb, 4, none⟩ (.bool true) := by
  obtain ⟨c0, c1, c2, c3, c4, f⟩ := h.cells
  have HA := Lib.hid hA
  have H := Lib.hid h
  clear f h hA
  go_enter Try.func53, Try.ntmps53
  go_wp2_with fail
  refine HA.out.mono ?_; rintro e w2 ⟨v2, rfl, ho2, hb2⟩
  have HB2 := Lib.hid hb2
  obtain ⟨A2, d2, rfl⟩ := owned_slice ho2
  clear ho2 hb2
  go_wp2_with fail
  refine (act_zero _ mb _ _ room (Blk.kept H.out HB2.out)).mono ?_; rintro e w1 ⟨rfl, rfl⟩
  go_wp2_with fail
  go_returns
  exact ⟨rfl, _, HB2.out, rfl⟩
theorem refCut_ok (w : World) (mb : Nat) (fv sv : Value) (room left : Int) (k : Nat) (xs : List UInt8) (h : RB w mb fv sv room left false) (hA : Calls Try.prog 45 #[.pointer (some ⟨mb, 0, none⟩)] w (CopyTo w xs))
    (hk : k ≤ xs.length) (hl : left ≠ 0) (hb : left ≤ 9223372036854775807) :
    Calls Try.prog 53 #[.pointer (some ⟨mb, 0, none⟩), .int .i64 k] w fun e w' => e = .returned (.int .i64 0) ∧ ∃ A c v, RB w' mb (.slice A k c) (.slice none 0 0) room (tick left) false ∧ k ≤ c ∧
      v = .slice A xs.length c ∧ w'.ownsRow w.heap.size 5 1 v xs.length (bts xs) ∧ Fr (fun b => b = mb) w w' := by
  obtain ⟨c0, c1, c2, c3, c4, f⟩ := h.cells
  have HA := Lib.hid hA
  have H := Lib.hid h
  have HL := Lib.hid hl
  have h0 : ¬ (k : Int) < 0 := by omega
  have h1 : ¬ (xs.length : Int) < k := by omega
  have h1' : decide (xs.length < k) = false := decide_eq_false (by omega)
  clear f h hA hl
  go_enter Try.func53, Try.ntmps53
  go_wp2_with fail
  refine HA.out.mono ?_; rintro e w2 ⟨v2, rfl, ho2, hb2⟩
  have HB2 := Lib.hid hb2
  have HO2 := Lib.hid ho2
  obtain ⟨A2, d2, rfl, hd2, hm2⟩ := owned_form ho2
  unfold maxLen at hm2
  have hF : Hid (Calls Try.prog 57 #[.pointer (some ⟨mb, 0, none⟩)] w2 (ActTo w2 mb fv sv room left)) := act_go w2 0 mb _ _ room left (Blk.kept H.out hb2) HL.out hb
  have hkd : k ≤ d2 := by omega
  clear ho2 hb2
  go_wp2_with fail
  refine hF.out.mono ?_; rintro e w3 ⟨rfl, hs3, hf3, hz3⟩
  clear c0 c1 c2 c3 c4
  obtain ⟨c0, c1, c2, c3, c4, f⟩ := RB.cells hs3
  have f1 := f 1
  have f0 := f 0
  have HS3 := Lib.hid hs3
  have HF3 := Lib.hid hf3
  clear hs3 hf3 hz3 f
  go_wp2_with fail
  go_returns
  have hF2 : Fr (fun b => b = mb) w w3 := Fr.trans (N := fun b => b = mb) (fr_of_below HB2.out fun b h1 h2 => by omega) HF3.out fun _ _ h => h
  have hF5 := (hF2.trans (Fr.one w3 mb 0 (.slice A2 k d2)) fun _ _ h => h).trans (Fr.one _ mb 1 (.slice none 0 0)) fun _ _ h => h
  have hB := Blk.set (Blk.set HS3.out 0 (.slice A2 k d2)) 1 (.slice none 0 0)
  have hN : ∀ g, (Value.slice A2 xs.length d2).ownBlock = some g → ¬ g = mb := fun g hg e => by
    have := owns_base HO2.out hg
    have := Blk.lt H.out
    omega
  have hO3 := owns_fr (owns_fr (owns_fr HO2.out HF3.out hN) (Fr.one w3 mb 0 (.slice A2 k d2)) hN) (Fr.one _ mb 1 (.slice none 0 0)) hN
  exact ⟨rfl, A2, d2, _, hB, hkd, rfl, hO3, hF5⟩
theorem refOff_run (w : World) (mb : Nat) (fv sv : Value) (room left k : Int) (dim : Bool) (h : RB w mb fv sv room left dim) :
    Calls Try.prog 19 #[.pointer (some ⟨mb, 0, none⟩), .int .i64 k] w fun e w' => e = .returned (.tuple #[]) ∧ RB w' mb fv sv room (max k (-1)) dim ∧ Fr (fun b => b = mb) w w' := by
  obtain ⟨c0, c1, c2, c3, c4, f⟩ := h.cells
  have f3 := f 3
  have H := Lib.hid h
  clear f h
  by_cases h0 : k < 0
  · go_enter Try.func19, Try.ntmps19
    go_wp2_with fail
    go_returns
    have hB := Blk.set (Blk.set H.out 3 (.int .i64 k)) 3 (.int .i64 (-1))
    have hF := (Fr.one w mb 3 (.int .i64 k)).trans (Fr.one _ mb 3 (.int .i64 (-1))) fun _ _ h => h
    have e : max k (-1) = -1 := by omega
    rw [e]
    exact ⟨rfl, hB, hF⟩
  · go_enter Try.func19, Try.ntmps19
    go_wp2_with fail
    go_returns
    have hB := Blk.set H.out 3 (.int .i64 k)
    have e : max k (-1) = k := by omega
    rw [e]
    exact ⟨rfl, hB, Fr.one w mb 3 _⟩
end Go.Proofs.Ytgohnidndjbjiaa
