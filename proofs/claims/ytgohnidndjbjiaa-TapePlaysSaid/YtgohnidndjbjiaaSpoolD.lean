/-
  Layer 18: Sync, Cut, Off, Crash, Len, Sure, On at any state.
-/
import Derived.Test.YtgohnidndjbjiaaSpoolC
namespace Go.Proofs.Ytgohnidndjbjiaa
open Go Go.RowKit Go.Lib
set_option linter.unusedVariables false

theorem keep_int (w : World) (sb : Nat) (room : Int) (A : Option Addr) (len c n : Nat) (v sure left : Int) (off : Bool) (h : SB w sb room (.slice A len c) sure left off) (hv : v = n) (hn : n ≤ c) (hc : c ≤ maxLen) :
    Calls Try.prog 44 #[.pointer (some ⟨sb, 0, none⟩), .int .i64 v] w
      fun e w' => e = .returned (.tuple #[]) ∧ w' = (w.setCell ⟨sb, 1, none⟩ (.slice A n n)).setCell ⟨sb, 2, none⟩ (.int .i64 n) := by
  subst hv; exact keep_any w sb room A len c n sure left off h hn hc
theorem sync_off (w : World) (sb : Nat) (room : Int) (dv : Value) (sure left : Int) (h : SB w sb room dv sure left true) :
    Calls Try.prog 30 #[.pointer (some ⟨sb, 0, none⟩)] w fun e w' => e = .returned (.int .i64 190) ∧ w' = w := by
  obtain ⟨c0, c1, c2, c3, c4, f⟩ := h.cells
  clear f h
  go_enter Try.func30, Try.ntmps30
  go_wp2_with fail
  go_returns
  exact ⟨rfl, rfl⟩
theorem sync_lost (w : World) (sb : Nat) (room : Int) (dv : Value) (sure : Int) (h : SB w sb room dv sure 0 false) :
    Calls Try.prog 30 #[.pointer (some ⟨sb, 0, none⟩)] w fun e w' => e = .returned (.int .i64 190) ∧ w' = w.setCell ⟨sb, 4, none⟩ (.bool true) := by
  obtain ⟨c0, c1, c2, c3, c4, f⟩ := h.cells
  have H := Lib.hid h
  clear f h
  go_enter Try.func30, Try.ntmps30
  go_wp2_with fail
  refine (fails_zero _ sb room _ sure H.out).mono ?_; rintro e w1 ⟨rfl, rfl⟩
  go_wp2_with fail
  go_returns
  exact ⟨rfl, rfl⟩
def StepTo (w : World) (sb : Nat) (room : Int) (dv : Value) (sure left : Int) (e : Ending) (w' : World) : Prop :=
  e = .returned (.int .i64 0) ∧ SB w' sb room dv sure (tick left) false ∧ Fr (fun b => b = sb) w w'
theorem sync_ok (w : World) (sb : Nat) (room : Int) (A : Option Addr) (n c : Nat) (sure left : Int) (h : SB w sb room (.slice A n c) sure left false) (hl : left ≠ 0) (hb : left ≤ 9223372036854775807) :
    Calls Try.prog 30 #[.pointer (some ⟨sb, 0, none⟩)] w (StepTo w sb room (.slice A n c) n left) := by
  obtain ⟨c0, c1, c2, c3, c4, f⟩ := h.cells
  have hF : Hid (Calls Try.prog 52 #[.pointer (some ⟨sb, 0, none⟩)] w (FailsTo w sb room (.slice A n c) sure left)) := fails_go w sb room _ sure left h hl hb
  clear f h hl hb
  go_enter Try.func30, Try.ntmps30
  go_wp2_with fail
  refine hF.out.mono ?_; rintro e w1 ⟨rfl, hs1, hf1, hz1⟩
  clear c0 c1 c2 c3 c4
  obtain ⟨c0, c1, c2, c3, c4, f⟩ := SB.cells hs1
  have f2 := f 2
  have HS1 := Lib.hid hs1
  have HF1 := Lib.hid hf1
  clear f hs1 hf1 hz1
  go_wp2_with fail
  go_returns
  have hF3 : Fr (fun b => b = sb) w (w1.setCell ⟨sb, 2, none⟩ (.int .i64 n)) := HF1.out.trans (Fr.one w1 sb 2 _) fun _ _ h => h
  have hB := Blk.set HS1.out 2 (.int .i64 n)
  exact ⟨rfl, hB, hF3⟩

theorem cut_off (w : World) (sb : Nat) (room : Int) (dv : Value) (sure left k : Int) (h : SB w sb room dv sure left true) :
    Calls Try.prog 50 #[.pointer (some ⟨sb, 0, none⟩), .int .i64 k] w fun e w' => e = .returned (.int .i64 190) ∧ w' = w := by
  obtain ⟨c0, c1, c2, c3, c4, f⟩ := h.cells
  clear f h
  go_enter Try.func50, Try.ntmps50
  go_wp2_with fail
  go_returns
  exact ⟨rfl, rfl⟩
theorem cut_arg (w : World) (sb : Nat) (room : Int) (A : Option Addr) (n c : Nat) (sure left k : Int) (h : SB w sb room (.slice A n c) sure left false) (hk : k < 0 ∨ (n : Int) < k) :
    Calls Try.prog 50 #[.pointer (some ⟨sb, 0, none⟩), .int .i64 k] w fun e w' => e = .returned (.int .i64 2) ∧ w' = w := by
  obtain ⟨c0, c1, c2, c3, c4, f⟩ := h.cells
  clear f h
  by_cases h0 : k < 0
  · clear hk
    go_enter Try.func50, Try.ntmps50
    go_wp2_with fail
    go_returns
    exact ⟨rfl, rfl⟩
  · have h1 : (n : Int) < k := by omega
    clear hk
    go_enter Try.func50, Try.ntmps50
    go_wp2_with fail
    go_returns
    exact ⟨rfl, rfl⟩
theorem cut_lost (w : World) (sb : Nat) (room : Int) (A : Option Addr) (n c : Nat) (sure k : Int) (h : SB w sb room (.slice A n c) sure 0 false) (h0 : ¬ k < 0) (h1 : ¬ (n : Int) < k) :
    Calls Try.prog 50 #[.pointer (some ⟨sb, 0, none⟩), .int .i64 k] w fun e w' => e = .returned (.int .i64 190) ∧ w' = w.setCell ⟨sb, 4, none⟩ (.bool true) := by
  obtain ⟨c0, c1, c2, c3, c4, f⟩ := h.cells
  have H := Lib.hid h
  clear f h
  go_enter Try.func50, Try.ntmps50
  go_wp2_with fail
  refine (fails_zero _ sb room _ sure H.out).mono ?_; rintro e w1 ⟨rfl, rfl⟩
  go_wp2_with fail
  go_returns
  exact ⟨rfl, rfl⟩
theorem cut_ok (w : World) (sb : Nat) (room : Int) (A : Option Addr) (n c k : Nat) (sure left : Int) (h : SB w sb room (.slice A n c) sure left false) (hk : k ≤ n) (hn : n ≤ c) (hc : c ≤ maxLen) (hl : left ≠ 0) (hb : left ≤ 9223372036854775807) :
    Calls Try.prog 50 #[.pointer (some ⟨sb, 0, none⟩), .int .i64 k] w (StepTo w sb room (.slice A k k) k left) := by
  obtain ⟨c0, c1, c2, c3, c4, f⟩ := h.cells
  have hF : Hid (Calls Try.prog 52 #[.pointer (some ⟨sb, 0, none⟩)] w (FailsTo w sb room (.slice A n c) sure left)) := fails_go w sb room _ sure left h hl hb
  have h0 : ¬ (k : Int) < 0 := by omega
  have h1 : ¬ (n : Int) < k := by omega
  have h1' : decide (n < k) = false := decide_eq_false (by omega)
  have hkc : k ≤ c := by omega
  clear f h hl hb
  go_enter Try.func50, Try.ntmps50
  go_wp2_with fail
  refine hF.out.mono ?_; rintro e w1 ⟨rfl, hs1, hf1, hz1⟩
  clear c0 c1 c2 c3 c4
  have HS1 := Lib.hid hs1
  have HF1 := Lib.hid hf1
  clear hs1 hf1 hz1
  go_wp2_with fail
  refine (keep_any _ sb room A n c k sure (tick left) false HS1.out hkc hc).mono ?_; rintro e w2 ⟨rfl, rfl⟩
  go_wp2_with fail
  go_returns
  have hF3 : Fr (fun b => b = sb) w ((w1.setCell ⟨sb, 1, none⟩ (.slice A k k)).setCell ⟨sb, 2, none⟩ (.int .i64 k)) := (HF1.out.trans (Fr.one w1 sb 1 _) fun _ _ h => h).trans (Fr.one _ sb 2 _) fun _ _ h => h
  have hB := Blk.set (Blk.set HS1.out 1 (.slice A k k)) 2 (.int .i64 k)
  exact ⟨rfl, hB, hF3⟩
theorem off_run (w : World) (sb : Nat) (room : Int) (dv : Value) (sure left k : Int) (off : Bool) (h : SB w sb room dv sure left off) :
    Calls Try.prog 18 #[.pointer (some ⟨sb, 0, none⟩), .int .i64 k] w fun e w' => e = .returned (.tuple #[]) ∧ w' = w.setCell ⟨sb, 3, none⟩ (.int .i64 (max k (-1))) := by
  obtain ⟨c0, c1, c2, c3, c4, f⟩ := h.cells
  have f3 := f 3
  clear f h
  go_enter Try.func18, Try.ntmps18
  go_wp2_with fail
  all_goals
    go_returns
    refine ⟨rfl, ?_⟩
    congr 2
    omega
theorem len_run (w : World) (sb : Nat) (room : Int) (A : Option Addr) (n c : Nat) (sure left : Int) (off : Bool) (h : SB w sb room (.slice A n c) sure left off) :
    Calls Try.prog 28 #[.pointer (some ⟨sb, 0, none⟩)] w fun e w' => e = .returned (.int .i64 (if off then 0 else n)) ∧ w' = w := by
  obtain ⟨c0, c1, c2, c3, c4, f⟩ := h.cells
  have HO := Lib.hid (on_any w sb room _ sure left off h)
  clear f h
  cases off
  all_goals
    go_enter Try.func28, Try.ntmps28
    go_wp2_with fail
    refine HO.out.mono ?_; rintro e w1 ⟨rfl, rfl⟩
    go_wp2_with fail
    go_returns
    exact ⟨rfl, rfl⟩
theorem crash_run (w : World) (sb : Nat) (room : Int) (A : Option Addr) (n c sure : Nat) (left k : Int) (off : Bool) (h : SB w sb room (.slice A n c) sure left off) (hs : sure ≤ n) (hn : n ≤ 1048576) (hnc : n ≤ c) (hc : c ≤ maxLen) (m : Nat) (hm : m = sure + min k.toNat (n - sure)) :
    Calls Try.prog 22 #[.pointer (some ⟨sb, 0, none⟩), .int .i64 k] w fun e w' => e = .returned (.tuple #[]) ∧ SB w' sb room (.slice A m m) m (-1) false ∧ Fr (fun b => b = sb) w w' := by
  obtain ⟨c0, c1, c2, c3, c4, f⟩ := h.cells
  have H := Lib.hid h
  have hm2 : m ≤ c := by omega
  have f4 := f 4
  have f3 := f 3
  have HM : Hid ((sure : Int) + min (max k 0) ((n : Int) - sure) = m) := by unfold Hid; omega
  clear f h hm
  go_enter Try.func22, Try.ntmps22
  go_wp2_with fail
  go_quiet (fail)
  rename_i nq
  go_wp2_with fail
  all_goals
    refine (keep_int _ sb room A n c m _ sure left off (by exact H.out) (by have := HM.out; omega) hm2 hc).mono ?_; rintro e w2 ⟨rfl, rfl⟩
    go_wp2_with fail
    go_returns
    have hF3 := (((Fr.one (w.drewN nq) sb 1 (.slice A m m)).trans (Fr.one _ sb 2 (.int .i64 m)) fun _ _ h => h).trans (Fr.one _ sb 4 (.bool false)) fun _ _ h => h).trans (Fr.one _ sb 3 (.int .i64 (-1))) fun _ _ h => h
    have hB := Blk.set (Blk.set (Blk.set (Blk.set (w := w.drewN nq) H.out 1 (.slice A m m)) 2 (.int .i64 m)) 4 (.bool false)) 3 (.int .i64 (-1))
    exact ⟨rfl, hB, ⟨hF3.os, hF3.tape, hF3.output, hF3.size, hF3.block⟩⟩
end Go.Proofs.Ytgohnidndjbjiaa
