/-
  gangerref18: Add, Sync, Cut, Off, Crash.
-/
import Derived.Test.YtgohnidndjbjiaaSpoolR
namespace Go.Proofs.Ytgohnidndjbjiaa
open Go Go.RowKit Go.Lib
set_option linter.unusedVariables false

theorem refAdd_dim (w : World) (mb : Nat) (fv sv bv : Value) (room left : Int) (h : RB w mb fv sv room left true) :
    Calls Try.prog 41 #[.pointer (some ⟨mb, 0, none⟩), bv] w fun e w' => e = .returned (.int .i64 190) ∧ w' = w := by
  obtain ⟨c0, c1, c2, c3, c4, f⟩ := h.cells
  clear f h
  go_enter Try.func41, Try.ntmps41
  go_wp2_with fail
  go_returns
  exact ⟨rfl, rfl⟩
theorem refAdd_full (w : World) (mb : Nat) (A B C : Option Addr) (n a m b k d : Nat) (room left : Int) (h : RB w mb (.slice A n a) (.slice B m b) room left false) (hn : n ≤ 1048576) (hm : m ≤ 1048576) (hk : k ≤ 1048576) (hr : 0 ≤ room) (hr2 : room ≤ 1048576)
    (hf : room < (n : Int) + m + k) :
    Calls Try.prog 41 #[.pointer (some ⟨mb, 0, none⟩), .slice C k d] w fun e w' => e = .returned (.int .i64 5) ∧ ∃ q, w' = w.drewN q := by
  obtain ⟨c0, c1, c2, c3, c4, f⟩ := h.cells
  clear f h
  go_enter Try.func41, Try.ntmps41
  go_wp2_with fail
  go_quiet (fail)
  go_wp2_with fail
  go_returns
  exact ⟨rfl, _, rfl⟩
theorem refAdd_lost (w : World) (mb : Nat) (A B C : Option Addr) (n a m b k d : Nat) (room : Int) (h : RB w mb (.slice A n a) (.slice B m b) room 0 false) (hn : n ≤ 1048576) (hm : m ≤ 1048576) (hk : k ≤ 1048576) (hr : 0 ≤ room) (hr2 : room ≤ 1048576)
    (hf : ¬ room < (n : Int) + m + k) :
    Calls Try.prog 41 #[.pointer (some ⟨mb, 0, none⟩), .slice C k d] w fun e w' => e = .returned (.int .i64 190) ∧ ∃ q, w' = (w.drewN q).setCell ⟨mb, 4, none⟩ (.bool true) := by
  obtain ⟨c0, c1, c2, c3, c4, f⟩ := h.cells
  have H := Lib.hid h
  clear f h
  go_enter Try.func41, Try.ntmps41
  go_wp2_with fail
  go_quiet (fail)
  go_wp2_with fail
  refine (act_zero _ mb _ _ room (by exact H.out)).mono ?_; rintro e w1 ⟨rfl, rfl⟩
  go_wp2_with fail
  go_returns
  exact ⟨rfl, _, rfl⟩
def RAddTo (w : World) (mb : Nat) (fv : Value) (room left : Int) (xs : List UInt8) (e : Ending) (w' : World) : Prop :=
  e = .returned (.int .i64 0) ∧ ∃ v', RB w' mb fv v' room (tick left) false ∧ w'.ownsRow w.heap.size 5 1 v' xs.length (bts xs) ∧ Fr (fun b => b = mb) w w'
theorem refAdd_ok (w : World) (mb : Nat) (A : Option Addr) (n a : Nat) (sv bv : Value) (room left : Int) (K Kb : Nat → Prop) (ss ys : List UInt8) (h : RB w mb (.slice A n a) sv room left false) (hS : Rd w K sv (bts ss)) (hY : Rd w Kb bv (bts ys))
    (hK : ∀ b, K b → b ≠ mb) (hKb : ∀ b, Kb b → b ≠ mb) (hn : n ≤ 1048576) (hm : ss.length ≤ 1048576) (hk : ys.length ≤ 1048576) (hr : 0 ≤ room) (hr2 : room ≤ 1048576)
    (hf : ¬ room < (n : Int) + ss.length + ys.length) (hl : left ≠ 0) (hb : left ≤ 9223372036854775807) :
    Calls Try.prog 41 #[.pointer (some ⟨mb, 0, none⟩), bv] w (RAddTo w mb (.slice A n a) room left (ss ++ ys)) := by
  obtain ⟨i0, hi, hz0, hz1, hz2⟩ := info_parts Try.infoB
  have HS := Lib.hid hS
  have HY := Lib.hid hY
  obtain ⟨B, b, rfl, _⟩ := rd_form hS
  obtain ⟨C, d, rfl, _⟩ := rd_form hY
  obtain ⟨c0, c1, c2, c3, c4, f⟩ := h.cells
  have H := Lib.hid h
  have hF : Hid (∀ k, Calls Try.prog 57 #[.pointer (some ⟨mb, 0, none⟩)] (w.drewN k) (ActTo w mb (.slice A n a) (.slice B ss.length b) room left)) := fun k => act_go w k mb _ _ room left h hl hb
  have HL := Lib.hid hl
  clear f h hS hY hl
  go_enter Try.func41, Try.ntmps41
  go_wp2_with fail
  go_quiet (fail)
  go_wp2_with fail
  refine (hF.out _).mono ?_; rintro e w1 ⟨rfl, hs1, hf1, hz1'⟩
  clear c0 c1 c2 c3 c4
  obtain ⟨c0, c1, c2, c3, c4, _⟩ := RB.cells hs1
  have S1 : Hid (Rd w1 K (.slice B ss.length b) (bts ss)) := HS.out.fr hf1 fun b hb _ => hK b hb
  have Y1 : Hid (Rd w1 Kb (.slice C ys.length d) (bts ys)) := HY.out.fr hf1 fun b hb _ => hKb b hb
  have HC : Hid (Calls Try.prog 43 #[.slice B ss.length b] w1 (CopyTo w1 ss)) := byCopy_any S1.out (by omega)
  have HS1 := Lib.hid hs1
  have HF1 := Lib.hid hf1
  have HZ1 := Lib.hid hz1'
  clear hs1 hf1 hz1'
  go_wp2_with fail
  refine HC.out.mono ?_; rintro e w2 ⟨v2, rfl, ho2, hb2⟩
  have HO2 := Lib.hid ho2
  have HB2 := Lib.hid hb2
  have HS2 : Hid (RB w2 mb (.slice A n a) (.slice B ss.length b) room (tick left) false) := Blk.kept HS1.out hb2
  have Y2 : Hid (Src w2 1 (.slice C ys.length d) ys.length (bts ys)) := by have := rd_src (Y1.out.kept hb2); rw [bts_len] at this; exact this
  obtain ⟨A2, d2, rfl⟩ := owned_slice ho2
  clear ho2 hb2 c0 c1 c2 c3 c4
  go_wp2_with (at_builtin; refine wpList_app rfl _ _ 37 rfl w1.heap.size 5 i0 _ 1 1 Try.underlying37 hi hz0 hz1 hz2 rfl (by decide) _ ss.length _ rfl HO2.out _ ys.length (bts ys) rfl Y2.out (bts_one ys) (by unfold maxLen; omega) (by omega) ?q1 ?_)
  case q1 => exact HB2.out.size
  intro v3 w3 ho3 hg3 _
  have HO3 := Lib.hid ho3
  have HG3 := Lib.hid hg3
  obtain ⟨A3, d3, rfl⟩ := owned_slice ho3
  have hne : ∀ k, (Value.slice A2 ss.length d2).ownBlock = some k → w1.heap.size ≤ k := fun k hk => owns_base HO2.out hk
  have hs3 : RB w3 mb (.slice A n a) (.slice B ss.length b) room (tick left) false := Blk.grown HS2.out hg3 (fun e => by have := hne mb e; have := Blk.lt HS1.out; omega)
  obtain ⟨c0, c1, c2, c3, c4, f⟩ := RB.cells hs3
  have f1 := f 1
  have HS3 := Lib.hid hs3
  clear ho3 hg3 hs3 f
  go_wp2_with fail
  go_returns
  have hF3 : Fr (fun b => b = mb) w (w3.setCell ⟨mb, 1, none⟩ (.slice A3 (ss.length + ys.length) d3)) := by
    refine (Fr.grown (Fr.trans (M := fun _ => False) HF1.out (fr_of_below HB2.out fun b h1 h2 => by omega) fun _ _ h => h.elim) HG3.out fun k hk => .inr ?_).trans (Fr.one w3 mb 1 _) fun _ _ h => h
    have := hne k hk; rw [HZ1.out] at this; exact this
  have hB := Blk.set HS3.out 1 (.slice A3 (ss.length + ys.length) d3)
  have hO : w3.ownsRow w.heap.size 5 1 (.slice A3 (ss.length + ys.length) d3) (ss ++ ys).length (bts (ss ++ ys)) := by
    rw [List.length_append, bts_app, ← HZ1.out]; exact HO3.out
  refine ⟨rfl, .slice A3 (ss.length + ys.length) d3, hB, owns_fr hO (Fr.one w3 mb 1 _) (fun g hg e => ?_), hF3⟩
  have := owns_base hO hg
  have := Blk.lt H.out
  omega
end Go.Proofs.Ytgohnidndjbjiaa
