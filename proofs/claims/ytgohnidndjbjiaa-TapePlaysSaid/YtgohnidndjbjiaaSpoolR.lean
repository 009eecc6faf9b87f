/-
  gangerref18: the document's spool, each call at any state.
-/
import Derived.Test.YtgohnidndjbjiaaSpoolE
import Derived.Test.YtgohnidndjbjiaaBy
namespace Go.Proofs.Ytgohnidndjbjiaa
open Go Go.RowKit Go.Lib
set_option linter.unusedVariables false

abbrev rfl_ (fv sv : Value) (room left : Int) (dim : Bool) : Array Value := #[fv, sv, .int .i64 room, .int .i64 left, .bool dim]
abbrev RB (w : World) (mb : Nat) (fv sv : Value) (room left : Int) (dim : Bool) : Prop := Blk w mb (rfl_ fv sv room left dim) 69
theorem RB.cells {w : World} {mb : Nat} {fv sv : Value} {room left : Int} {dim : Bool} (h : RB w mb fv sv room left dim) :
    w.cell? ⟨mb, 0, none⟩ = some fv ∧ w.cell? ⟨mb, 1, none⟩ = some sv ∧ w.cell? ⟨mb, 2, none⟩ = some (.int .i64 room) ∧ w.cell? ⟨mb, 3, none⟩ = some (.int .i64 left) ∧ w.cell? ⟨mb, 4, none⟩ = some (.bool dim) ∧
    (∀ o, w.frozen? ⟨mb, o, none⟩ = false) :=
  ⟨h.cell 0, h.cell 1, h.cell 2, h.cell 3, h.cell 4, h.frees⟩

theorem refNew_bad (n : Int) (w : World) (h : n < 1 ∨ 1048576 < n) :
    Calls Try.prog 31 #[.int .i64 n] w fun e w' => e = .returned (.tuple #[.pointer none, .int .i64 2]) ∧ w' = w := by
  by_cases h1 : n < 1
  · clear h
    go_enter Try.func31, Try.ntmps31
    go_wp2_with fail
    go_returns
    exact ⟨rfl, rfl⟩
  · have h2 : 1048576 < n := by omega
    clear h
    go_enter Try.func31, Try.ntmps31
    go_wp2_with fail
    go_returns
    exact ⟨rfl, rfl⟩
theorem refNew_run (n : Int) (w : World) (h1 : 1 ≤ n) (h2 : n ≤ 1048576) :
    Calls Try.prog 31 #[.int .i64 n] w fun e w' => e = .returned (.tuple #[.pointer (some ⟨w.heap.size, 0, none⟩), .int .i64 0]) ∧ w' = w.alloc (.cells (rfl_ (.slice none 0 0) (.slice none 0 0) n (-1) false) 69) := by
  have t1 : ¬ n < 1 := by omega
  have t2 : ¬ 1048576 < n := by omega
  go_enter Try.func31, Try.ntmps31
  go_wp2_with fail
  go_returns
  exact ⟨rfl, rfl⟩
theorem act_dim (w : World) (mb : Nat) (fv sv : Value) (room left : Int) (h : RB w mb fv sv room left true) :
    Calls Try.prog 57 #[.pointer (some ⟨mb, 0, none⟩)] w fun e w' => e = .returned (.bool false) ∧ w' = w.setCell ⟨mb, 4, none⟩ (.bool true) := by
  obtain ⟨c0, c1, c2, c3, c4, f⟩ := h.cells
  have f4 := f 4
  clear f h
  go_enter Try.func57, Try.ntmps57
  go_wp2_with fail
  go_returns
  exact ⟨rfl, rfl⟩
theorem act_zero (w : World) (mb : Nat) (fv sv : Value) (room : Int) (h : RB w mb fv sv room 0 false) :
    Calls Try.prog 57 #[.pointer (some ⟨mb, 0, none⟩)] w fun e w' => e = .returned (.bool false) ∧ w' = w.setCell ⟨mb, 4, none⟩ (.bool true) := by
  obtain ⟨c0, c1, c2, c3, c4, f⟩ := h.cells
  have f4 := f 4
  clear f h
  go_enter Try.func57, Try.ntmps57
  go_wp2_with fail
  go_returns
  exact ⟨rfl, rfl⟩
theorem act_pos (w : World) (mb : Nat) (fv sv : Value) (room left : Int) (h : RB w mb fv sv room left false) (hl : 0 < left) (hb : left ≤ 9223372036854775807) :
    Calls Try.prog 57 #[.pointer (some ⟨mb, 0, none⟩)] w fun e w' => e = .returned (.bool true) ∧ w' = w.setCell ⟨mb, 3, none⟩ (.int .i64 (left - 1)) := by
  obtain ⟨c0, c1, c2, c3, c4, f⟩ := h.cells
  have f3 := f 3
  have t1 : (left == 0) = false := by simp; omega
  clear f h
  go_enter Try.func57, Try.ntmps57
  go_wp2_with fail
  go_returns
  exact ⟨rfl, rfl⟩
theorem act_never (w : World) (mb : Nat) (fv sv : Value) (room left : Int) (h : RB w mb fv sv room left false) (hl : left < 0) :
    Calls Try.prog 57 #[.pointer (some ⟨mb, 0, none⟩)] w fun e w' => e = .returned (.bool true) ∧ w' = w := by
  obtain ⟨c0, c1, c2, c3, c4, f⟩ := h.cells
  have t1 : (left == 0) = false := by simp; omega
  have t2 : ¬ 0 < left := by omega
  clear f h hl
  go_enter Try.func57, Try.ntmps57
  go_wp2_with fail
  go_returns
  exact ⟨rfl, rfl⟩
def ActTo (w : World) (mb : Nat) (fv sv : Value) (room left : Int) (e : Ending) (w' : World) : Prop :=
  e = .returned (.bool true) ∧ RB w' mb fv sv room (tick left) false ∧ Fr (fun b => b = mb) w w' ∧ w'.heap.size = w.heap.size
theorem act_go (w : World) (k mb : Nat) (fv sv : Value) (room left : Int) (h : RB w mb fv sv room left false) (hl : left ≠ 0) (hb : left ≤ 9223372036854775807) :
    Calls Try.prog 57 #[.pointer (some ⟨mb, 0, none⟩)] (w.drewN k) (ActTo w mb fv sv room left) := by
  by_cases h0 : 0 < left
  · refine (act_pos (w.drewN k) mb fv sv room left h h0 hb).mono fun e w' ⟨he, hw⟩ => ?_
    subst hw
    have hF := Fr.one (w.drewN k) mb 3 (.int .i64 (left - 1))
    refine ⟨he, ?_, ⟨hF.os, hF.tape, hF.output, hF.size, hF.block⟩, by simp⟩
    have := Blk.set (w := w.drewN k) h 3 (.int .i64 (left - 1))
    unfold tick; rw [if_pos h0]; exact this
  · refine (act_never (w.drewN k) mb fv sv room left h (by omega)).mono fun e w' ⟨he, hw⟩ => ?_
    subst hw
    refine ⟨he, ?_, (Fr.refl _ w).drewN k, rfl⟩
    unfold tick; rw [if_neg h0]; exact h
theorem all_dim (w : World) (mb : Nat) (fv sv : Value) (room left : Int) (h : RB w mb fv sv room left true) :
    Calls Try.prog 45 #[.pointer (some ⟨mb, 0, none⟩)] w fun e w' => e = .returned (.slice none 0 0) ∧ w' = w := by
  obtain ⟨c0, c1, c2, c3, c4, f⟩ := h.cells
  clear f h
  go_enter Try.func45, Try.ntmps45
  go_wp2_with fail
  go_returns
  exact ⟨rfl, rfl⟩
theorem all_run (w : World) (mb : Nat) (fv sv : Value) (room left : Int) (K : Nat → Prop) (fs ss : List UInt8) (h : RB w mb fv sv room left false) (hf : Rd w K fv (bts fs)) (hs : Rd w K sv (bts ss)) (hn : fs.length ≤ 1048576) (hm : ss.length ≤ 1048576) :
    Calls Try.prog 45 #[.pointer (some ⟨mb, 0, none⟩)] w (CopyTo w (fs ++ ss)) := by
  obtain ⟨i0, hi, hz0, hz1, hz2⟩ := info_parts Try.infoB
  obtain ⟨c0, c1, c2, c3, c4, f⟩ := h.cells
  have HC := Lib.hid (byCopy_any hf (by omega))
  have H := Lib.hid h
  have HS := Lib.hid hs
  obtain ⟨A, c, rfl, _⟩ := rd_form hf
  obtain ⟨A2, d, rfl, _⟩ := rd_form hs
  clear f h
  go_enter Try.func45, Try.ntmps45
  go_wp2_with fail
  refine HC.out.mono ?_; rintro e w1 ⟨v1, rfl, ho1, hb1⟩
  have HO1 := Lib.hid ho1
  have HB1 := Lib.hid hb1
  obtain ⟨A1, d1, rfl⟩ := owned_slice ho1
  obtain ⟨e0, e1, e2, e3, e4, _⟩ := RB.cells (Blk.kept H.out hb1)
  have S1 : Hid (Src w1 1 (.slice A2 ss.length d) ss.length (bts ss)) := by have := rd_src (HS.out.kept hb1); rw [bts_len] at this; exact this
  clear ho1 hb1 c0 c1 c2 c3 c4
  go_wp2_with (at_builtin; refine wpList_app rfl _ _ 37 rfl w.heap.size 5 i0 _ 1 1 Try.underlying37 hi hz0 hz1 hz2 rfl (by decide) _ fs.length _ rfl HO1.out _ ss.length (bts ss) rfl S1.out (bts_one ss) (by unfold maxLen; omega) (by omega) ?q1 ?_)
  case q1 => exact HB1.out.size
  intro v2 w2 ho2 hg2 _
  have HO2 := Lib.hid ho2
  have HG2 := Lib.hid hg2
  obtain ⟨A3, d3, rfl⟩ := owned_slice ho2
  clear ho2 hg2
  go_wp2_with fail
  go_returns
  refine ⟨_, rfl, by rw [List.length_append, bts_app]; exact HO2.out, ?_⟩
  refine HB1.out.grown HG2.out HB1.out.size fun k hk => ?_
  obtain ⟨_, ⟨hv, _⟩ | ⟨g', _, _, hv, hb', _⟩⟩ := HO1.out
  · rw [hv] at hk; cases hk
  · rw [hv] at hk; obtain rfl : g' = k := by simpa [Value.ownBlock] using hk
    exact hb'
end Go.Proofs.Ytgohnidndjbjiaa
