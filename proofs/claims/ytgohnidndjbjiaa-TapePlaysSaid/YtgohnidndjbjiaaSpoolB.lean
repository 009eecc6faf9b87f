/-
  Layer 18: a spool's state, and Add at any state.
-/
import Derived.Test.YtgohnidndjbjiaaSpoolA
import Derived.Test.YtgohnidndjbjiaaBts
namespace Go.Proofs.Ytgohnidndjbjiaa
open Go Go.RowKit Go.Lib
set_option linter.unusedVariables false

/-- A spool's state. -/
structure St where
  room : Int
  xs : List UInt8
  sure : Nat
  left : Int
  off : Bool
def St.Ok (s : St) : Prop := s.sure ≤ s.xs.length ∧ (s.xs.length : Int) ≤ s.room ∧ s.room ≤ 1048576 ∧ -1 ≤ s.left ∧ s.left ≤ 9223372036854775807
def tick (left : Int) : Int := if 0 < left then left - 1 else left
def addS (s : St) (ys : List UInt8) : St × Int :=
  if s.off then (s, 190) else if s.room - s.xs.length < ys.length then (s, 5) else if s.left = 0 then ({ s with off := true }, 190) else ({ s with xs := s.xs ++ ys, left := tick s.left }, 0)
def syncS (s : St) : St × Int :=
  if s.off then (s, 190) else if s.left = 0 then ({ s with off := true }, 190) else ({ s with sure := s.xs.length, left := tick s.left }, 0)
def cutS (s : St) (n : Int) : St × Int :=
  if s.off then (s, 190) else if n < 0 ∨ s.xs.length < n then (s, 2) else if s.left = 0 then ({ s with off := true }, 190) else ({ s with xs := s.xs.take n.toNat, sure := n.toNat, left := tick s.left }, 0)
def offS (s : St) (n : Int) : St := { s with left := max n (-1) }
def crashN (s : St) (k : Int) : Nat := s.sure + min k.toNat (s.xs.length - s.sure)
def crashS (s : St) (k : Int) : St := { s with xs := s.xs.take (crashN s k), sure := crashN s k, left := -1, off := false }

/-- A spool behind a pointer; its blocks are those of N. -/
def Sp (w : World) (base : Nat) (N : Nat → Prop) (sb : Nat) (s : St) : Prop :=
  s.Ok ∧ (∀ b, N b → base ≤ b ∧ b < w.heap.size) ∧ N sb ∧ ∃ dv, SB w sb s.room dv s.sure s.left s.off ∧ Dat w base 5 dv (bts s.xs) ∧ ∀ g, dv.ownBlock = some g → N g
/-- What a call on it leaves. -/
def SpTo (w : World) (base : Nat) (N : Nat → Prop) (sb : Nat) (s : St) (w' : World) : Prop :=
  ∃ N', (∀ b, b < w.heap.size → (N' b ↔ N b)) ∧ Sp w' base N' sb s ∧ Fr N w w'
theorem dat_ne {w : World} {base sb : Nat} {dv : Value} {xs : List Value} {room sure left : Int} {v : Value} {off : Bool} (h : SB w sb room v sure left off) (hD : Dat w base 5 dv xs) : dv.ownBlock ≠ some sb := by
  intro e
  obtain ⟨_, _, cur, hB⟩ := hD.lt sb e
  exact Blk.ne_ h hB (by decide) rfl
theorem Sp.fr {w w' : World} {base sb : Nat} {N M : Nat → Prop} {s : St} (h : Sp w base N sb s) (f : Fr M w w') (hd : ∀ b, N b → ¬ M b) : Sp w' base N sb s := by
  obtain ⟨h1, h2, h3, dv, h4, h5, h6⟩ := h
  exact ⟨h1, fun b hb => ⟨(h2 b hb).1, Nat.lt_of_lt_of_le (h2 b hb).2 f.size⟩, h3, dv, Blk.fr h4 f (hd sb h3), h5.fr f fun g hg => hd g (h6 g hg), h6⟩

theorem new_bad (n : Int) (w : World) (h : n < 1 ∨ 1048576 < n) :
    Calls Try.prog 11 #[.int .i64 n] w fun e w' => e = .returned (.tuple #[.pointer none, .int .i64 2]) ∧ w' = w := by
  by_cases h1 : n < 1
  · clear h
    go_enter Try.func11, Try.ntmps11
    go_wp2_with fail
    go_returns
    exact ⟨rfl, rfl⟩
  · have h2 : 1048576 < n := by omega
    clear h
    go_enter Try.func11, Try.ntmps11
    go_wp2_with fail
    go_returns
    exact ⟨rfl, rfl⟩
theorem new_run (n : Int) (w : World) (h1 : 1 ≤ n) (h2 : n ≤ 1048576) :
    Calls Try.prog 11 #[.int .i64 n] w fun e w' => e = .returned (.tuple #[.pointer (some ⟨w.heap.size, 0, none⟩), .int .i64 0]) ∧ w' = w.alloc (.cells (spl n (.slice none 0 0) 0 (-1) false) 61) := by
  have t1 : ¬ n < 1 := by omega
  have t2 : ¬ 1048576 < n := by omega
  go_enter Try.func11, Try.ntmps11
  go_wp2_with fail
  go_returns
  exact ⟨rfl, rfl⟩
theorem new_any (n : Int) (w : World) (base : Nat) (h1 : 1 ≤ n) (h2 : n ≤ 1048576) (hb : base ≤ w.heap.size) :
    Calls Try.prog 11 #[.int .i64 n] w fun e w' => e = .returned (.tuple #[.pointer (some ⟨w.heap.size, 0, none⟩), .int .i64 0]) ∧
      Sp w' base (fun b => b = w.heap.size) w.heap.size ⟨n, [], 0, -1, false⟩ ∧ Below w.heap.size w w' ∧ w'.heap.size = w.heap.size + 1 := by
  refine (new_run n w h1 h2).mono fun e w' ⟨he, hw⟩ => ⟨he, ?_, ?_, ?_⟩
  · subst hw
    refine ⟨⟨Nat.zero_le _, by simp; omega, h2, Int.le_refl _, (by decide : (-1 : Int) ≤ 9223372036854775807)⟩, fun b e => ?_, rfl, .slice none 0 0, Blk.new _ _ _, .inl ⟨rfl, .inl ⟨rfl, rfl⟩⟩, fun g hg => by cases hg⟩
    subst e; exact ⟨hb, by simp⟩
  · subst hw; exact (Below.refl _ _).alloc (Nat.le_refl _) _
  · subst hw; simp

def FailsTo (w : World) (sb : Nat) (room : Int) (dv : Value) (sure left : Int) (e : Ending) (w' : World) : Prop :=
  e = .returned (.bool false) ∧ SB w' sb room dv sure (tick left) false ∧ Fr (fun b => b = sb) w w' ∧ w'.heap.size = w.heap.size
theorem fails_go (w : World) (sb : Nat) (room : Int) (dv : Value) (sure left : Int) (h : SB w sb room dv sure left false) (hl : left ≠ 0) (hb : left ≤ 9223372036854775807) :
    Calls Try.prog 52 #[.pointer (some ⟨sb, 0, none⟩)] w (FailsTo w sb room dv sure left) := by
  by_cases h0 : 0 < left
  · refine (fails_pos w sb room dv sure left h h0 hb).mono fun e w' ⟨he, hw⟩ => ?_
    subst hw
    refine ⟨he, ?_, Fr.one w sb 3 _, by simp⟩
    have := Blk.set h 3 (.int .i64 (left - 1))
    unfold tick; rw [if_pos h0]; exact this
  · refine (fails_never w sb room dv sure left h (by omega)).mono fun e w' ⟨he, hw⟩ => ?_
    subst hw
    refine ⟨he, ?_, Fr.refl _ _, rfl⟩
    unfold tick; rw [if_neg h0]; exact h

theorem fails_drew (w : World) (k sb : Nat) (room : Int) (dv : Value) (sure left : Int) (h : SB w sb room dv sure left false) (hl : left ≠ 0) (hb : left ≤ 9223372036854775807) :
    Calls Try.prog 52 #[.pointer (some ⟨sb, 0, none⟩)] (w.drewN k) (FailsTo w sb room dv sure left) :=
  (fails_go (w.drewN k) sb room dv sure left h hl hb).mono fun _ _ ⟨h1, h2, h3, h4⟩ => ⟨h1, h2, ⟨h3.os, h3.tape, h3.output, h3.size, h3.block⟩, h4⟩

theorem add_off (w : World) (sb : Nat) (room : Int) (dv : Value) (sure left : Int) (bv : Value) (h : SB w sb room dv sure left true) :
    Calls Try.prog 29 #[.pointer (some ⟨sb, 0, none⟩), bv] w fun e w' => e = .returned (.int .i64 190) ∧ w' = w := by
  obtain ⟨c0, c1, c2, c3, c4, f⟩ := h.cells
  clear f h
  go_enter Try.func29, Try.ntmps29
  go_wp2_with fail
  go_returns
  exact ⟨rfl, rfl⟩
theorem add_full (w : World) (sb : Nat) (room : Int) (A B : Option Addr) (n c m d : Nat) (sure left : Int) (h : SB w sb room (.slice A n c) sure left false) (hr : 0 ≤ room) (hr2 : room ≤ 1048576) (hn : n ≤ 1048576) (hm : m ≤ maxLen)
    (hf : room - n < m) :
    Calls Try.prog 29 #[.pointer (some ⟨sb, 0, none⟩), .slice B m d] w fun e w' => e = .returned (.int .i64 5) ∧ ∃ k, w' = w.drewN k := by
  obtain ⟨c0, c1, c2, c3, c4, f⟩ := h.cells
  unfold maxLen at hm
  clear f h
  go_enter Try.func29, Try.ntmps29
  go_wp2_with fail
  go_quiet (fail)
  go_wp2_with fail
  go_returns
  exact ⟨rfl, _, rfl⟩
theorem add_lost (w : World) (sb : Nat) (room : Int) (A B : Option Addr) (n c m d : Nat) (sure : Int) (h : SB w sb room (.slice A n c) sure 0 false) (hr : 0 ≤ room) (hr2 : room ≤ 1048576) (hn : n ≤ 1048576) (hm : m ≤ maxLen)
    (hf : ¬ room - n < m) :
    Calls Try.prog 29 #[.pointer (some ⟨sb, 0, none⟩), .slice B m d] w fun e w' => e = .returned (.int .i64 190) ∧ ∃ k, w' = (w.drewN k).setCell ⟨sb, 4, none⟩ (.bool true) := by
  obtain ⟨c0, c1, c2, c3, c4, f⟩ := h.cells
  have H := Lib.hid h
  unfold maxLen at hm
  clear f h
  go_enter Try.func29, Try.ntmps29
  go_wp2_with fail
  go_quiet (fail)
  go_wp2_with fail
  refine (fails_zero _ sb room _ sure (by exact H.out)).mono ?_; rintro e w1 ⟨rfl, rfl⟩
  go_wp2_with fail
  go_returns
  exact ⟨rfl, _, rfl⟩
theorem Try.infoU8 : (Try.prog.info? 5).map (fun i => (i.zero, i.size, i.bytes)) = some (some (.int .u8 0), 1, 1) := by kernel_rfl
def AddTo (w : World) (base sb : Nat) (room : Int) (dv : Value) (xs ys : List Value) (sure left : Int) (e : Ending) (w' : World) : Prop :=
  e = .returned (.int .i64 0) ∧ ∃ dv', SB w' sb room dv' sure (tick left) false ∧ Dat w' base 5 dv' (xs ++ ys) ∧ (dv'.ownBlock = dv.ownBlock ∨ ∃ g, dv'.ownBlock = some g ∧ w.heap.size ≤ g) ∧
    Fr (fun b => b = sb ∨ dv.ownBlock = some b) w w'
theorem add_ok (w : World) (base sb : Nat) (room : Int) (A B : Option Addr) (n c m d : Nat) (sure left : Int) (h : SB w sb room (.slice A n c) sure left false) (hr : 0 ≤ room) (hr2 : room ≤ 1048576) (hn : n ≤ 1048576) (hm : m ≤ maxLen)
    (hf : ¬ room - n < m) (hl : left ≠ 0) (hb : left ≤ 9223372036854775807) (xs ys : List Value) (hx : xs.length = n) (hy : ys.length = m) (hD : Dat w base 5 (.slice A n c) xs)
    (K : Nat → Prop) (hS : Rd w K (.slice B m d) ys) (hK : ∀ b, K b → b ≠ sb) (h1 : ∀ u ∈ ys, u.oneCell' = true) (hbase : base ≤ w.heap.size) :
    Calls Try.prog 29 #[.pointer (some ⟨sb, 0, none⟩), .slice B m d] w (AddTo w base sb room (.slice A n c) xs ys sure left) := by
  obtain ⟨i0, hi, hz0, hz1, hz2⟩ := info_parts Try.infoU8
  obtain ⟨c0, c1, c2, c3, c4, f⟩ := h.cells
  have H := Lib.hid h
  have HD := Lib.hid hD
  have HS := Lib.hid hS
  have HX := Lib.hid hx
  have HY := Lib.hid hy
  have HL := Lib.hid hl
  have hF : Hid (∀ k, Calls Try.prog 52 #[.pointer (some ⟨sb, 0, none⟩)] (w.drewN k) (FailsTo w sb room (.slice A n c) sure left)) :=
    fun k => fails_drew w k sb room _ sure left h hl hb
  unfold maxLen at hm
  clear f h hD hS hx hy hl
  go_enter Try.func29, Try.ntmps29
  go_wp2_with fail
  go_quiet (fail)
  go_wp2_with fail
  refine (hF.out _).mono ?_; rintro e w1 ⟨rfl, hs1, hf1, hz1⟩
  obtain ⟨c0, c1, c2, c3, c4, f⟩ := SB.cells hs1
  have f1 := f 1
  have D1 : Hid (Dat w1 base 5 (.slice A n c) xs) := Dat.fr (w := w) HD.out (by exact hf1) fun g hg e => dat_ne H.out HD.out (hg.trans (by rw [e]))
  have S1 : Hid (Rd w1 K (.slice B m d) ys) := Rd.fr (w := w) HS.out (by exact hf1) fun b hb _ => hK b hb
  have HS1 := Lib.hid hs1
  have HF1 := Lib.hid hf1
  have HZ1 := Lib.hid hz1
  clear f hs1 hf1 hz1
  go_wp2_with (at_builtin; refine wpList_app_dat rfl _ _ 37 rfl base 5 i0 _ 1 Try.underlying37 hi hz0 hz1 hz2 rfl (.slice A n c) xs rfl D1.out K (.slice B m d) ys rfl S1.out h1 ?q1 ?q2 ?q3 ?_)
  case q1 => rw [HX.out, HY.out]; unfold maxLen; omega
  case q2 => rw [HX.out, HY.out]; omega
  case q3 => rw [HZ1.out]; exact hbase
  intro v' w2 hD2 hg2 hb2
  obtain ⟨A', c', rfl, _⟩ := hD2.form
  generalize (xs ++ ys).length = nn at hD2 hb2 ⊢
  have hne : (Value.slice A n c).ownBlock ≠ some sb := dat_ne HS1.out D1.out
  have hs2 : SB w2 sb room (.slice A n c) sure (tick left) false := Blk.grown HS1.out hg2 hne
  obtain ⟨e0, e1, e2, e3, e4, f⟩ := SB.cells hs2
  have f1 := f 1
  have HS2 := Lib.hid hs2
  have HD2 := Lib.hid hD2
  have HG2 := Lib.hid hg2
  have HB2 := Lib.hid hb2
  clear f hs2 hD2 hg2 hb2 c0 c1 c2 c3 c4
  go_wp2_with fail
  go_returns
  have hF3 : Fr (fun b => b = sb ∨ (Value.slice A n c).ownBlock = some b) w (w2.setCell ⟨sb, 1, none⟩ (.slice A' nn c')) :=
    Fr.setCell (Fr.grown (HF1.out.mono fun b _ h => .inl h) HG2.out fun b hb => .inl (.inr hb)) (a := ⟨sb, 1, none⟩) (.inl (.inl rfl)) (.slice A' nn c')
  refine ⟨rfl, .slice A' nn c', ?_, ?_, ?_, hF3⟩
  · have := Blk.set HS2.out 1 (.slice A' nn c'); exact this
  · refine HD2.out.fr (N := fun b => b = sb) (Fr.one w2 sb 1 (.slice A' nn c')) fun g hg e => ?_
    exact dat_ne HS2.out HD2.out (hg.trans (by rw [e]))
  · rcases HB2.out with h | h
    · exact .inl h
    · exact .inr ⟨_, h, by rw [HZ1.out]; exact Nat.le_refl _⟩
end Go.Proofs.Ytgohnidndjbjiaa
