/-
  gangerlaw19.known: what the chapter's example fixes holds.
-/
import Derived.Test.YtgohnidndjbjiaaTapeE
import Derived.Lib.SlBytesConst
namespace Go.Proofs.Ytgohnidndjbjiaa
open Go Go.RowKit Go.Lib
set_option linter.unusedVariables false

theorem addS_tick (s : St) (ys : List UInt8) (h1 : s.off = false) (h2 : ¬ s.room - s.xs.length < ys.length) (h3 : s.left ≠ 0) : addS s ys = ({ s with xs := s.xs ++ ys, left := tick s.left }, 0) := by
  unfold addS; rw [h1, if_neg (by decide), if_neg h2, if_neg h3]
theorem addT_ok (t : TS) (r : List UInt8) (hl : t.lost = false) (h8 : r.length ≤ 8000) (ho : t.s.off = false) (hn : t.s.left < 0) (hr : ¬ t.s.room - t.s.xs.length < ((r.length + 7 : Nat) : Int)) :
    addT t r = (⟨⟨t.s.room, t.s.xs ++ putB r, t.s.xs.length + (r.length + 7), t.s.left, false⟩, t.l ++ [r], false⟩, 0) := by
  obtain ⟨⟨room, xs, sure, left, off⟩, l, lost⟩ := t
  dsimp only at *
  subst hl ho
  unfold addT appT
  dsimp only
  rw [addS_ok ⟨room, xs, sure, left, false⟩ (putB r) rfl (by rw [putB_len]; exact hr) hn]
  dsimp only
  rw [syncS_ok ⟨room, xs ++ putB r, sure, left, false⟩ rfl hn]
  rw [if_neg (by decide), if_neg (by omega)]
  simp [notT, putB_len]
theorem addT_full (t : TS) (r : List UInt8) (hl : t.lost = false) (h8 : r.length ≤ 8000) (ho : t.s.off = false) (hr : t.s.room - t.s.xs.length < ((r.length + 7 : Nat) : Int)) : addT t r = (t, 5) := by
  obtain ⟨⟨room, xs, sure, left, off⟩, l, lost⟩ := t
  dsimp only at *
  subst hl ho
  unfold addT appT
  dsimp only
  rw [addS_full ⟨room, xs, sure, left, false⟩ (putB r) rfl (by rw [putB_len]; exact hr)]
  rw [if_neg (by decide), if_neg (by omega)]
  rfl
/-- Of a spool that stops behind the write, ahead of the sync. -/
theorem addT_stop (t : TS) (r : List UInt8) (hl : t.lost = false) (h8 : r.length ≤ 8000) (ho : t.s.off = false) (hn : t.s.left = 1) (hr : ¬ t.s.room - t.s.xs.length < ((r.length + 7 : Nat) : Int)) :
    addT t r = (⟨⟨t.s.room, t.s.xs ++ putB r, t.s.sure, 0, true⟩, [], true⟩, 190) := by
  obtain ⟨⟨room, xs, sure, left, off⟩, l, lost⟩ := t
  dsimp only at *
  subst hl ho hn
  unfold addT appT
  dsimp only
  rw [addS_tick ⟨room, xs, sure, 1, false⟩ (putB r) rfl (by rw [putB_len]; exact hr) (by show (1 : Int) ≠ 0; decide)]
  dsimp only
  rw [if_neg (by decide), if_neg (by omega)]
  rfl
theorem openS_flat (room : Int) (good : List (List UInt8)) (rest : List UInt8) (sure : Nat) (left : Int) (h : ∀ x ∈ good, x.length ≤ 8000) (hr : isB rest = false) (hl : left < 0) :
    rowsB (flatB good ++ rest) = good ∧ ∃ sure', openS ⟨room, flatB good ++ rest, sure, left, false⟩ = (⟨room, flatB good, sure', left, false⟩, 0) ∧ (rest ≠ [] → sure' = endL good) ∧ (rest = [] → sure' = sure) := by
  have h1 := (err_flat good rest h hr).1
  refine ⟨h1, ?_⟩
  unfold openS
  dsimp only
  rw [h1, if_neg (by decide)]
  by_cases he : rest = []
  · subst he
    rw [List.append_nil, if_neg (by rw [flatB_len]; omega)]
    exact ⟨sure, rfl, fun h => absurd rfl h, fun _ => rfl⟩
  · have hp : 0 < rest.length := List.length_pos_iff.2 he
    rw [if_pos (by rw [List.length_append, flatB_len]; omega), cutS_ok ⟨room, flatB good ++ rest, sure, left, false⟩ (endL good) rfl (by dsimp only; rw [List.length_append, flatB_len]; omega) hl]
    refine ⟨endL good, ?_, fun _ => rfl, fun h => absurd h he⟩
    dsimp only
    rw [List.take_left' (flatB_len good)]
section
variable {w w' : World} {base sb tb : Nat} {M N R K Kb : Nat → Prop} {l : List (List UInt8)} {lost : Bool} {t t' : TS} {s s' : St}
theorem tAdd_at {rv : Value} {r : List UInt8} {n : Int} (hr : addT t r = (t', n)) (h : Tk w base N sb tb t) (hR : Rd w K rv (bts r)) (hK : ∀ b, K b → ¬ N b) :
    Calls Try.prog 20 #[.pointer (some ⟨tb, 0, none⟩), rv] w fun e w' => e = .returned (.int .i64 n) ∧ TkTo w base N sb tb t' w' := by
  have := tapeAdd_any h hR hK; rw [hr] at this; exact this
theorem open_at (hr : openS s = (s', 0)) (h : Sp w base N sb s) (hn : s.xs.length ≤ 1000000) (hl : rowsB s.xs = l) :
    Calls Try.prog 26 #[.pointer (some ⟨sb, 0, none⟩)] w fun e w' => ∃ tb N', e = .returned (.tuple #[.pointer (some ⟨tb, 0, none⟩), .int .i64 0]) ∧ Tk w' base N' sb tb ⟨s', l, false⟩ ∧ (∀ b, b < w.heap.size → (N' b ↔ N b)) ∧ Fr N w w' := by
  refine (open_any h hn).mono fun e w' ho => ?_
  unfold OpenTo at ho
  rw [hr, hl] at ho
  rcases ho with ⟨_, h⟩ | ⟨h, _⟩
  · exact h
  · exact absurd rfl h
theorem Tk.alloc (h : Tk w base N sb tb t) (o : Obj) : Tk (w.alloc o) base N sb tb t := h.kept ((Below.refl _ _).alloc (Nat.le_refl _) _)
theorem TkTo.get (h : Tk w base N sb tb t) (k : TkTo w base N sb tb t' w') : ∃ N', Tk w' base N' sb tb t' ∧ Below base w w' := by
  obtain ⟨N', _, h1, h2⟩ := k
  exact ⟨N', h1, h.below h2⟩
theorem Tk.sp (h : Tk w base N sb tb t) : ∃ M, Sp w base M sb t.s ∧ ∀ b, M b → N b := by
  obtain ⟨M, R, h1, _, _, h4, _⟩ := h
  exact ⟨M, h1, fun b hb => (h4 b).2 (.inl hb)⟩
end
def sK (k : Nat) : St := if k = 0 then ⟨1000, [], 0, -1, false⟩ else ⟨1000, flatB [[97], [98]], 16, -1, false⟩
theorem k1 : addT ⟨⟨1000, [], 0, -1, false⟩, [], false⟩ [97] = (⟨⟨1000, putB [97], 8, -1, false⟩, [[97]], false⟩, 0) := by
  rw [addT_ok _ _ rfl (by decide) rfl (by decide) (by decide)]; rfl
theorem k2 : addT ⟨⟨1000, putB [97], 8, -1, false⟩, [[97]], false⟩ [98] = (⟨⟨1000, putB [97] ++ putB [98], 16, -1, false⟩, [[97], [98]], false⟩, 0) := by
  rw [addT_ok _ _ rfl (by decide) rfl (by decide) (by show ¬ (1000 : Int) - ((putB [97]).length : Int) < _; rw [putB_len]; decide)]
  dsimp only
  rw [putB_len]; rfl
theorem k3 : addT ⟨⟨1000, putB [97] ++ putB [98], 16, 1, false⟩, [[97], [98]], false⟩ [99] = (⟨⟨1000, putB [97] ++ putB [98] ++ putB [99], 16, 0, true⟩, [], true⟩, 190) := by
  rw [addT_stop _ _ rfl (by decide) rfl rfl (by show ¬ (1000 : Int) - ((putB [97] ++ putB [98]).length : Int) < _; rw [List.length_append, putB_len, putB_len]; decide)]
theorem flat2 : flatB [[97], [98]] = putB [97] ++ putB [98] := by simp [flatB]
theorem k4 : crashS ⟨1000, putB [97] ++ putB [98] ++ putB [99], 16, 0, true⟩ 3 = ⟨1000, flatB [[97], [98]] ++ (putB [99]).take 3, 19, -1, false⟩ := by
  have e : crashN ⟨1000, putB [97] ++ putB [98] ++ putB [99], 16, 0, true⟩ 3 = 19 := by
    unfold crashN; dsimp only
    simp only [List.length_append, putB_len]; decide
  unfold crashS
  rw [e, flat2]
  dsimp only
  rw [List.take_append, List.take_of_length_le (by simp only [List.length_append, putB_len]; decide)]
  simp only [List.length_append, putB_len]
  rfl
theorem k5 : ∃ u, rowsB (flatB [[97], [98]] ++ (putB [99]).take 3) = [[97], [98]] ∧ openS ⟨1000, flatB [[97], [98]] ++ (putB [99]).take 3, 19, -1, false⟩ = (⟨1000, flatB [[97], [98]], u, -1, false⟩, 0) := by
  obtain ⟨h1, u, h2, _⟩ := openS_flat 1000 [[97], [98]] ((putB [99]).take 3) 19 (-1) (by decide) (isB_cut [99] 3 (by decide) (by decide)) (by decide)
  exact ⟨u, h1, h2⟩
theorem k0 : rowsB [] = [] ∧ openS ⟨1000, [], 0, -1, false⟩ = (⟨1000, [], 0, -1, false⟩, 0) := by
  have := rowsB_no isB_nil
  refine ⟨this, ?_⟩
  unfold openS; dsimp only
  rw [this]; rfl
set_option maxRecDepth 100000 in
theorem known19_any (w : World) : Calls Try.prog 9 #[] w fun e w' => e = .returned (.bool true) ∧ Below w.heap.size w w' := by
  have q0 : ∀ (w : World) (C : Array Value) (n c : Nat), (convert 37 37 (.slice (some ⟨w.heap.size, 0, none⟩) n c)).run Try.prog (w.alloc (.cells C 5)) = .ok (.slice (some ⟨w.heap.size, 0, none⟩) n c) (w.alloc (.cells C 5 (C.size, C.size + 1))) := fun w C n c => run_convert_bytes_const w 37 5 C n c Try.underlying37 Try.underlying5
  have HNw := Lib.hid (new_any 1000 w w.heap.size (by decide) (by decide) (Nat.le_refl _))
  go_enter Try.func9, Try.ntmps9
  go_wp2_with fail
  refine HNw.out.mono ?_; rintro e w1 ⟨rfl, hs1, hb1, hz1⟩
  have S1 := Lib.hid hs1
  have B1 := Lib.hid hb1
  clear hs1 hb1 hz1
  go_wp2_with fail
  refine (open_at k0.2 S1.out (by decide) k0.1).mono ?_; rintro e w2 ⟨tb, N2, rfl, hk2, _, hf2⟩
  have K2 := Lib.hid hk2
  have B2 := Lib.hid (B1.out.trans (S1.out.below hf2))
  clear hk2 hf2
  go_wp2_with fail
  refine (tAdd_at k1 (K2.out.alloc _) (rd_lit w2 [97] 1 rfl (by decide) _ rfl _) (fun b hb h => by have := (K2.out.lt b h).2; omega)).mono ?_; rintro e w3 ⟨rfl, h3⟩
  obtain ⟨N3, hk3, hb3⟩ := TkTo.get (K2.out.alloc _) h3
  have K3 := Lib.hid hk3
  have B3 := Lib.hid ((B2.out.alloc B2.out.size _).trans hb3)
  clear h3 hk3 hb3
  go_wp2_with fail
  refine (tAdd_at k2 (K3.out.alloc _) (rd_lit w3 [98] 1 rfl (by decide) _ rfl _) (fun b hb h => by have := (K3.out.lt b h).2; omega)).mono ?_; rintro e w4 ⟨rfl, h4⟩
  obtain ⟨N4, hk4, hb4⟩ := TkTo.get (K3.out.alloc _) h4
  have K4 := Lib.hid hk4
  have B4 := Lib.hid ((B3.out.alloc B3.out.size _).trans hb4)
  clear h4 hk4 hb4
  go_wp2_with fail
  refine (K4.out.spool (s' := ⟨1000, putB [97] ++ putB [98], 16, 1, false⟩) K4.out.few.1 fun M hM hN => off_at rfl (by decide) hM).mono ?_; rintro e w5 ⟨rfl, h5⟩
  obtain ⟨N5, hk5, hb5⟩ := TkTo.get K4.out h5
  have K5 := Lib.hid hk5
  have B5 := Lib.hid (B4.out.trans hb5)
  clear h5 hk5 hb5
  go_wp2_with fail
  refine (tAdd_at k3 (K5.out.alloc _) (rd_lit w5 [99] 1 rfl (by decide) _ rfl _) (fun b hb h => by have := (K5.out.lt b h).2; omega)).mono ?_; rintro e w6 ⟨rfl, h6⟩
  obtain ⟨N6, hk6, hb6⟩ := TkTo.get (K5.out.alloc _) h6
  have K6 := Lib.hid hk6
  have B6 := Lib.hid ((B5.out.alloc B5.out.size _).trans hb6)
  clear h6 hk6 hb6
  go_wp2_with fail
  refine (tapeLen_any K6.out).mono ?_; rintro e w6 ⟨rfl, rfl⟩
  obtain ⟨M6, hs6, _⟩ := K6.out.sp
  have S6 := Lib.hid hs6
  clear hs6
  go_wp2_with fail
  refine (crash_at k4 S6.out).mono ?_; rintro e w7 ⟨rfl, N7, _, hs7, hf7⟩
  have S7 := Lib.hid hs7
  have B7 := Lib.hid (B6.out.trans (S6.out.below hf7))
  clear hs7 hf7
  obtain ⟨u5, r5, o5⟩ := k5
  go_wp2_with fail
  refine (open_at o5 S7.out (by dsimp only; simp only [flatB_len, List.length_append, List.length_take, putB_len]; decide) r5).mono ?_; rintro e w8 ⟨ub, N8, rfl, hk8, _, hf8⟩
  have K8 := Lib.hid hk8
  have B8 := Lib.hid (B7.out.trans (S7.out.below hf8))
  clear hk8 hf8 r5 o5
  go_wp2_with fail
  refine (records_any K8.out).mono ?_; rintro e w9 ⟨bv, vs, rfl, ho9, hb9, hB9⟩
  have B9 := Lib.hid (B8.out.trans (hB9.mono B8.out.size))
  have L9 := RdL.of_bods ho9 hb9
  obtain ⟨A9, c9, rfl, _⟩ := L9.form
  obtain ⟨g, off, u0, rfl, x0, r0⟩ := L9.at_ (k := 0) (by show 0 < 2; decide)
  obtain ⟨g', off', u1, e1, x1, r1⟩ := L9.at_ (k := 1) (by show 1 < 2; decide)
  obtain ⟨rfl, rfl⟩ : g = g' ∧ off = off' := by injection e1 with e1; injection e1 with e1 e2 _; exact ⟨e1, e2⟩
  have v0 : ∀ dst, Try.prog.underlying dst = some .string → (convert 37 dst u0).run Try.prog w9 = .ok (.string (str [97])) w9 := conv_bts r0
  have v1 : ∀ dst, Try.prog.underlying dst = some .string → (convert 37 dst u1).run Try.prog w9 = .ok (.string (str [98])) w9 := conv_bts r1
  have y0 : (str [97]).toList == [97] := by rw [str_list]; rfl
  have y1 : (str [98]).toList == [98] := by rw [str_list]; rfl
  clear hB9 ho9 hb9 L9 e1 r0 r1
  simp at x0
  go_wp2_with fail
  go_returns
  exact ⟨rfl, B9.out⟩
end Go.Proofs.Ytgohnidndjbjiaa
