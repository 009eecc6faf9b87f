/-
  gangerref18: Crash; and all calls at any state.
-/
import Derived.Test.YtgohnidndjbjiaaSpoolT
import Derived.Test.YtgohnidndjbjiaaSpoolK
namespace Go.Proofs.Ytgohnidndjbjiaa
open Go Go.RowKit Go.Lib
set_option linter.unusedVariables false

/-- What a crash leaves: all firm, in new memory. -/
def RCrashTo (w : World) (mb : Nat) (room : Int) (xs : List UInt8) (e : Ending) (w' : World) : Prop :=
  e = .returned (.tuple #[]) ∧ ∃ v', RB w' mb v' (.slice none 0 0) room (-1) false ∧ w'.ownsRow w.heap.size 5 1 v' xs.length (bts xs) ∧ Fr (fun b => b = mb) w w'
theorem refCrash_run (w : World) (mb : Nat) (fv sv : Value) (room left k : Int) (dim : Bool) (K : Nat → Prop) (fs ss : List UInt8) (h : RB w mb fv sv room left dim) (hf : Rd w K fv (bts fs)) (hs : Rd w K sv (bts ss)) (hK : ∀ b, K b → b ≠ mb)
    (hn : fs.length ≤ 1048576) (hm : ss.length ≤ 1048576) :
    Calls Try.prog 23 #[.pointer (some ⟨mb, 0, none⟩), .int .i64 k] w (RCrashTo w mb room (fs ++ ss.take (min k.toNat ss.length))) := by
  obtain ⟨c0, c1, c2, c3, c4, f⟩ := h.cells
  have f4 := f 4
  have f3 := f 3
  have f1 := f 1
  have f0 := f 0
  have HF := Lib.hid hf
  have HS := Lib.hid hs
  have H := Lib.hid h
  obtain ⟨B, b, rfl, _⟩ := rd_form hs
  have hb : ss.length ≤ b ∧ b ≤ maxLen := by
    obtain ⟨A', c', h1, h2, h3, _⟩ := hs
    rw [bts_len] at h1 h2
    injection h1 with h1 h1' h1''
    subst h1''; exact ⟨h2, h3⟩
  obtain ⟨hb1, hb2⟩ := hb
  unfold maxLen at hb2
  clear f h hf hs
  go_enter Try.func23, Try.ntmps23
  go_wp2_with fail
  go_loop [4] (fun i => ∃ j : Nat, j ≤ ss.length ∧ j ≤ k.toNat ∧ i = .int .i64 j) (fun i => ss.length - (intOf i).toNat)
  case atStart => exact ⟨0, Nat.zero_le _, Nat.zero_le _, rfl⟩
  case round =>
    obtain ⟨j, hj, hjk, rfl⟩ := hrel
    by_cases hlt : j < ss.length ∧ (j : Int) < k
    · obtain ⟨hl1, hl2⟩ := hlt
      have hlt' : decide (j < ss.length) = true := decide_eq_true hl1
      go_wp2_with fail
      go_round
      case rel => exact ⟨j + 1, hl1, by omega, by go_num⟩
      case measure => simp [intOf]; omega
    · have hjm : Hid (min k.toNat ss.length = j) := by unfold Hid; omega
      have hjb : j ≤ b := by omega
      obtain ⟨w4, hw4⟩ : ∃ w4, w4 = ((w.setCell ⟨mb, 4, none⟩ (.bool false)).setCell ⟨mb, 3, none⟩ (.int .i64 (-1))).setCell ⟨mb, 1, none⟩ (.slice B j b) := ⟨_, rfl⟩
      have R4 : Hid (RB w4 mb fv (.slice B j b) room (-1) false) := by
        subst hw4; exact Blk.set (Blk.set (Blk.set H.out 4 (.bool false)) 3 (.int .i64 (-1))) 1 (.slice B j b)
      have F4 : Hid (Fr (fun b => b = mb) w w4) := by
        subst hw4; exact ((Fr.one w mb 4 (.bool false)).trans (Fr.one _ mb 3 (.int .i64 (-1))) fun _ _ h => h).trans (Fr.one _ mb 1 (.slice B j b)) fun _ _ h => h
      have Z4 : Hid (w4.heap.size = w.heap.size) := by subst hw4; simp [Hid]
      have A4 : Hid (Calls Try.prog 45 #[.pointer (some ⟨mb, 0, none⟩)] w4 (CopyTo w4 (fs ++ ss.take j))) :=
        all_run w4 mb fv _ room _ K fs (ss.take j) R4.out (HF.out.fr F4.out fun b hb _ => hK b hb) ((rd_take HS.out j hj).fr F4.out fun b hb _ => hK b hb) hn (by rw [List.length_take]; omega)
      have W4 := Lib.hid hw4
      clear hw4
      by_cases hl1 : j < ss.length
      all_goals
        first
          | (have hl2 : ¬ (j : Int) < k := fun h => hlt ⟨hl1, h⟩
             have hlt' : decide (j < ss.length) = true := decide_eq_true hl1)
          | (have hlt' : decide (j < ss.length) = false := decide_eq_false hl1)
        clear hlt
        go_wp2_with fail
        rw [← W4.out]
        refine A4.out.mono ?_; rintro e w5 ⟨v5, rfl, ho5, hb5⟩
        clear c0 c1 c2 c3 c4 f4 f3 f1 f0
        have HO5 := Lib.hid ho5
        have HB5 := Lib.hid hb5
        have hs5 : RB w5 mb fv (.slice B j b) room (-1) false := Blk.kept R4.out hb5
        obtain ⟨c0, c1, c2, c3, c4, f⟩ := RB.cells hs5
        have f1 := f 1
        have f0 := f 0
        have HS5 := Lib.hid hs5
        obtain ⟨A5, d5, rfl⟩ := owned_slice ho5
        generalize hnn : (fs ++ ss.take j).length = nn at *
        have HN := Lib.hid hnn
        clear ho5 hb5 hs5 f hnn
        go_wp2_with fail
        go_returns
        have hF5 : Fr (fun b => b = mb) w w5 := Fr.trans (M := fun _ => False) F4.out (fr_of_below HB5.out fun b h1 h2 => by omega) fun _ _ h => h.elim
        have hF7 := (hF5.trans (Fr.one w5 mb 0 (.slice A5 nn d5)) fun _ _ h => h).trans (Fr.one _ mb 1 (.slice none 0 0)) fun _ _ h => h
        have hB := Blk.set (Blk.set HS5.out 0 (.slice A5 nn d5)) 1 (.slice none 0 0)
        have hN : ∀ g, (Value.slice A5 nn d5).ownBlock = some g → ¬ g = mb := fun g hg e => by
          have := owns_base HO5.out hg
          have := Blk.lt R4.out
          omega
        have hO : w5.ownsRow w.heap.size 5 1 (.slice A5 nn d5) nn (bts (fs ++ ss.take j)) := by rw [← Z4.out]; exact HO5.out
        have hO7 := owns_fr (owns_fr hO (Fr.one w5 mb 0 (.slice A5 nn d5)) hN) (Fr.one _ mb 1 (.slice none 0 0)) hN
        refine ⟨rfl, .slice A5 nn d5, hB, ?_, hF7⟩
        rw [hjm.out, HN.out]; exact hO7

/-- The document's spool behind a pointer, at a state; its blocks are those of M. -/
def Rf (w : World) (base : Nat) (M : Nat → Prop) (mb : Nat) (s : St) : Prop :=
  s.Ok ∧ (∀ b, M b → base ≤ b ∧ b < w.heap.size) ∧ M mb ∧ ∃ fv sv fs ss, RB w mb fv sv s.room s.left s.off ∧ Rd w (fun b => M b ∧ b ≠ mb) fv (bts fs) ∧ Rd w (fun b => M b ∧ b ≠ mb) sv (bts ss) ∧ s.xs = fs ++ ss ∧ s.sure = fs.length
def RfTo (w : World) (base : Nat) (M : Nat → Prop) (mb : Nat) (s : St) (w' : World) : Prop :=
  ∃ M', (∀ b, b < w.heap.size → (M' b ↔ M b)) ∧ Rf w' base M' mb s ∧ Fr M w w'
section
variable {w w' : World} {base mb : Nat} {M N : Nat → Prop} {s s' : St}
theorem Rf.fr (h : Rf w base M mb s) (f : Fr N w w') (hd : ∀ b, M b → ¬ N b) : Rf w' base M mb s := by
  obtain ⟨h1, h2, h3, fv, sv, fs, ss, h4, h5, h6, h7⟩ := h
  exact ⟨h1, fun b hb => ⟨(h2 b hb).1, Nat.lt_of_lt_of_le (h2 b hb).2 f.size⟩, h3, fv, sv, fs, ss, Blk.fr h4 f (hd mb h3), h5.fr f fun b hb _ => hd b hb.1, h6.fr f fun b hb _ => hd b hb.1, h7⟩
theorem Rf.same (h : Rf w base M mb s) (hF : Fr (fun _ => False) w w') : RfTo w base M mb s w' :=
  ⟨M, fun _ _ => Iff.rfl, h.fr hF (fun _ _ h => h), hF.mono fun _ _ h => h.elim⟩
/-- The rows are its own, and lie in old blocks of M or in new ones. -/
theorem Rf.to {fv sv : Value} {fs ss : List UInt8} (h : Rf w base M mb s) (hO : s'.Ok) (hB : RB w' mb fv sv s'.room s'.left s'.off)
    (hf : Rd w' (fun b => (M b ∨ w.heap.size ≤ b) ∧ b ≠ mb) fv (bts fs)) (hs : Rd w' (fun b => (M b ∨ w.heap.size ≤ b) ∧ b ≠ mb) sv (bts ss)) (hx : s'.xs = fs ++ ss) (hy : s'.sure = fs.length)
    (hF : Fr (fun b => b = mb) w w') : RfTo w base M mb s' w' := by
  obtain ⟨h1, h2, h3, _⟩ := h
  have hp : ∀ b, b < w'.heap.size → (M b ∨ w.heap.size ≤ b) ∧ b ≠ mb → ((b < w.heap.size ∧ M b) ∨ (w.heap.size ≤ b ∧ b < w'.heap.size)) ∧ b ≠ mb := by
    rintro b hb ⟨h | h, hne⟩
    · exact ⟨.inl ⟨(h2 b h).2, h⟩, hne⟩
    · exact ⟨.inr ⟨h, hb⟩, hne⟩
  refine ⟨fun b => (b < w.heap.size ∧ M b) ∨ (w.heap.size ≤ b ∧ b < w'.heap.size), fun b hb => ⟨?_, fun h => .inl ⟨hb, h⟩⟩, ⟨hO, fun b hb => ?_, .inl ⟨(h2 mb h3).2, h3⟩, fv, sv, fs, ss, hB, hf.mono hp, hs.mono hp, hx, hy⟩, hF.mono fun b _ e => e ▸ h3⟩
  · rintro (h | h)
    · exact h.2
    · omega
  · have := h2 mb h3
    rcases hb with hb | hb
    · exact ⟨(h2 b hb.2).1, Nat.lt_of_lt_of_le hb.1 hF.size⟩
    · exact ⟨by omega, hb.2⟩
theorem rd_new {xs : List UInt8} {v : Value} (hm : mb < w.heap.size) (h : w'.ownsRow w.heap.size 5 1 v xs.length (bts xs)) : Rd w' (fun b => (M b ∨ w.heap.size ≤ b) ∧ b ≠ mb) v (bts xs) :=
  Rd.of_owns (by rw [bts_len]; exact h) fun g hg => ⟨.inr (owns_base h hg), by have := owns_base h hg; omega⟩
theorem rd_old {xs : List UInt8} {v : Value} (h : Rd w (fun b => M b ∧ b ≠ mb) v (bts xs)) (hF : Fr (fun b => b = mb) w w') : Rd w' (fun b => (M b ∨ w.heap.size ≤ b) ∧ b ≠ mb) v (bts xs) :=
  (h.fr hF fun b hb _ => hb.2).mono fun b _ hb => ⟨.inl hb.1, hb.2⟩

theorem rdNil (w : World) (K : Nat → Prop) : Rd w K (.slice none 0 0) (bts []) := Rd.nil w K
theorem refNew_any (n : Int) (w : World) (base : Nat) (h1 : 1 ≤ n) (h2 : n ≤ 1048576) (hb : base ≤ w.heap.size) :
    Calls Try.prog 31 #[.int .i64 n] w fun e w' => e = .returned (.tuple #[.pointer (some ⟨w.heap.size, 0, none⟩), .int .i64 0]) ∧
      Rf w' base (fun b => b = w.heap.size) w.heap.size ⟨n, [], 0, -1, false⟩ ∧ Below w.heap.size w w' ∧ w'.heap.size = w.heap.size + 1 := by
  refine (refNew_run n w h1 h2).mono fun e w' ⟨he, hw⟩ => ⟨he, ?_, ?_, ?_⟩
  · subst hw
    refine ⟨⟨Nat.zero_le _, by simp; omega, h2, Int.le_refl _, (by decide : (-1 : Int) ≤ 9223372036854775807)⟩, fun b e => ?_, rfl, .slice none 0 0, .slice none 0 0, [], [], Blk.new _ _ _, rdNil _ _, rdNil _ _, rfl, rfl⟩
    subst e; exact ⟨hb, by simp⟩
  · subst hw; exact (Below.refl _ _).alloc (Nat.le_refl _) _
  · subst hw; simp
theorem refAdd_any {K : Nat → Prop} {bv : Value} {ys : List UInt8} (h : Rf w base M mb s) (hS : Rd w K bv (bts ys)) (hK : ∀ b, K b → ¬ M b) (hy : ys.length ≤ 1048576) :
    Calls Try.prog 41 #[.pointer (some ⟨mb, 0, none⟩), bv] w fun e w' => e = .returned (.int .i64 (addS s ys).2) ∧ RfTo w base M mb (addS s ys).1 w' := by
  have h' := h
  obtain ⟨⟨o1, o2, o3, o4, o5⟩, h2, h3, fv, sv, fs, ss, hB, hf, hs, hx, hu⟩ := h'
  obtain ⟨room, xs, sure, left, off⟩ := s
  dsimp only at *
  subst hx hu
  rw [List.length_append] at o1 o2
  have hlt := (h2 mb h3).2
  obtain ⟨A, a, rfl, _⟩ := rd_form hf
  obtain ⟨B, b, rfl, _⟩ := rd_form hs
  obtain ⟨C, d, rfl, _⟩ := rd_form hS
  unfold addS
  dsimp only
  rw [List.length_append]
  cases off with
  | true =>
    rw [if_pos rfl]
    exact (refAdd_dim w mb _ _ _ room left hB).mono fun e w' ⟨he, hw⟩ => ⟨he, by subst hw; exact h.same (Fr.refl _ _)⟩
  | false =>
    rw [if_neg (by decide)]
    by_cases hc : room - ((fs.length + ss.length : Nat) : Int) < ys.length
    · rw [if_pos hc]
      refine (refAdd_full w mb A B C _ a _ b _ d room left hB (by omega) (by omega) hy (by omega) o3 (by omega)).mono fun e w' ⟨he, k, hw⟩ => ⟨he, ?_⟩
      subst hw; exact h.same ((Fr.refl _ _).drewN k)
    · rw [if_neg hc]
      by_cases hl : left = 0
      · subst hl
        rw [if_pos rfl]
        refine (refAdd_lost w mb A B C _ a _ b _ d room hB (by omega) (by omega) hy (by omega) o3 (by omega)).mono fun e w' ⟨he, k, hw⟩ => ⟨he, ?_⟩
        subst hw
        have hF : Fr (fun b => b = mb) w ((w.drewN k).setCell ⟨mb, 4, none⟩ (.bool true)) := by have := Fr.one (w.drewN k) mb 4 (.bool true); exact ⟨this.os, this.tape, this.output, this.size, this.block⟩
        exact h.to (s' := ⟨room, fs ++ ss, fs.length, 0, true⟩) ⟨by simp, by simpa using o2, o3, o4, o5⟩ (Blk.set (w := w.drewN k) hB 4 (.bool true)) (rd_old hf hF) (rd_old hs hF) rfl rfl hF
      · rw [if_neg hl]
        refine (refAdd_ok w mb A _ a _ _ room left _ K ss ys hB hs hS (fun b hb => hb.2) (fun b hb e => hK b hb (e ▸ h3)) (by omega) (by omega) hy (by omega) o3 (by omega) hl o5).mono fun e w' ⟨he, v', h7, h8, h9⟩ => ⟨he, ?_⟩
        have := tick_bd o4 o5
        exact h.to (s' := ⟨room, fs ++ ss ++ ys, fs.length, tick left, false⟩) ⟨by simp, by simp; omega, o3, this.1, this.2⟩ h7 (rd_old hf h9) (rd_new hlt h8) (by simp) rfl h9
theorem refSync_any (h : Rf w base M mb s) :
    Calls Try.prog 42 #[.pointer (some ⟨mb, 0, none⟩)] w fun e w' => e = .returned (.int .i64 (syncS s).2) ∧ RfTo w base M mb (syncS s).1 w' := by
  have h' := h
  obtain ⟨⟨o1, o2, o3, o4, o5⟩, h2, h3, fv, sv, fs, ss, hB, hf, hs, hx, hu⟩ := h'
  obtain ⟨room, xs, sure, left, off⟩ := s
  dsimp only at *
  subst hx hu
  rw [List.length_append] at o1 o2
  have hlt := (h2 mb h3).2
  unfold syncS
  dsimp only
  have no : ∀ w', w' = w.setCell ⟨mb, 4, none⟩ (.bool true) → RfTo w base M mb ⟨room, fs ++ ss, fs.length, left, true⟩ w' := by
    rintro w' rfl
    have hF := Fr.one w mb 4 (.bool true)
    exact h.to (s' := ⟨room, fs ++ ss, fs.length, left, true⟩) ⟨by simp, by simpa using o2, o3, o4, o5⟩ (Blk.set hB 4 (.bool true)) (rd_old hf hF) (rd_old hs hF) rfl rfl hF
  cases off with
  | true =>
    rw [if_pos rfl]
    exact (refSync_no w mb _ _ room left true hB (.inl rfl)).mono fun e w' ⟨he, hw⟩ => ⟨he, no w' hw⟩
  | false =>
    rw [if_neg (by decide)]
    by_cases hl : left = 0
    · rw [if_pos hl]
      exact (refSync_no w mb _ _ room left false hB (.inr hl)).mono fun e w' ⟨he, hw⟩ => ⟨he, no w' hw⟩
    · rw [if_neg hl]
      refine (refSync_ok w mb _ _ room left _ fs ss hB hf hs (fun b hb => hb.2) (by omega) (by omega) hl o5).mono fun e w' ⟨he, v', h7, h8, h9⟩ => ⟨he, ?_⟩
      have := tick_bd o4 o5
      exact h.to (s' := ⟨room, fs ++ ss, (fs ++ ss).length, tick left, false⟩) ⟨Nat.le_refl _, by simpa using o2, o3, this.1, this.2⟩ h7 (rd_new hlt h8) (rdNil _ _) (by simp) rfl h9
theorem refSpAll_any (h : Rf w base M mb s) (ho : s.off = false) : Calls Try.prog 45 #[.pointer (some ⟨mb, 0, none⟩)] w (CopyTo w s.xs) := by
  obtain ⟨⟨o1, o2, o3, o4, o5⟩, h2, h3, fv, sv, fs, ss, hB, hf, hs, hx, hu⟩ := h
  have hl : fs.length + ss.length = s.xs.length := by rw [hx, List.length_append]
  rw [ho] at hB
  rw [hx]
  exact all_run w mb fv sv _ _ _ fs ss hB hf hs (by omega) (by omega)
theorem refAll_dim (h : Rf w base M mb s) (ho : s.off = true) : Calls Try.prog 45 #[.pointer (some ⟨mb, 0, none⟩)] w fun e w' => e = .returned (.slice none 0 0) ∧ w' = w := by
  obtain ⟨⟨o1, o2, o3, o4, o5⟩, h2, h3, fv, sv, fs, ss, hB, hf, hs, hx, hu⟩ := h
  rw [ho] at hB
  exact all_dim w mb fv sv _ _ hB
theorem refCut_any (k : Int) (h : Rf w base M mb s) :
    Calls Try.prog 53 #[.pointer (some ⟨mb, 0, none⟩), .int .i64 k] w fun e w' => e = .returned (.int .i64 (cutS s k).2) ∧ RfTo w base M mb (cutS s k).1 w' := by
  have h' := h
  have hAll := refSpAll_any h
  obtain ⟨⟨o1, o2, o3, o4, o5⟩, h2, h3, fv, sv, fs, ss, hB, hf, hs, hx, hu⟩ := h'
  obtain ⟨room, xs, sure, left, off⟩ := s
  dsimp only at *
  subst hu
  have hlt := (h2 mb h3).2
  unfold cutS
  dsimp only
  cases off with
  | true =>
    rw [if_pos rfl]
    exact (refCut_dim w mb _ _ room left k hB).mono fun e w' ⟨he, hw⟩ => ⟨he, by subst hw; exact h.same (Fr.refl _ _)⟩
  | false =>
    rw [if_neg (by decide)]
    have hA := hAll rfl
    by_cases hk : k < 0 ∨ (xs.length : Int) < k
    · rw [if_pos hk]
      exact (refCut_arg w mb _ _ room left k xs hB hA hk).mono fun e w' ⟨he, hw⟩ => ⟨he, h.same (fr_of_below hw fun b h1 h2 => by omega)⟩
    · rw [if_neg hk]
      by_cases hl : left = 0
      · subst hl
        rw [if_pos rfl]
        refine (refCut_lost w mb _ _ room k xs hB hA (by omega) (by omega)).mono fun e w' ⟨he, w1, hb1, hw⟩ => ⟨he, ?_⟩
        subst hw
        have hF : Fr (fun b => b = mb) w (w1.setCell ⟨mb, 4, none⟩ (.bool true)) := Fr.trans (N := fun b => b = mb) (fr_of_below hb1 fun b h1 h2 => by omega) (Fr.one w1 mb 4 _) fun _ _ h => h
        exact h.to (s' := ⟨room, xs, fs.length, 0, true⟩) ⟨o1, o2, o3, o4, o5⟩ (Blk.set (Blk.kept hB hb1) 4 (.bool true)) (rd_old hf hF) (rd_old hs hF) hx rfl hF
      · rw [if_neg hl]
        obtain ⟨m, rfl⟩ : ∃ m : Nat, k = m := ⟨k.toNat, by omega⟩
        refine (refCut_ok w mb _ _ room left m xs hB hA (by omega) hl o5).mono fun e w' ⟨he, A, c, v, h7, h8, h9, h10, h11⟩ => ⟨he, ?_⟩
        have := tick_bd o4 o5
        rw [Int.toNat_natCast]
        have hl2 : (xs.take m).length = m := by rw [List.length_take]; omega
        have hr := rd_new (M := M) hlt h10
        rw [h9] at hr
        exact h.to (s' := ⟨room, xs.take m, m, tick left, false⟩) ⟨by dsimp only; omega, by dsimp only; omega, o3, this.1, this.2⟩ h7 (rd_take hr m (by omega)) (rdNil _ _) (by simp) hl2.symm h11
theorem refOff_any (k : Int) (hk : k ≤ 9223372036854775807) (h : Rf w base M mb s) :
    Calls Try.prog 19 #[.pointer (some ⟨mb, 0, none⟩), .int .i64 k] w fun e w' => e = .returned (.tuple #[]) ∧ RfTo w base M mb (offS s k) w' := by
  have h' := h
  obtain ⟨⟨o1, o2, o3, o4, o5⟩, h2, h3, fv, sv, fs, ss, hB, hf, hs, hx, hu⟩ := h'
  refine (refOff_run w mb _ _ _ _ k _ hB).mono fun e w' ⟨he, h7, h8⟩ => ⟨he, ?_⟩
  exact h.to (s' := offS s k) ⟨o1, o2, o3, by show -1 ≤ max k (-1); omega, by show max k (-1) ≤ _; omega⟩ h7 (rd_old hf h8) (rd_old hs h8) hx hu h8
theorem refCrash_any (k : Int) (h : Rf w base M mb s) :
    Calls Try.prog 23 #[.pointer (some ⟨mb, 0, none⟩), .int .i64 k] w fun e w' => e = .returned (.tuple #[]) ∧ RfTo w base M mb (crashS s k) w' := by
  have h' := h
  obtain ⟨⟨o1, o2, o3, o4, o5⟩, h2, h3, fv, sv, fs, ss, hB, hf, hs, hx, hu⟩ := h'
  obtain ⟨room, xs, sure, left, off⟩ := s
  dsimp only at *
  subst hx hu
  rw [List.length_append] at o1 o2
  have hlt := (h2 mb h3).2
  refine (refCrash_run w mb _ _ room left k off _ fs ss hB hf hs (fun b hb => hb.2) (by omega) (by omega)).mono fun e w' ⟨he, v', h7, h8, h9⟩ => ⟨he, ?_⟩
  have e1 : (fs ++ ss).take (fs.length + min k.toNat (fs.length + ss.length - fs.length)) = fs ++ ss.take (min k.toNat ss.length) := by
    rw [List.take_length_add_append, Nat.add_sub_cancel_left]
  have e2 : crashS ⟨room, fs ++ ss, fs.length, left, off⟩ k = ⟨room, fs ++ ss.take (min k.toNat ss.length), fs.length + min k.toNat ss.length, -1, false⟩ := by
    unfold crashS crashN
    dsimp only
    rw [List.length_append, e1, Nat.add_sub_cancel_left]
  rw [e2]
  have hl3 : (fs ++ ss.take (min k.toNat ss.length)).length = fs.length + min k.toNat ss.length := by rw [List.length_append, List.length_take]; omega
  exact h.to (s' := ⟨room, fs ++ ss.take (min k.toNat ss.length), fs.length + min k.toNat ss.length, -1, false⟩) ⟨by dsimp only; omega, by dsimp only; omega, o3, Int.le_refl _, (by decide : (-1 : Int) ≤ 9223372036854775807)⟩ h7 (rd_new hlt h8) (rdNil _ _) (by simp) hl3.symm h9
end
end Go.Proofs.Ytgohnidndjbjiaa
