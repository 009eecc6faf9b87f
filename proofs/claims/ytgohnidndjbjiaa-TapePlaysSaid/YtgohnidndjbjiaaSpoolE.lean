/-
  Layer 18: Bytes, and the rest, at any state.
-/
import Derived.Test.YtgohnidndjbjiaaSpoolD
import Derived.Test.YtgohnidndjbjiaaCopy
namespace Go.Proofs.Ytgohnidndjbjiaa
open Go Go.RowKit Go.Lib
set_option linter.unusedVariables false

theorem own_len (A : Option Addr) (n c m d : Nat) : (Value.slice A n c).ownBlock = (Value.slice A m d).ownBlock := by cases A <;> rfl
theorem bytes_off (w : World) (sb : Nat) (room : Int) (dv : Value) (sure left : Int) (h : SB w sb room dv sure left true) :
    Calls Try.prog 48 #[.pointer (some ⟨sb, 0, none⟩)] w fun e w' => e = .returned (.slice none 0 0) ∧ w' = w := by
  have HO := Lib.hid (on_any w sb room _ sure left true h)
  clear h
  go_enter Try.func48, Try.ntmps48
  go_wp2_with fail
  refine HO.out.mono ?_; rintro e w1 ⟨rfl, rfl⟩
  go_wp2_with fail
  go_returns
  exact ⟨rfl, rfl⟩
def BytesTo (w : World) (xs : List UInt8) (e : Ending) (w' : World) : Prop :=
  ∃ g, w.heap.size ≤ g ∧ e = .returned (.slice (some ⟨g, 0, none⟩) xs.length xs.length) ∧ Blk w' g (bts xs).toArray 5 ∧ Below w.heap.size w w'
theorem bytes_on (w : World) (base sb : Nat) (room : Int) (A : Option Addr) (c : Nat) (xs : List UInt8) (sure left : Int) (h : SB w sb room (.slice A xs.length c) sure left false) (hD : Dat w base 5 (.slice A xs.length c) (bts xs)) (hn : xs.length ≤ 1048576) :
    Calls Try.prog 48 #[.pointer (some ⟨sb, 0, none⟩)] w (BytesTo w xs) := by
  obtain ⟨i0, hi, hz0, hz1, hz2⟩ := info_parts Try.infoU8
  obtain ⟨c0, c1, c2, c3, c4, f⟩ := h.cells
  have HO := Lib.hid (on_any w sb room _ sure left false h)
  have HD := Lib.hid hD
  have H := Lib.hid h
  clear h f hD
  go_enter Try.func48, Try.ntmps48
  go_wp2_with fail
  refine HO.out.mono ?_; rintro e w1 ⟨rfl, rfl⟩
  go_wp2_with (with_reducible refine wpList_make_blk rfl _ _ 37 rfl 5 i0 (.int .u8 0) Try.underlying37 hi hz0 hz1 rfl .i64 .i64 xs.length xs.length xs.length rfl rfl rfl rfl ?q1 ?q2 ?_)
  case q1 => rw [hz2]; omega
  case q2 => unfold maxLen; omega
  intro w2 hb2 hl2 hsz2
  have S2 := SB.cells (Blk.kept H.out hl2)
  have D2 : Hid (Rd w2 (fun _ => True) (.slice A xs.length c) (bts xs)) := (Dat.rd HD.out (fun _ _ => trivial)).kept hl2
  obtain ⟨d0, d1, d2, d3, d4, _⟩ := S2
  have HB2 := Lib.hid hb2
  have HL2 := Lib.hid hl2
  clear hb2 hl2 hsz2 c0 c1 c2 c3 c4
  go_wp2_with (with_reducible refine wpList_copy_full rfl _ _ 37 37 rfl 5 Try.underlying37 ?q3 w1.heap.size xs.length (fun _ => True) (.slice A xs.length c) (bts xs) rfl rfl D2.out (bts_len xs) _ 5 HB2.out ?q4 (bts_one xs) ?_)
  case q3 => kernel_rfl
  case q4 => simp
  intro w3 hb3 hf3
  have HB3 := Lib.hid hb3
  have HF3 := Lib.hid hf3
  clear hb3 hf3
  go_wp2_with fail
  go_returns
  exact ⟨_, Nat.le_refl _, rfl, HB3.out, HL2.out.trans (HF3.out.below HL2.out.size fun b e => by omega)⟩

section
variable {w : World} {base sb : Nat} {N : Nat → Prop} {s : St}
theorem sync_any (h : Sp w base N sb s) :
    Calls Try.prog 30 #[.pointer (some ⟨sb, 0, none⟩)] w fun e w' => e = .returned (.int .i64 (syncS s).2) ∧ SpTo w base N sb (syncS s).1 w' := by
  have h' := h
  obtain ⟨⟨o1, o2, o3, o4, o5⟩, h2, h3, dv, hB, hD, hN⟩ := h'
  obtain ⟨room, xs, sure, left, off⟩ := s
  dsimp only at *
  obtain ⟨A, c, rfl, hc, hcm, _⟩ := dat_form hD
  have hne : ∀ g, (Value.slice A xs.length c).ownBlock = some g → g ≠ sb := fun g hg e => dat_ne hB hD (hg.trans (by rw [e]))
  unfold syncS
  dsimp only
  cases off with
  | true =>
    rw [if_pos rfl]
    exact (sync_off w sb room _ sure left hB).mono fun e w' ⟨he, hw⟩ => ⟨he, by subst hw; exact h.same (Fr.refl _ _)⟩
  | false =>
    rw [if_neg (by decide)]
    by_cases hl : left = 0
    · subst hl
      rw [if_pos rfl]
      refine (sync_lost w sb room _ sure hB).mono fun e w' ⟨he, hw⟩ => ⟨he, ?_⟩
      subst hw
      exact h.put (Fr.refl _ _) 4 (.bool true) ⟨o1, o2, o3, o4, o5⟩ (Blk.set hB 4 (.bool true)) hne hD hN
    · rw [if_neg hl]
      refine (sync_ok w sb room A xs.length c sure left hB hl o5).mono fun e w' ⟨he, h7, h8⟩ => ⟨he, ?_⟩
      have := tick_bd o4 o5
      exact h.to ⟨Nat.le_refl _, o2, o3, this.1, this.2⟩ h7 (hD.fr h8 hne) (fun g hg => .inl (hN g hg)) (h8.mono fun b _ e => e ▸ h3)
theorem cut_any (k : Int) (h : Sp w base N sb s) :
    Calls Try.prog 50 #[.pointer (some ⟨sb, 0, none⟩), .int .i64 k] w fun e w' => e = .returned (.int .i64 (cutS s k).2) ∧ SpTo w base N sb (cutS s k).1 w' := by
  have h' := h
  obtain ⟨⟨o1, o2, o3, o4, o5⟩, h2, h3, dv, hB, hD, hN⟩ := h'
  obtain ⟨room, xs, sure, left, off⟩ := s
  dsimp only at *
  obtain ⟨A, c, rfl, hc, hcm, hcut⟩ := dat_form hD
  have hne : ∀ g, (Value.slice A xs.length c).ownBlock = some g → g ≠ sb := fun g hg e => dat_ne hB hD (hg.trans (by rw [e]))
  unfold cutS
  dsimp only
  cases off with
  | true =>
    rw [if_pos rfl]
    exact (cut_off w sb room _ sure left k hB).mono fun e w' ⟨he, hw⟩ => ⟨he, by subst hw; exact h.same (Fr.refl _ _)⟩
  | false =>
    rw [if_neg (by decide)]
    by_cases hk : k < 0 ∨ (xs.length : Int) < k
    · rw [if_pos hk]
      exact (cut_arg w sb room A xs.length c sure left k hB hk).mono fun e w' ⟨he, hw⟩ => ⟨he, by subst hw; exact h.same (Fr.refl _ _)⟩
    · rw [if_neg hk]
      by_cases hl : left = 0
      · subst hl
        rw [if_pos rfl]
        refine (cut_lost w sb room A xs.length c sure k hB (by omega) (by omega)).mono fun e w' ⟨he, hw⟩ => ⟨he, ?_⟩
        subst hw
        exact h.put (Fr.refl _ _) 4 (.bool true) ⟨o1, o2, o3, o4, o5⟩ (Blk.set hB 4 (.bool true)) hne hD hN
      · rw [if_neg hl]
        obtain ⟨m, rfl⟩ : ∃ m : Nat, k = m := ⟨k.toNat, by omega⟩
        refine (cut_ok w sb room A xs.length c m sure left hB (by omega) hc hcm hl o5).mono fun e w' ⟨he, h7, h8⟩ => ⟨he, ?_⟩
        have := tick_bd o4 o5
        have hD2 : Dat w base 5 (.slice A m m) (bts (xs.take m)) := hcut m (by omega)
        rw [Int.toNat_natCast]
        refine h.to ⟨?_, ?_, o3, this.1, this.2⟩ h7 (hD2.fr h8 fun g hg => hne g ((own_len _ _ _ _ _).trans hg)) (fun g hg => .inl (hN g ((own_len _ _ _ _ _).trans hg))) (h8.mono fun b _ e => e ▸ h3)
        · dsimp only; rw [List.length_take]; omega
        · dsimp only; rw [List.length_take]; omega
theorem off_any (k : Int) (hk : k ≤ 9223372036854775807) (h : Sp w base N sb s) :
    Calls Try.prog 18 #[.pointer (some ⟨sb, 0, none⟩), .int .i64 k] w fun e w' => e = .returned (.tuple #[]) ∧ SpTo w base N sb (offS s k) w' := by
  have h' := h
  obtain ⟨⟨o1, o2, o3, o4, o5⟩, h2, h3, dv, hB, hD, hN⟩ := h'
  refine (off_run w sb _ dv _ _ k _ hB).mono fun e w' ⟨he, hw⟩ => ⟨he, ?_⟩
  subst hw
  exact h.put (Fr.refl _ _) 3 (.int .i64 (max k (-1))) ⟨o1, o2, o3, by show -1 ≤ max k (-1); omega, by show max k (-1) ≤ _; omega⟩ (Blk.set hB 3 (.int .i64 (max k (-1)))) (fun g hg e => dat_ne hB hD (hg.trans (by rw [e]))) hD hN
theorem crash_any (k : Int) (h : Sp w base N sb s) :
    Calls Try.prog 22 #[.pointer (some ⟨sb, 0, none⟩), .int .i64 k] w fun e w' => e = .returned (.tuple #[]) ∧ SpTo w base N sb (crashS s k) w' := by
  have h' := h
  obtain ⟨⟨o1, o2, o3, o4, o5⟩, h2, h3, dv, hB, hD, hN⟩ := h'
  obtain ⟨room, xs, sure, left, off⟩ := s
  dsimp only at *
  obtain ⟨A, c, rfl, hc, hcm, hcut⟩ := dat_form hD
  refine (crash_run w sb room A xs.length c sure left k off hB o1 (by omega) hc hcm _ rfl).mono fun e w' ⟨he, h7, h8⟩ => ⟨he, ?_⟩
  have hm : sure + min k.toNat (xs.length - sure) ≤ xs.length := by omega
  have hD2 := hcut _ hm
  have hl : (xs.take (sure + min k.toNat (xs.length - sure))).length = sure + min k.toNat (xs.length - sure) := by rw [List.length_take]; omega
  refine h.to (s' := crashS ⟨room, xs, sure, left, off⟩ k) ⟨?_, ?_, o3, Int.le_refl _, (by decide : (-1 : Int) ≤ 9223372036854775807)⟩ h7 (hD2.fr h8 fun g hg e => dat_ne hB hD (((own_len _ _ _ _ _).trans hg).trans (by rw [e]))) (fun g hg => .inl (hN g ((own_len _ _ _ _ _).trans hg))) (h8.mono fun b _ e => e ▸ h3)
  · show _ ≤ (xs.take (sure + min k.toNat (xs.length - sure))).length
    rw [hl]; exact Nat.le_refl _
  · show ((xs.take (sure + min k.toNat (xs.length - sure))).length : Int) ≤ room
    rw [hl]; omega
theorem bytes_any (h : Sp w base N sb s) (ho : s.off = false) : Calls Try.prog 48 #[.pointer (some ⟨sb, 0, none⟩)] w (BytesTo w s.xs) := by
  obtain ⟨⟨o1, o2, o3, o4, o5⟩, h2, h3, dv, hB, hD, hN⟩ := h
  rw [ho] at hB
  obtain ⟨A, c, rfl, hc, hcm, _⟩ := dat_form hD
  exact bytes_on w base sb _ A c s.xs _ _ hB hD (by omega)
theorem bytes_dim (h : Sp w base N sb s) (ho : s.off = true) : Calls Try.prog 48 #[.pointer (some ⟨sb, 0, none⟩)] w fun e w' => e = .returned (.slice none 0 0) ∧ w' = w := by
  obtain ⟨⟨o1, o2, o3, o4, o5⟩, h2, h3, dv, hB, hD, hN⟩ := h
  rw [ho] at hB
  exact bytes_off w sb _ dv _ _ hB
theorem len_any (h : Sp w base N sb s) : Calls Try.prog 28 #[.pointer (some ⟨sb, 0, none⟩)] w fun e w' => e = .returned (.int .i64 (if s.off then 0 else s.xs.length)) ∧ w' = w := by
  obtain ⟨⟨o1, o2, o3, o4, o5⟩, h2, h3, dv, hB, hD, hN⟩ := h
  obtain ⟨A, c, rfl, hc, hcm, _⟩ := dat_form hD
  exact len_run w sb _ A _ c _ _ _ hB
theorem on_spool (h : Sp w base N sb s) : Calls Try.prog 47 #[.pointer (some ⟨sb, 0, none⟩)] w fun e w' => e = .returned (.bool (!s.off)) ∧ w' = w := by
  obtain ⟨⟨o1, o2, o3, o4, o5⟩, h2, h3, dv, hB, hD, hN⟩ := h
  exact on_any w sb _ dv _ _ _ hB
end
end Go.Proofs.Ytgohnidndjbjiaa
