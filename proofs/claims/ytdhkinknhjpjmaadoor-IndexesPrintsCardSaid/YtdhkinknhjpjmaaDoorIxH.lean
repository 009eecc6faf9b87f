/-
  gangerref06.one: at any text.
-/
import Derived.Test.YtdhkinknhjpjmaaDoorIxG
namespace Go.Proofs.YtdhkinknhjpjmaaDoor
open Go Go.RowKit Go.Lib
set_option linter.unusedVariables false

theorem numR_len (r : Bs) : (numR 0 0 r).2 ≤ 4 ∧ (numR 0 0 r).2 ≤ r.length := by
  obtain ⟨h1, h2, _⟩ := num_run0 St.init rfl rfl r 0
  exact ⟨h1, h2⟩
/-- What one answers. -/
def oneE (t : Nat) : One → Ending → Prop
  | .wrong k, e => ∃ a b c d : Int, e = .returned (.agg #[.int .i64 a, .int .i64 b, .int .i64 c, .int .i64 d, .int .i64 ((t + k : Nat) : Int)])
  | .item a b c k, e => e = .returned (.agg #[.int .i64 (a : Nat), .int .i64 (b : Nat), .int .i64 (c : Nat), .int .i64 ((t + k : Nat) : Int), .int .i64 (-1)])
theorem num_at (s : ByteArray) (hs : s.size ≤ 4000000000) (p : Nat) (hp : p ≤ s.size) (n k E : Nat) (h : numR 0 0 (s.data.toList.drop p) = (n, k)) (hE : E = p + k) : ∀ w : World,
    Calls Tryd.prog 26 #[.string s, .int .i64 p] w fun e w' => e = .returned (.tuple #[.int .i64 n, .int .i64 E]) ∧ w' = w := fun w => by
  have := refnum_any s p w hs hp
  rw [h] at this
  rw [hE]; exact this
theorem is_at (s : ByteArray) (hs : s.size ≤ 4000000000) (p : Nat) (hp : p ≤ s.size) (c : UInt8) (C : Nat) (hC : c.toNat = C) (q : Bool) (h : decide ((s.data.toList.drop p).head? = some c) = q) : ∀ w : World,
    Calls Tryd.prog 25 #[.string s, .int .i64 p, .int .u8 C] w fun e w' => e = .returned (.bool q) ∧ w' = w := fun w => by
  rw [← h, ← hC]; exact is_any s p c w hs hp
set_option maxRecDepth 100000 in
set_option maxHeartbeats 8000000 in
theorem one_any (s : ByteArray) (t : Nat) (w : World) (hs : s.size ≤ 4000000000) (ht : t ≤ s.size) :
    Calls Tryd.prog 23 #[.string s, .int .i64 t] w fun e w' => oneE t (oneV (s.data.toList.drop t)) e ∧ Below w.heap.size w w' := by
  have hlen : s.data.toList.length = s.size := Array.length_toList
  obtain ⟨l, hl⟩ : ∃ l, l = s.data.toList := ⟨_, rfl⟩
  have NUM := num_at s hs
  have ISA := is_at s hs
  rw [← hl] at hlen NUM ISA ⊢
  clear hl
  have hrl : (l.drop t).length = s.size - t := by rw [List.length_drop, hlen]
  obtain ⟨m0, m1⟩ := numR_len (l.drop t)
  unfold oneV
  cases hn0 : numR 0 0 (l.drop t) with
  | mk a k0 =>
  rw [hn0] at m0 m1
  dsimp only at m0 m1 ⊢
  obtain ⟨E0, hE0⟩ : ∃ E0, E0 = t + k0 := ⟨_, rfl⟩
  have hE0s : E0 ≤ s.size := by omega
  have N0 := Lib.hid (NUM t ht a k0 E0 hn0 hE0)
  by_cases hk0 : k0 = 0
  · rw [if_pos hk0]
    have q0 : ((E0 : Int) == (t : Int)) = true := by rw [beq_iff_eq]; omega
    have HE : Hid (∀ a b c d : Int, oneE t (.wrong 0) (.returned (.agg #[.int .i64 a, .int .i64 b, .int .i64 c, .int .i64 d, .int .i64 (t : Int)]))) := fun a b c d => ⟨a, b, c, d, by rw [show ((t + 0 : Nat) : Int) = (t : Int) by omega]⟩
    generalize oneE t (.wrong 0) = GG at *
    clear NUM ISA hn0 m0 m1 hrl hlen hE0 hk0
    go_enter Tryd.func23, Tryd.ntmps23
    go_wp2_with fail
    refine (N0.out _).mono ?_; rintro e w1 ⟨rfl, hw⟩; subst hw
    go_wp2_with fail
    go_returns
    exact ⟨HE.out _ _ _ _, by go_grown⟩
  · rw [if_neg hk0]
    have q0 : ((E0 : Int) == (t : Int)) = false := by rw [beq_eq_false_iff_ne]; omega
    have hd1 : (l.drop t).drop k0 = l.drop E0 := by rw [List.drop_drop, hE0]
    rw [hd1]
    unfold oneB
    by_cases h45 : (l.drop E0).head? = some 45
    · rw [if_pos h45]
      have I1 := Lib.hid (ISA E0 hE0s 45 45 rfl true (decide_eq_true h45))
      have hl1 := tail_len h45
      rw [List.length_drop, hlen] at hl1
      have ht1 : (l.drop E0).tail = l.drop (E0 + 1) := by rw [List.tail_drop]
      rw [ht1]
      obtain ⟨m2, m3⟩ := numR_len (l.drop (E0 + 1))
      rw [List.length_drop, hlen] at m3
      cases hn1 : numR 0 0 (l.drop (E0 + 1)) with
      | mk b k1 =>
      rw [hn1] at m2 m3
      dsimp only at m2 m3 ⊢
      obtain ⟨E1, hE1⟩ : ∃ E1, E1 = E0 + 1 + k1 := ⟨_, rfl⟩
      have hE1s : E1 ≤ s.size := by omega
      have e1 : ((E0 + 1 : Nat) : Int) = (E0 : Int) + 1 := by omega
      have N1 := Lib.hid (NUM (E0 + 1) (by omega) b k1 E1 hn1 hE1)
      rw [e1] at N1
      by_cases hk1 : k1 = 0
      · rw [if_pos hk1]
        have q1 : ((E1 : Int) == (E0 : Int) + 1) = true := by rw [beq_iff_eq]; omega
        have HE : Hid (∀ a b c d : Int, oneE t (.wrong (k0 + 1)) (.returned (.agg #[.int .i64 a, .int .i64 b, .int .i64 c, .int .i64 d, .int .i64 (E1 : Int)]))) := fun a b c d => ⟨a, b, c, d, by rw [show ((t + (k0 + 1) : Nat) : Int) = (E1 : Int) by omega]⟩
        generalize oneE t (.wrong (k0 + 1)) = GG at *
        clear NUM ISA hn0 hn1 m0 m1 m2 m3 hrl hlen hE0 hk0 hE1 hk1 hl1 ht1 hd1 e1 h45
        go_enter Tryd.func23, Tryd.ntmps23
        go_wp2_with fail
        refine (N0.out _).mono ?_; rintro e w1 ⟨rfl, hw⟩; subst hw
        go_wp2_with fail
        refine (I1.out _).mono ?_; rintro e w1 ⟨rfl, hw⟩; subst hw
        go_wp2_with fail
        refine (N1.out _).mono ?_; rintro e w1 ⟨rfl, hw⟩; subst hw
        go_wp2_with fail
        go_returns
        exact ⟨HE.out _ _ _ _, by go_grown⟩
      · rw [if_neg hk1]
        have q1 : ((E1 : Int) == (E0 : Int) + 1) = false := by rw [beq_eq_false_iff_ne]; omega
        have hd2 : (l.drop (E0 + 1)).drop k1 = l.drop E1 := by rw [List.drop_drop, hE1]
        rw [hd2]
        unfold oneC
        by_cases h58 : (l.drop E1).head? = some 58
        · rw [if_pos h58]
          have I2 := Lib.hid (ISA E1 hE1s 58 58 rfl true (decide_eq_true h58))
          have hl2 := tail_len h58
          rw [List.length_drop, hlen] at hl2
          have ht2 : (l.drop E1).tail = l.drop (E1 + 1) := by rw [List.tail_drop]
          rw [ht2]
          obtain ⟨m4, m5⟩ := numR_len (l.drop (E1 + 1))
          rw [List.length_drop, hlen] at m5
          cases hn2 : numR 0 0 (l.drop (E1 + 1)) with
          | mk c k2 =>
          rw [hn2] at m4 m5
          dsimp only at m4 m5 ⊢
          obtain ⟨E2, hE2⟩ : ∃ E2, E2 = E1 + 1 + k2 := ⟨_, rfl⟩
          have e2 : ((E1 + 1 : Nat) : Int) = (E1 : Int) + 1 := by omega
          have N2 := Lib.hid (NUM (E1 + 1) (by omega) c k2 E2 hn2 hE2)
          rw [e2] at N2
          by_cases hk2 : k2 = 0
          · rw [if_pos hk2]
            have q2 : ((E2 : Int) == (E1 : Int) + 1) = true := by rw [beq_iff_eq]; omega
            have HE : Hid (∀ a b c d : Int, oneE t (.wrong (k0 + 1 + k1 + 1)) (.returned (.agg #[.int .i64 a, .int .i64 b, .int .i64 c, .int .i64 d, .int .i64 (E2 : Int)]))) := fun a b c d => ⟨a, b, c, d, by rw [show ((t + (k0 + 1 + k1 + 1) : Nat) : Int) = (E2 : Int) by omega]⟩
            generalize oneE t (.wrong (k0 + 1 + k1 + 1)) = GG at *
            clear NUM ISA hn0 hn1 hn2 m0 m1 m2 m3 m4 m5 hrl hlen hE0 hk0 hE1 hk1 hE2 hk2 hl1 hl2 ht1 ht2 hd1 hd2 e1 e2 h45 h58
            go_enter Tryd.func23, Tryd.ntmps23
            go_wp2_with fail
            refine (N0.out _).mono ?_; rintro e w1 ⟨rfl, hw⟩; subst hw
            go_wp2_with fail
            refine (I1.out _).mono ?_; rintro e w1 ⟨rfl, hw⟩; subst hw
            go_wp2_with fail
            refine (N1.out _).mono ?_; rintro e w1 ⟨rfl, hw⟩; subst hw
            go_wp2_with fail
            refine (I2.out _).mono ?_; rintro e w1 ⟨rfl, hw⟩; subst hw
            go_wp2_with fail
            refine (N2.out _).mono ?_; rintro e w1 ⟨rfl, hw⟩; subst hw
            go_wp2_with fail
            go_returns
            exact ⟨HE.out _ _ _ _, by go_grown⟩
          · rw [if_neg hk2]
            have q2 : ((E2 : Int) == (E1 : Int) + 1) = false := by rw [beq_eq_false_iff_ne]; omega
            have HE : Hid (oneE t (.item a b c (k0 + 1 + k1 + 1 + k2)) (.returned (.agg #[.int .i64 (a : Nat), .int .i64 (b : Nat), .int .i64 (c : Nat), .int .i64 (E2 : Int), .int .i64 (-1)]))) := by unfold Hid oneE; dsimp only; rw [show ((t + (k0 + 1 + k1 + 1 + k2) : Nat) : Int) = (E2 : Int) by omega]
            generalize oneE t (.item a b c (k0 + 1 + k1 + 1 + k2)) = GG at *
            clear NUM ISA hn0 hn1 hn2 m0 m1 m2 m3 m4 m5 hrl hlen hE0 hk0 hE1 hk1 hE2 hk2 hl1 hl2 ht1 ht2 hd1 hd2 e1 e2 h45 h58
            go_enter Tryd.func23, Tryd.ntmps23
            go_wp2_with fail
            refine (N0.out _).mono ?_; rintro e w1 ⟨rfl, hw⟩; subst hw
            go_wp2_with fail
            refine (I1.out _).mono ?_; rintro e w1 ⟨rfl, hw⟩; subst hw
            go_wp2_with fail
            refine (N1.out _).mono ?_; rintro e w1 ⟨rfl, hw⟩; subst hw
            go_wp2_with fail
            refine (I2.out _).mono ?_; rintro e w1 ⟨rfl, hw⟩; subst hw
            go_wp2_with fail
            refine (N2.out _).mono ?_; rintro e w1 ⟨rfl, hw⟩; subst hw
            go_wp2_with fail
            go_returns
            exact ⟨HE.out, by go_grown⟩
        · rw [if_neg h58]
          have I2 := Lib.hid (ISA E1 hE1s 58 58 rfl false (decide_eq_false h58))
          have HE : Hid (oneE t (.item a b 1 (k0 + 1 + k1)) (.returned (.agg #[.int .i64 (a : Nat), .int .i64 (b : Nat), .int .i64 (1 : Int), .int .i64 (E1 : Int), .int .i64 (-1)]))) := by unfold Hid oneE; dsimp only; rw [show ((t + (k0 + 1 + k1) : Nat) : Int) = (E1 : Int) by omega]; rfl
          generalize oneE t (.item a b 1 (k0 + 1 + k1)) = GG at *
          clear NUM ISA hn0 hn1 m0 m1 m2 m3 hrl hlen hE0 hk0 hE1 hk1 hl1 ht1 hd1 hd2 e1 h45 h58
          go_enter Tryd.func23, Tryd.ntmps23
          go_wp2_with fail
          refine (N0.out _).mono ?_; rintro e w1 ⟨rfl, hw⟩; subst hw
          go_wp2_with fail
          refine (I1.out _).mono ?_; rintro e w1 ⟨rfl, hw⟩; subst hw
          go_wp2_with fail
          refine (N1.out _).mono ?_; rintro e w1 ⟨rfl, hw⟩; subst hw
          go_wp2_with fail
          refine (I2.out _).mono ?_; rintro e w1 ⟨rfl, hw⟩; subst hw
          go_wp2_with fail
          go_returns
          exact ⟨HE.out, by go_grown⟩
    · rw [if_neg h45]
      have I1 := Lib.hid (ISA E0 hE0s 45 45 rfl false (decide_eq_false h45))
      have HE : Hid (oneE t (.item a a 1 k0) (.returned (.agg #[.int .i64 (a : Nat), .int .i64 (a : Nat), .int .i64 (1 : Int), .int .i64 (E0 : Int), .int .i64 (-1)]))) := by unfold Hid oneE; dsimp only; rw [show ((t + k0 : Nat) : Int) = (E0 : Int) by omega]; rfl
      generalize oneE t (.item a a 1 k0) = GG at *
      clear NUM ISA hn0 m0 m1 hrl hlen hE0 hk0 hd1 h45
      go_enter Tryd.func23, Tryd.ntmps23
      go_wp2_with fail
      refine (N0.out _).mono ?_; rintro e w1 ⟨rfl, hw⟩; subst hw
      go_wp2_with fail
      refine (I1.out _).mono ?_; rintro e w1 ⟨rfl, hw⟩; subst hw
      go_wp2_with fail
      go_returns
      exact ⟨HE.out, by go_grown⟩
end Go.Proofs.YtdhkinknhjpjmaaDoor
