/-
  gangerref09.more, Rune, Name: at any text.
-/
import Derived.Test.YtbnlmeegepgioaaDoorProg
import Derived.Test.YtbnlmeegepgioaaDoorMem
import Derived.Test.YtbnlmeegepgioaaDoorNm
import Derived.WalkKit
import Derived.ProofKit
import Derived.Deep.CutBlock
import Derived.Deep.DeepCutAuto
import Derived.Lib.Hide
namespace Go.Proofs.YtbnlmeegepgioaaDoor
open Go Go.RowKit Go.Lib
set_option linter.unusedVariables false

theorem byN_get {s : ByteArray} {k : Nat} (h : k < s.size) : (s[k]'h).toNat = byN s k := by
  show _ = (s.data[k]!).toNat
  rw [getElem!_pos s.data k h]; rfl
theorem more_yes (s : ByteArray) (k x : Nat) (w : World) (hs : s.size ≤ 9223372036854775807) (h : k < s.size) (h1 : 128 ≤ byN s k) (h2 : byN s k ≤ 191) (hx : x = byN s k - 128) :
    Calls Tryd.prog 65 #[.string s, .int .i64 k] w fun e w' => e = .returned (.tuple #[.int .i64 x, .bool true]) ∧ w' = w := by
  have hg := byN_get h
  have hki : (k : Int) < s.size := by omega
  have t1 : decide ((k : Int) ≥ s.size) = false := decide_eq_false (by omega)
  have t1n : decide (s.size ≤ k) = false := decide_eq_false (by omega)
  have hb8 := byN_lt s k
  generalize byN s k = b at *
  have t2 : decide ((b : Int) < 128) = false := decide_eq_false (by omega)
  have t2n : decide (b < 128) = false := decide_eq_false (by omega)
  have t3 : decide ((b : Int) > 191) = false := decide_eq_false (by omega)
  have t3n : decide (191 < b) = false := decide_eq_false (by omega)
  have hx' : (b : Int) - 128 = (x : Int) := by omega
  clear hx
  go_enter Tryd.func65, Tryd.ntmps65
  go_wp2_with fail
  go_ret2
  exact ⟨rfl, rfl⟩
theorem more_no (s : ByteArray) (k : Nat) (w : World) (hs : s.size ≤ 9223372036854775807) (hk : k ≤ 9223372036854775807) (h : ¬ (k < s.size ∧ 128 ≤ byN s k ∧ byN s k ≤ 191)) :
    Calls Tryd.prog 65 #[.string s, .int .i64 k] w fun e w' => e = .returned (.tuple #[.int .i64 0, .bool false]) ∧ w' = w := by
  by_cases hk0 : k < s.size
  · have hg := byN_get hk0
    have hki : (k : Int) < s.size := by omega
    have t1 : decide ((k : Int) ≥ s.size) = false := decide_eq_false (by omega)
    have t1n : decide (s.size ≤ k) = false := decide_eq_false (by omega)
    have hb8 := byN_lt s k
    generalize byN s k = b at *
    by_cases hb : b < 128
    · have t2 : decide ((b : Int) < 128) = true := decide_eq_true (by omega)
      have t2n : decide (b < 128) = true := decide_eq_true hb
      clear h
      go_enter Tryd.func65, Tryd.ntmps65
      go_wp2_with fail
      go_ret2
      exact ⟨rfl, rfl⟩
    · have t2 : decide ((b : Int) < 128) = false := decide_eq_false (by omega)
      have t2n : decide (b < 128) = false := decide_eq_false (by omega)
      have t3 : decide ((b : Int) > 191) = true := decide_eq_true (by omega)
      have t3n : decide (191 < b) = true := decide_eq_true (by omega)
      clear h
      go_enter Tryd.func65, Tryd.ntmps65
      go_wp2_with fail
      go_ret2
      exact ⟨rfl, rfl⟩
  · have t1 : decide ((k : Int) ≥ s.size) = true := decide_eq_true (by omega)
    have t1n : decide (s.size ≤ k) = true := decide_eq_true (by omega)
    clear h
    go_enter Tryd.func65, Tryd.ntmps65
    go_wp2_with fail
    go_ret2
    exact ⟨rfl, rfl⟩
/-- What Rune answers. -/
def runeR (s : ByteArray) (pos : Nat) : Value := .tuple #[.int .i64 (runeV s pos).1, .int .i64 (runeV s pos).2]
theorem runeR_of {s : ByteArray} {pos c k : Nat} (h : runeV s pos = (c, k)) : runeR s pos = .tuple #[.int .i64 c, .int .i64 k] := by unfold runeR; rw [h]
set_option maxRecDepth 100000 in
theorem Rune_low (s : ByteArray) (pos : Nat) (w : World) (hs : s.size ≤ 9223372036854775000) (hp : pos < s.size) (h : byN s pos < 128) :
    Calls Tryd.prog 61 #[.string s, .int .i64 pos] w fun e w' => e = .returned (runeR s pos) ∧ w' = w := by
  rw [runeR_of (rune_low h)]
  have hg := byN_get hp
  have hpi : (pos : Int) < s.size := by omega
  have hb8 := byN_lt s pos
  obtain ⟨b, hb⟩ : ∃ b, b = byN s pos := ⟨_, rfl⟩
  rw [← hb] at hg hb8
  rw [← hb] at h ⊢
  clear hb
  have t0 : decide ((b : Int) < 128) = true := decide_eq_true (by omega)
  have tn : decide (b < 128) = true := decide_eq_true h
  go_enter Tryd.func61, Tryd.ntmps61
  go_wp2_with fail
  go_ret2
  exact ⟨rfl, rfl⟩
set_option maxRecDepth 100000 in
theorem Rune_nonea (s : ByteArray) (pos : Nat) (w : World) (hs : s.size ≤ 9223372036854775000) (hp : pos < s.size) (h : 128 ≤ byN s pos ∧ byN s pos < 192) :
    Calls Tryd.prog 61 #[.string s, .int .i64 pos] w fun e w' => e = .returned (runeR s pos) ∧ w' = w := by
  rw [runeR_of (rune_none (by omega) (by omega))]
  have hg := byN_get hp
  have hpi : (pos : Int) < s.size := by omega
  have hb8 := byN_lt s pos
  obtain ⟨b, hb⟩ : ∃ b, b = byN s pos := ⟨_, rfl⟩
  rw [← hb] at hg hb8
  rw [← hb] at h
  clear hb
  have t0 : decide ((b : Int) < 128) = false := decide_eq_false (by omega)
  have t1 : decide ((b : Int) ≥ 192) = false := decide_eq_false (by omega)
  have t2 : decide ((b : Int) ≥ 224) = false := decide_eq_false (by omega)
  have t3 : decide ((b : Int) ≥ 240) = false := decide_eq_false (by omega)
  go_enter Tryd.func61, Tryd.ntmps61
  go_wp2_with fail
  go_ret2
  exact ⟨rfl, rfl⟩
set_option maxRecDepth 100000 in
theorem Rune_noneb (s : ByteArray) (pos : Nat) (w : World) (hs : s.size ≤ 9223372036854775000) (hp : pos < s.size) (h : 248 ≤ byN s pos) :
    Calls Tryd.prog 61 #[.string s, .int .i64 pos] w fun e w' => e = .returned (runeR s pos) ∧ w' = w := by
  rw [runeR_of (rune_none (by omega) (by omega))]
  have hg := byN_get hp
  have hpi : (pos : Int) < s.size := by omega
  have hb8 := byN_lt s pos
  obtain ⟨b, hb⟩ : ∃ b, b = byN s pos := ⟨_, rfl⟩
  rw [← hb] at hg hb8
  rw [← hb] at h
  clear hb
  have t0 : decide ((b : Int) < 128) = false := decide_eq_false (by omega)
  have t1 : decide ((b : Int) ≥ 192) = true := decide_eq_true (by omega)
  have t2 : decide ((b : Int) < 224) = false := decide_eq_false (by omega)
  have t3 : decide ((b : Int) ≥ 224) = true := decide_eq_true (by omega)
  have t4 : decide ((b : Int) < 240) = false := decide_eq_false (by omega)
  have t5 : decide ((b : Int) ≥ 240) = true := decide_eq_true (by omega)
  have t6 : decide ((b : Int) < 248) = false := decide_eq_false (by omega)
  go_enter Tryd.func61, Tryd.ntmps61
  go_wp2_with fail
  go_ret2
  exact ⟨rfl, rfl⟩
set_option maxRecDepth 100000 in
set_option maxHeartbeats 4000000 in
theorem Rune_1 (s : ByteArray) (pos : Nat) (w : World) (hs : s.size ≤ 9223372036854775000) (hp : pos < s.size) (h1 : 192 ≤ byN s pos) (h2 : byN s pos < 224) :
    Calls Tryd.prog 61 #[.string s, .int .i64 pos] w fun e w' => e = .returned (runeR s pos) ∧ w' = w := by
  have hcls : ClsV (byN s pos) 1 (byN s pos - 192) 128 := .inl ⟨h1, h2, rfl, rfl, rfl⟩
  obtain ⟨c0, hc0⟩ : ∃ c0, c0 = byN s pos - 192 := ⟨_, rfl⟩
  rw [← hc0] at hcls
  have hc0l : c0 < 32 := by omega
  have hfail : Hid (∀ j, 1 ≤ j → j ≤ 1 → ¬ contV s pos j → runeR s pos = .tuple #[.int .i64 0, .int .i64 0]) := fun j q1 q2 q3 => runeR_of (rune_fail hcls q1 q2 q3)
  have hall : Hid ((∀ j, 1 ≤ j → j ≤ 1 → contV s pos j) → (badR (accV s pos c0 1) 128 → runeR s pos = .tuple #[.int .i64 0, .int .i64 0]) ∧ (¬ badR (accV s pos c0 1) 128 → runeR s pos = .tuple #[.int .i64 (accV s pos c0 1 : Nat), .int .i64 2])) := fun hc => by
    obtain ⟨a, b⟩ := rune_all hcls hc
    exact ⟨fun h => runeR_of (a h), fun h => runeR_of (b h)⟩
  have hmy : Hid (∀ j, contV s pos j → j ≤ 3 → ∀ w, Calls Tryd.prog 65 #[.string s, .int .i64 ((pos + j : Nat) : Int)] w fun e w' => e = .returned (.tuple #[.int .i64 ((byN s (pos + j) - 128 : Nat) : Int), .bool true]) ∧ w' = w) := fun j hc hj w => more_yes s (pos + j) _ w (by omega) hc.1 hc.2.1 hc.2.2 rfl
  have hmn : Hid (∀ j, ¬ contV s pos j → j ≤ 3 → ∀ w, Calls Tryd.prog 65 #[.string s, .int .i64 ((pos + j : Nat) : Int)] w fun e w' => e = .returned (.tuple #[.int .i64 0, .bool false]) ∧ w' = w) := fun j hc hj w => more_no s (pos + j) w (by omega) (by omega) hc
  have hacc : Hid (∀ j, j ≤ 2 → accV s pos c0 j < 139392) := fun j hj => accV_lt s pos c0 j hc0l hj
  have hbyt : Hid (∀ i, byN s i < 256) := byN_lt s
  have hg := byN_get hp
  have hpi : (pos : Int) < s.size := by omega
  have hb8 := byN_lt s pos
  obtain ⟨b, hb⟩ : ∃ b, b = byN s pos := ⟨_, rfl⟩
  rw [← hb] at hg hb8
  rw [← hb] at h1 h2 hc0
  clear hb hcls
  have t0 : decide ((b : Int) < 128) = false := decide_eq_false (by omega)
  have t1 : decide ((b : Int) ≥ 192) = true := decide_eq_true (by omega)
  have t2 : decide ((b : Int) < 224) = true := decide_eq_true (by omega)
  have e0 : (b : Int) - 192 = (c0 : Int) := by omega
  generalize runeR s pos = res at *
  clear hc0
  go_enter Tryd.func61, Tryd.ntmps61
  go_wp2_with fail
  clear e0 t0 t1 t2
  go_loop [6, 9] (fun c i => ∃ j : Nat, j ≤ 1 ∧ i = .int .i64 ((j + 1 : Nat) : Int) ∧ c = .int .i64 ((accV s pos c0 j : Nat) : Int) ∧ Hid (∀ q, 1 ≤ q → q ≤ j → contV s pos q)) (fun _ i => 2 - (RowKit.intOf i).toNat)
  case atStart => exact ⟨0, by omega, rfl, rfl, fun q h1 h2 => by omega⟩
  case round =>
    obtain ⟨j, hj, rfl, rfl, hok⟩ := hrel
    by_cases hlt : j < 1
    · have u1 : decide (((j + 1 : Nat) : Int) ≤ 1) = true := decide_eq_true (by omega)
      have u2 : decide (j + 1 ≤ 1) = true := decide_eq_true (by omega)
      have hA := hacc.out j (by omega)
      have hB := hbyt.out (pos + (j + 1))
      have e1 : (pos : Int) + ((j + 1 : Nat) : Int) = ((pos + (j + 1) : Nat) : Int) := by omega
      by_cases hc : contV s pos (j + 1)
      · have HM := Lib.hid (hmy.out (j + 1) hc (by omega) w)
        have hacc1 : Hid (accV s pos c0 (j + 1) = accV s pos c0 j * 64 + (byN s (pos + (j + 1)) - 128)) := rfl
        have hok1 : Hid (∀ q, 1 ≤ q → q ≤ j + 1 → contV s pos q) := fun q q1 q2 => by
          rcases Nat.lt_or_ge q (j + 1) with h | h
          · exact hok.out q q1 (by omega)
          · rw [show q = j + 1 by omega]; exact hc
        generalize hjj : j + 1 = jj at *
        have HJ := Lib.hid hjj
        generalize byN s (pos + jj) = y at *
        generalize accV s pos c0 j = A at *
        obtain ⟨y1, hy1⟩ : ∃ y1, y1 = y - 128 := ⟨_, rfl⟩
        rw [← hy1] at HM hacc1
        have hy2 : y1 < 128 := by omega
        obtain ⟨P, hP⟩ : ∃ P, P = pos + jj := ⟨_, rfl⟩
        rw [← hP] at HM e1
        have hPl : P ≤ 9223372036854775800 := by omega
        have hjl : jj ≤ 3 := by omega
        clear hc hok hjj hy1 hP hB
        go_wp2_with fail
        refine HM.out.mono ?_; rintro e w9 ⟨rfl, rfl⟩
        clear HM e1
        go_wp2_with fail
        go_round
        case rel => exact ⟨jj, by have := HJ.out; omega, by have := HJ.out; go_num, by rw [hacc1.out]; go_num, hok1⟩
        case measure => have := HJ.out; simp [RowKit.intOf]; omega
      · have HM := Lib.hid (hmn.out (j + 1) hc (by omega) w)
        have hr := Lib.hid (hfail.out (j + 1) (by omega) (by omega) hc)
        generalize hjj : j + 1 = jj at *
        obtain ⟨P, hP⟩ : ∃ P, P = pos + jj := ⟨_, rfl⟩
        rw [← hP] at HM e1
        have hPl : P ≤ 9223372036854775800 := by omega
        have hjl : jj ≤ 3 := by omega
        generalize accV s pos c0 j = A at *
        clear hc hok hjj hP hB
        go_wp2_with fail
        refine HM.out.mono ?_; rintro e w9 ⟨rfl, rfl⟩
        clear HM e1
        go_wp2_with fail
        go_ret2
        exact ⟨by rw [hr.out]; rfl, rfl⟩
    · obtain rfl : j = 1 := by omega
      obtain ⟨ra, rb⟩ := hall.out hok.out
      have RA := Lib.hid ra
      have RB := Lib.hid rb
      have hA3 := accV_bd s pos c0 hc0l
      have hA : accV s pos c0 1 < 8921216 := by omega
      generalize accV s pos c0 1 = A at *
      clear ra rb hA3 hok hall hfail
      by_cases p1 : A < 128
      · have hr := Lib.hid (RA.out (.inl p1))
        have u1 : decide ((A : Int) < 128) = true := decide_eq_true (by omega)
        have u2 : decide (A < 128) = true := decide_eq_true p1
        clear RA RB p1
        go_wp2_with fail
        go_ret2
        exact ⟨by rw [hr.out]; rfl, rfl⟩
      have u1 : decide ((A : Int) < 128) = false := decide_eq_false (by omega)
      have u2 : decide (A < 128) = false := decide_eq_false p1
      by_cases p2 : 1114111 < A
      · have hr := Lib.hid (RA.out (.inr (.inl p2)))
        have u3 : decide ((A : Int) > 1114111) = true := decide_eq_true (by omega)
        clear RA RB p1 p2
        go_wp2_with fail
        go_ret2
        exact ⟨by rw [hr.out]; rfl, rfl⟩
      have u3 : decide ((A : Int) > 1114111) = false := decide_eq_false (by omega)
      by_cases p3 : 55296 ≤ A
      · have u4 : decide ((A : Int) ≥ 55296) = true := decide_eq_true (by omega)
        by_cases p4 : A ≤ 57343
        · have u5 : decide ((A : Int) ≤ 57343) = true := decide_eq_true (by omega)
          have hr := Lib.hid (RA.out (.inr (.inr ⟨p3, p4⟩)))
          clear RA RB p1 p2 p3 p4
          go_wp2_with fail
          go_ret2
          exact ⟨by rw [hr.out]; rfl, rfl⟩
        · have u5 : decide ((A : Int) ≤ 57343) = false := decide_eq_false (by omega)
          have hr := Lib.hid (RB.out (by unfold badR; omega))
          clear RA RB p1 p2 p3 p4
          go_wp2_with fail
          go_ret2
          exact ⟨by rw [hr.out]; rfl, rfl⟩
      · have u4 : decide ((A : Int) ≥ 55296) = false := decide_eq_false (by omega)
        have hr := Lib.hid (RB.out (by unfold badR; omega))
        clear RA RB p1 p2 p3
        go_wp2_with fail
        go_ret2
        exact ⟨by rw [hr.out]; rfl, rfl⟩
set_option maxRecDepth 100000 in
set_option maxHeartbeats 4000000 in
theorem Rune_2 (s : ByteArray) (pos : Nat) (w : World) (hs : s.size ≤ 9223372036854775000) (hp : pos < s.size) (h1 : 224 ≤ byN s pos) (h2 : byN s pos < 240) :
    Calls Tryd.prog 61 #[.string s, .int .i64 pos] w fun e w' => e = .returned (runeR s pos) ∧ w' = w := by
  have hcls : ClsV (byN s pos) 2 (byN s pos - 224) 2048 := .inr (.inl ⟨h1, h2, rfl, rfl, rfl⟩)
  obtain ⟨c0, hc0⟩ : ∃ c0, c0 = byN s pos - 224 := ⟨_, rfl⟩
  rw [← hc0] at hcls
  have hc0l : c0 < 32 := by omega
  have hfail : Hid (∀ j, 1 ≤ j → j ≤ 2 → ¬ contV s pos j → runeR s pos = .tuple #[.int .i64 0, .int .i64 0]) := fun j q1 q2 q3 => runeR_of (rune_fail hcls q1 q2 q3)
  have hall : Hid ((∀ j, 1 ≤ j → j ≤ 2 → contV s pos j) → (badR (accV s pos c0 2) 2048 → runeR s pos = .tuple #[.int .i64 0, .int .i64 0]) ∧ (¬ badR (accV s pos c0 2) 2048 → runeR s pos = .tuple #[.int .i64 (accV s pos c0 2 : Nat), .int .i64 3])) := fun hc => by
    obtain ⟨a, b⟩ := rune_all hcls hc
    exact ⟨fun h => runeR_of (a h), fun h => runeR_of (b h)⟩
  have hmy : Hid (∀ j, contV s pos j → j ≤ 3 → ∀ w, Calls Tryd.prog 65 #[.string s, .int .i64 ((pos + j : Nat) : Int)] w fun e w' => e = .returned (.tuple #[.int .i64 ((byN s (pos + j) - 128 : Nat) : Int), .bool true]) ∧ w' = w) := fun j hc hj w => more_yes s (pos + j) _ w (by omega) hc.1 hc.2.1 hc.2.2 rfl
  have hmn : Hid (∀ j, ¬ contV s pos j → j ≤ 3 → ∀ w, Calls Tryd.prog 65 #[.string s, .int .i64 ((pos + j : Nat) : Int)] w fun e w' => e = .returned (.tuple #[.int .i64 0, .bool false]) ∧ w' = w) := fun j hc hj w => more_no s (pos + j) w (by omega) (by omega) hc
  have hacc : Hid (∀ j, j ≤ 2 → accV s pos c0 j < 139392) := fun j hj => accV_lt s pos c0 j hc0l hj
  have hbyt : Hid (∀ i, byN s i < 256) := byN_lt s
  have hg := byN_get hp
  have hpi : (pos : Int) < s.size := by omega
  have hb8 := byN_lt s pos
  obtain ⟨b, hb⟩ : ∃ b, b = byN s pos := ⟨_, rfl⟩
  rw [← hb] at hg hb8
  rw [← hb] at h1 h2 hc0
  clear hb hcls
  have t0 : decide ((b : Int) < 128) = false := decide_eq_false (by omega)
  have t1 : decide ((b : Int) ≥ 192) = true := decide_eq_true (by omega)
  have t2 : decide ((b : Int) < 224) = false := decide_eq_false (by omega)
  have t3 : decide ((b : Int) ≥ 224) = true := decide_eq_true (by omega)
  have t4 : decide ((b : Int) < 240) = true := decide_eq_true (by omega)
  have e0 : (b : Int) - 224 = (c0 : Int) := by omega
  generalize runeR s pos = res at *
  clear hc0
  go_enter Tryd.func61, Tryd.ntmps61
  go_wp2_with fail
  clear e0 t0 t1 t2 t3 t4
  go_loop [6, 9] (fun c i => ∃ j : Nat, j ≤ 2 ∧ i = .int .i64 ((j + 1 : Nat) : Int) ∧ c = .int .i64 ((accV s pos c0 j : Nat) : Int) ∧ Hid (∀ q, 1 ≤ q → q ≤ j → contV s pos q)) (fun _ i => 3 - (RowKit.intOf i).toNat)
  case atStart => exact ⟨0, by omega, rfl, rfl, fun q h1 h2 => by omega⟩
  case round =>
    obtain ⟨j, hj, rfl, rfl, hok⟩ := hrel
    by_cases hlt : j < 2
    · have u1 : decide (((j + 1 : Nat) : Int) ≤ 2) = true := decide_eq_true (by omega)
      have u2 : decide (j + 1 ≤ 2) = true := decide_eq_true (by omega)
      have hA := hacc.out j (by omega)
      have hB := hbyt.out (pos + (j + 1))
      have e1 : (pos : Int) + ((j + 1 : Nat) : Int) = ((pos + (j + 1) : Nat) : Int) := by omega
      by_cases hc : contV s pos (j + 1)
      · have HM := Lib.hid (hmy.out (j + 1) hc (by omega) w)
        have hacc1 : Hid (accV s pos c0 (j + 1) = accV s pos c0 j * 64 + (byN s (pos + (j + 1)) - 128)) := rfl
        have hok1 : Hid (∀ q, 1 ≤ q → q ≤ j + 1 → contV s pos q) := fun q q1 q2 => by
          rcases Nat.lt_or_ge q (j + 1) with h | h
          · exact hok.out q q1 (by omega)
          · rw [show q = j + 1 by omega]; exact hc
        generalize hjj : j + 1 = jj at *
        have HJ := Lib.hid hjj
        generalize byN s (pos + jj) = y at *
        generalize accV s pos c0 j = A at *
        obtain ⟨y1, hy1⟩ : ∃ y1, y1 = y - 128 := ⟨_, rfl⟩
        rw [← hy1] at HM hacc1
        have hy2 : y1 < 128 := by omega
        obtain ⟨P, hP⟩ : ∃ P, P = pos + jj := ⟨_, rfl⟩
        rw [← hP] at HM e1
        have hPl : P ≤ 9223372036854775800 := by omega
        have hjl : jj ≤ 3 := by omega
        clear hc hok hjj hy1 hP hB
        go_wp2_with fail
        refine HM.out.mono ?_; rintro e w9 ⟨rfl, rfl⟩
        clear HM e1
        go_wp2_with fail
        go_round
        case rel => exact ⟨jj, by have := HJ.out; omega, by have := HJ.out; go_num, by rw [hacc1.out]; go_num, hok1⟩
        case measure => have := HJ.out; simp [RowKit.intOf]; omega
      · have HM := Lib.hid (hmn.out (j + 1) hc (by omega) w)
        have hr := Lib.hid (hfail.out (j + 1) (by omega) (by omega) hc)
        generalize hjj : j + 1 = jj at *
        obtain ⟨P, hP⟩ : ∃ P, P = pos + jj := ⟨_, rfl⟩
        rw [← hP] at HM e1
        have hPl : P ≤ 9223372036854775800 := by omega
        have hjl : jj ≤ 3 := by omega
        generalize accV s pos c0 j = A at *
        clear hc hok hjj hP hB
        go_wp2_with fail
        refine HM.out.mono ?_; rintro e w9 ⟨rfl, rfl⟩
        clear HM e1
        go_wp2_with fail
        go_ret2
        exact ⟨by rw [hr.out]; rfl, rfl⟩
    · obtain rfl : j = 2 := by omega
      obtain ⟨ra, rb⟩ := hall.out hok.out
      have RA := Lib.hid ra
      have RB := Lib.hid rb
      have hA3 := accV_bd s pos c0 hc0l
      have hA : accV s pos c0 2 < 8921216 := by omega
      generalize accV s pos c0 2 = A at *
      clear ra rb hA3 hok hall hfail
      by_cases p1 : A < 2048
      · have hr := Lib.hid (RA.out (.inl p1))
        have u1 : decide ((A : Int) < 2048) = true := decide_eq_true (by omega)
        have u2 : decide (A < 2048) = true := decide_eq_true p1
        clear RA RB p1
        go_wp2_with fail
        go_ret2
        exact ⟨by rw [hr.out]; rfl, rfl⟩
      have u1 : decide ((A : Int) < 2048) = false := decide_eq_false (by omega)
      have u2 : decide (A < 2048) = false := decide_eq_false p1
      by_cases p2 : 1114111 < A
      · have hr := Lib.hid (RA.out (.inr (.inl p2)))
        have u3 : decide ((A : Int) > 1114111) = true := decide_eq_true (by omega)
        clear RA RB p1 p2
        go_wp2_with fail
        go_ret2
        exact ⟨by rw [hr.out]; rfl, rfl⟩
      have u3 : decide ((A : Int) > 1114111) = false := decide_eq_false (by omega)
      by_cases p3 : 55296 ≤ A
      · have u4 : decide ((A : Int) ≥ 55296) = true := decide_eq_true (by omega)
        by_cases p4 : A ≤ 57343
        · have u5 : decide ((A : Int) ≤ 57343) = true := decide_eq_true (by omega)
          have hr := Lib.hid (RA.out (.inr (.inr ⟨p3, p4⟩)))
          clear RA RB p1 p2 p3 p4
          go_wp2_with fail
          go_ret2
          exact ⟨by rw [hr.out]; rfl, rfl⟩
        · have u5 : decide ((A : Int) ≤ 57343) = false := decide_eq_false (by omega)
          have hr := Lib.hid (RB.out (by unfold badR; omega))
          clear RA RB p1 p2 p3 p4
          go_wp2_with fail
          go_ret2
          exact ⟨by rw [hr.out]; rfl, rfl⟩
      · have u4 : decide ((A : Int) ≥ 55296) = false := decide_eq_false (by omega)
        have hr := Lib.hid (RB.out (by unfold badR; omega))
        clear RA RB p1 p2 p3
        go_wp2_with fail
        go_ret2
        exact ⟨by rw [hr.out]; rfl, rfl⟩
set_option maxRecDepth 100000 in
set_option maxHeartbeats 4000000 in
theorem Rune_3 (s : ByteArray) (pos : Nat) (w : World) (hs : s.size ≤ 9223372036854775000) (hp : pos < s.size) (h1 : 240 ≤ byN s pos) (h2 : byN s pos < 248) :
    Calls Tryd.prog 61 #[.string s, .int .i64 pos] w fun e w' => e = .returned (runeR s pos) ∧ w' = w := by
  have hcls : ClsV (byN s pos) 3 (byN s pos - 240) 65536 := .inr (.inr ⟨h1, h2, rfl, rfl, rfl⟩)
  obtain ⟨c0, hc0⟩ : ∃ c0, c0 = byN s pos - 240 := ⟨_, rfl⟩
  rw [← hc0] at hcls
  have hc0l : c0 < 32 := by omega
  have hfail : Hid (∀ j, 1 ≤ j → j ≤ 3 → ¬ contV s pos j → runeR s pos = .tuple #[.int .i64 0, .int .i64 0]) := fun j q1 q2 q3 => runeR_of (rune_fail hcls q1 q2 q3)
  have hall : Hid ((∀ j, 1 ≤ j → j ≤ 3 → contV s pos j) → (badR (accV s pos c0 3) 65536 → runeR s pos = .tuple #[.int .i64 0, .int .i64 0]) ∧ (¬ badR (accV s pos c0 3) 65536 → runeR s pos = .tuple #[.int .i64 (accV s pos c0 3 : Nat), .int .i64 4])) := fun hc => by
    obtain ⟨a, b⟩ := rune_all hcls hc
    exact ⟨fun h => runeR_of (a h), fun h => runeR_of (b h)⟩
  have hmy : Hid (∀ j, contV s pos j → j ≤ 3 → ∀ w, Calls Tryd.prog 65 #[.string s, .int .i64 ((pos + j : Nat) : Int)] w fun e w' => e = .returned (.tuple #[.int .i64 ((byN s (pos + j) - 128 : Nat) : Int), .bool true]) ∧ w' = w) := fun j hc hj w => more_yes s (pos + j) _ w (by omega) hc.1 hc.2.1 hc.2.2 rfl
  have hmn : Hid (∀ j, ¬ contV s pos j → j ≤ 3 → ∀ w, Calls Tryd.prog 65 #[.string s, .int .i64 ((pos + j : Nat) : Int)] w fun e w' => e = .returned (.tuple #[.int .i64 0, .bool false]) ∧ w' = w) := fun j hc hj w => more_no s (pos + j) w (by omega) (by omega) hc
  have hacc : Hid (∀ j, j ≤ 2 → accV s pos c0 j < 139392) := fun j hj => accV_lt s pos c0 j hc0l hj
  have hbyt : Hid (∀ i, byN s i < 256) := byN_lt s
  have hg := byN_get hp
  have hpi : (pos : Int) < s.size := by omega
  have hb8 := byN_lt s pos
  obtain ⟨b, hb⟩ : ∃ b, b = byN s pos := ⟨_, rfl⟩
  rw [← hb] at hg hb8
  rw [← hb] at h1 h2 hc0
  clear hb hcls
  have t0 : decide ((b : Int) < 128) = false := decide_eq_false (by omega)
  have t1 : decide ((b : Int) ≥ 192) = true := decide_eq_true (by omega)
  have t2 : decide ((b : Int) < 224) = false := decide_eq_false (by omega)
  have t3 : decide ((b : Int) ≥ 224) = true := decide_eq_true (by omega)
  have t4 : decide ((b : Int) < 240) = false := decide_eq_false (by omega)
  have t5 : decide ((b : Int) ≥ 240) = true := decide_eq_true (by omega)
  have t6 : decide ((b : Int) < 248) = true := decide_eq_true (by omega)
  have e0 : (b : Int) - 240 = (c0 : Int) := by omega
  generalize runeR s pos = res at *
  clear hc0
  go_enter Tryd.func61, Tryd.ntmps61
  go_wp2_with fail
  clear e0 t0 t1 t2 t3 t4 t5 t6
  go_loop [6, 9] (fun c i => ∃ j : Nat, j ≤ 3 ∧ i = .int .i64 ((j + 1 : Nat) : Int) ∧ c = .int .i64 ((accV s pos c0 j : Nat) : Int) ∧ Hid (∀ q, 1 ≤ q → q ≤ j → contV s pos q)) (fun _ i => 4 - (RowKit.intOf i).toNat)
  case atStart => exact ⟨0, by omega, rfl, rfl, fun q h1 h2 => by omega⟩
  case round =>
    obtain ⟨j, hj, rfl, rfl, hok⟩ := hrel
    by_cases hlt : j < 3
    · have u1 : decide (((j + 1 : Nat) : Int) ≤ 3) = true := decide_eq_true (by omega)
      have u2 : decide (j + 1 ≤ 3) = true := decide_eq_true (by omega)
      have hA := hacc.out j (by omega)
      have hB := hbyt.out (pos + (j + 1))
      have e1 : (pos : Int) + ((j + 1 : Nat) : Int) = ((pos + (j + 1) : Nat) : Int) := by omega
      by_cases hc : contV s pos (j + 1)
      · have HM := Lib.hid (hmy.out (j + 1) hc (by omega) w)
        have hacc1 : Hid (accV s pos c0 (j + 1) = accV s pos c0 j * 64 + (byN s (pos + (j + 1)) - 128)) := rfl
        have hok1 : Hid (∀ q, 1 ≤ q → q ≤ j + 1 → contV s pos q) := fun q q1 q2 => by
          rcases Nat.lt_or_ge q (j + 1) with h | h
          · exact hok.out q q1 (by omega)
          · rw [show q = j + 1 by omega]; exact hc
        generalize hjj : j + 1 = jj at *
        have HJ := Lib.hid hjj
        generalize byN s (pos + jj) = y at *
        generalize accV s pos c0 j = A at *
        obtain ⟨y1, hy1⟩ : ∃ y1, y1 = y - 128 := ⟨_, rfl⟩
        rw [← hy1] at HM hacc1
        have hy2 : y1 < 128 := by omega
        obtain ⟨P, hP⟩ : ∃ P, P = pos + jj := ⟨_, rfl⟩
        rw [← hP] at HM e1
        have hPl : P ≤ 9223372036854775800 := by omega
        have hjl : jj ≤ 3 := by omega
        clear hc hok hjj hy1 hP hB
        go_wp2_with fail
        refine HM.out.mono ?_; rintro e w9 ⟨rfl, rfl⟩
        clear HM e1
        go_wp2_with fail
        go_round
        case rel => exact ⟨jj, by have := HJ.out; omega, by have := HJ.out; go_num, by rw [hacc1.out]; go_num, hok1⟩
        case measure => have := HJ.out; simp [RowKit.intOf]; omega
      · have HM := Lib.hid (hmn.out (j + 1) hc (by omega) w)
        have hr := Lib.hid (hfail.out (j + 1) (by omega) (by omega) hc)
        generalize hjj : j + 1 = jj at *
        obtain ⟨P, hP⟩ : ∃ P, P = pos + jj := ⟨_, rfl⟩
        rw [← hP] at HM e1
        have hPl : P ≤ 9223372036854775800 := by omega
        have hjl : jj ≤ 3 := by omega
        generalize accV s pos c0 j = A at *
        clear hc hok hjj hP hB
        go_wp2_with fail
        refine HM.out.mono ?_; rintro e w9 ⟨rfl, rfl⟩
        clear HM e1
        go_wp2_with fail
        go_ret2
        exact ⟨by rw [hr.out]; rfl, rfl⟩
    · obtain rfl : j = 3 := by omega
      obtain ⟨ra, rb⟩ := hall.out hok.out
      have RA := Lib.hid ra
      have RB := Lib.hid rb
      have hA3 := accV_bd s pos c0 hc0l
      have hA : accV s pos c0 3 < 8921216 := by omega
      generalize accV s pos c0 3 = A at *
      clear ra rb hA3 hok hall hfail
      by_cases p1 : A < 65536
      · have hr := Lib.hid (RA.out (.inl p1))
        have u1 : decide ((A : Int) < 65536) = true := decide_eq_true (by omega)
        have u2 : decide (A < 65536) = true := decide_eq_true p1
        clear RA RB p1
        go_wp2_with fail
        go_ret2
        exact ⟨by rw [hr.out]; rfl, rfl⟩
      have u1 : decide ((A : Int) < 65536) = false := decide_eq_false (by omega)
      have u2 : decide (A < 65536) = false := decide_eq_false p1
      by_cases p2 : 1114111 < A
      · have hr := Lib.hid (RA.out (.inr (.inl p2)))
        have u3 : decide ((A : Int) > 1114111) = true := decide_eq_true (by omega)
        clear RA RB p1 p2
        go_wp2_with fail
        go_ret2
        exact ⟨by rw [hr.out]; rfl, rfl⟩
      have u3 : decide ((A : Int) > 1114111) = false := decide_eq_false (by omega)
      by_cases p3 : 55296 ≤ A
      · have u4 : decide ((A : Int) ≥ 55296) = true := decide_eq_true (by omega)
        by_cases p4 : A ≤ 57343
        · have u5 : decide ((A : Int) ≤ 57343) = true := decide_eq_true (by omega)
          have hr := Lib.hid (RA.out (.inr (.inr ⟨p3, p4⟩)))
          clear RA RB p1 p2 p3 p4
          go_wp2_with fail
          go_ret2
          exact ⟨by rw [hr.out]; rfl, rfl⟩
        · have u5 : decide ((A : Int) ≤ 57343) = false := decide_eq_false (by omega)
          have hr := Lib.hid (RB.out (by unfold badR; omega))
          clear RA RB p1 p2 p3 p4
          go_wp2_with fail
          go_ret2
          exact ⟨by rw [hr.out]; rfl, rfl⟩
      · have u4 : decide ((A : Int) ≥ 55296) = false := decide_eq_false (by omega)
        have hr := Lib.hid (RB.out (by unfold badR; omega))
        clear RA RB p1 p2 p3
        go_wp2_with fail
        go_ret2
        exact ⟨by rw [hr.out]; rfl, rfl⟩
theorem Rune_any (s : ByteArray) (pos : Nat) (w : World) (hs : s.size ≤ 9223372036854775000) (hp : pos < s.size) :
    Calls Tryd.prog 61 #[.string s, .int .i64 pos] w fun e w' => e = .returned (runeR s pos) ∧ w' = w := by
  by_cases h1 : byN s pos < 128
  · exact Rune_low s pos w hs hp h1
  by_cases h2 : byN s pos < 192
  · exact Rune_nonea s pos w hs hp ⟨by omega, h2⟩
  by_cases h3 : byN s pos < 224
  · exact Rune_1 s pos w hs hp (by omega) h3
  by_cases h4 : byN s pos < 240
  · exact Rune_2 s pos w hs hp (by omega) h4
  by_cases h5 : byN s pos < 248
  · exact Rune_3 s pos w hs hp (by omega) h5
  exact Rune_noneb s pos w hs hp (by omega)
/-! Name. -/
def ascB (c : Nat) : Bool := decide ((48 ≤ c ∧ c ≤ 57) ∨ (65 ≤ c ∧ c ≤ 90) ∨ (97 ≤ c ∧ c ≤ 122) ∨ c = 45 ∨ c = 46 ∨ c = 95)
theorem okR_eq (c : Nat) : okR c = (ascB c || decide (160 < c)) := by
  unfold okR ascB
  rw [Bool.eq_iff_iff]
  simp only [decide_eq_true_eq, Bool.or_eq_true]
  omega
theorem rune_fst (s : ByteArray) (pos : Nat) : (runeV s pos).1 ≤ 1114111 ∧ (runeV s pos).2 ≤ 4 := by
  have h1 := rune_le s pos
  have h2 : (Utf8.decode s pos).2 ≤ 4 := by
    rw [rune_at]; unfold decodeN
    repeat' split
    all_goals simp
  unfold runeV
  split
  · simp
  · exact ⟨h1, h2⟩
theorem rune_zero (s : ByteArray) (pos : Nat) : ((runeV s pos).2 = 0) ↔ ((Utf8.decode s pos).1 = 65533 ∧ (Utf8.decode s pos).2 = 1) := by
  have hw := width_pos s pos
  unfold runeV
  split
  · rename_i h; simp [h]
  · rename_i h; exact ⟨fun e => by omega, fun e => absurd e h⟩
theorem ret_bl' {a b : Bool} (h : a = b) : Ending.returned (.bool a) = Ending.returned (.bool b) := by rw [h]
set_option maxRecDepth 100000 in
set_option maxHeartbeats 8000000 in
theorem refName_any (s : ByteArray) (w : World) (hs : s.size ≤ 4611686018427387904) :
    Calls Tryd.prog 48 #[.string s] w fun e w' => e = .returned (.bool (nameB s)) ∧ w' = w := by
  rw [← refN_eq]
  have HR : Hid (∀ pos w, pos < s.size → Calls Tryd.prog 61 #[.string s, .int .i64 pos] w fun e w' => e = .returned (.tuple #[.int .i64 (runeV s pos).1, .int .i64 (runeV s pos).2]) ∧ w' = w) := fun pos w hp => Rune_any s pos w (by omega) hp
  have HF : Hid (∀ f pos n, refF s f pos n = match f with | 0 => some n | f + 1 => if pos < s.size then (if ((Utf8.decode s pos).1 = 65533 ∧ (Utf8.decode s pos).2 = 1) ∨ okR (Utf8.decode s pos).1 = false then none else refF s f (pos + (Utf8.decode s pos).2) (n + 1)) else some n) := fun f pos n => by cases f <;> rfl
  obtain ⟨R, hR⟩ : ∃ R, R = refF s s.size 0 0 := ⟨_, rfl⟩
  rw [← hR]
  have HRR := Lib.hid hR
  clear hR
  go_enter Tryd.func48, Tryd.ntmps48
  go_wp2_with fail
  go_loop [3, 4] (fun a b => ∃ f pos n : Nat, a = .int .i64 pos ∧ b = .int .i64 n ∧ s.size ≤ pos + f ∧ pos ≤ s.size + 4 ∧ n ≤ pos ∧ Hid (R = refF s f pos n)) (fun a _ => s.size + 5 - (RowKit.intOf a).toNat)
  case atStart => exact ⟨s.size, 0, 0, rfl, rfl, by omega, by omega, by omega, HRR.out⟩
  case round =>
    obtain ⟨f, pos, n, rfl, rfl, h1, h2, h3, hst⟩ := hrel
    by_cases hp : pos < s.size
    · have t1 : decide (pos < s.size) = true := decide_eq_true hp
      have t2 : decide ((pos : Int) < s.size) = true := decide_eq_true (by omega)
      obtain ⟨f', rfl⟩ : ∃ f', f = f' + 1 := ⟨f - 1, by omega⟩
      have hst := hst.out
      rw [HF.out] at hst
      dsimp only at hst
      rw [if_pos hp] at hst
      have HRr := Lib.hid (HR.out pos w hp)
      have hz := rune_zero s pos
      obtain ⟨b1, b2⟩ := rune_fst s pos
      by_cases hbad : (Utf8.decode s pos).1 = 65533 ∧ (Utf8.decode s pos).2 = 1
      · rw [if_pos (.inl hbad)] at hst
        have hz0 := hz.2 hbad
        have hrv : (runeV s pos).1 = 0 := by unfold runeV; rw [if_pos hbad]
        rw [hz0, hrv] at HRr
        clear hbad hz hz0 hrv b1 b2
        have hr := Lib.hid hst
        clear hst
        go_wp2_with fail
        refine HRr.out.mono ?_; rintro e w9 ⟨rfl, rfl⟩
        clear HRr
        go_wp2_with fail
        go_ret
        exact ⟨ret_bl' (by rw [hr.out]; rfl), rfl⟩
      · have hrv : runeV s pos = Utf8.decode s pos := by unfold runeV; rw [if_neg hbad]
        have hw := width_pos s pos
        rw [hrv] at HRr b1 b2
        have hst2 : Hid (R = if okR (Utf8.decode s pos).1 = false then none else refF s f' (pos + (Utf8.decode s pos).2) (n + 1)) := by
          unfold Hid; rw [hst]
          by_cases ho : okR (Utf8.decode s pos).1 = false
          · rw [if_pos (.inr ho), if_pos ho]
          · rw [if_neg (by rintro (h | h); exact hbad h; exact ho h), if_neg ho]
        clear hst hz hbad hrv
        generalize (Utf8.decode s pos).1 = c at *
        generalize (Utf8.decode s pos).2 = k at *
        have HA : Hid (ascB c = decide ((48 ≤ c ∧ c ≤ 57) ∨ (65 ≤ c ∧ c ≤ 90) ∨ (97 ≤ c ∧ c ≤ 122) ∨ c = 45 ∨ c = 46 ∨ c = 95)) := rfl
        have HO := Lib.hid (okR_eq c)
        generalize ascB c = A at *
        generalize okR c = O at *
        have k0 : ((k : Int) == 0) = false := by rw [beq_eq_false_iff_ne]; omega
        have K1 := Lib.hid hw
        go_wp2_with fail
        refine HRr.out.mono ?_; rintro e w9 ⟨rfl, rfl⟩
        clear HRr hw
        go_upto_region 5 with fail
        go_cut [7] (fun fv wx => fv = .bool A ∧ wx = w9)
        case first =>
          clear hst2 HO HF HR HRR
          have h4 : ∃ b1 b2 b3 : Bool, ((c : Int) == 45) = b1 ∧ ((c : Int) == 46) = b2 ∧ ((c : Int) == 95) = b3 ∧ Hid ((b1 = true ↔ c = 45) ∧ (b2 = true ↔ c = 46) ∧ (b3 = true ↔ c = 95)) := by
            refine ⟨_, _, _, rfl, rfl, rfl, ?_⟩
            unfold Hid
            simp only [beq_iff_eq]
            omega
          obtain ⟨b1, b2, b3, q1, q2, q3, HQ⟩ := h4
          cases b1 <;> cases b2 <;> cases b3
          all_goals try (exfalso; have hq := HQ.out; simp only [true_iff] at hq; omega)
          all_goals
            go_wp2_with fail
            all_goals
              go_meet
              case rel =>
                refine ⟨congrArg Value.bool ?_, rfl⟩
                rw [HA.out, Bool.eq_iff_iff]
                have hq := HQ.out
                simp only [beq_iff_eq, beq_eq_false_iff_ne, decide_eq_true_eq, true_iff, Bool.false_eq_true, false_iff, Bool.or_eq_true] at *
                omega
        case rest =>
          obtain ⟨rfl, rfl⟩ := hcut
          cases A
          · by_cases hc : c ≤ 160
            · have u1 : decide ((c : Int) ≤ 160) = true := decide_eq_true (by omega)
              have hO : O = false := by rw [HO.out, decide_eq_false (by omega)]; rfl
              have hr : Hid (R = none) := by unfold Hid; rw [hst2.out, hO, if_pos rfl]
              clear hst2 hO HO HA HF HRR
              go_wp2_with fail
              go_ret
              exact ⟨ret_bl' (by rw [hr.out]; rfl), rfl⟩
            · have u1 : decide ((c : Int) ≤ 160) = false := decide_eq_false (by omega)
              have hO : O = true := by rw [HO.out, decide_eq_true (by omega)]; rfl
              have hk1 := K1.out
              have HN : Hid (R = refF s f' (pos + k) (n + 1)) := by unfold Hid; rw [hst2.out, hO, if_neg (by decide)]
              clear hst2 hO HO HA HF
              go_wp2_with fail
              go_round
              case rel => exact ⟨f', pos + k, n + 1, by go_num, by go_num, by omega, by omega, by omega, HN.out⟩
              case measure => simp [RowKit.intOf]; omega
          · have hO : O = true := by rw [HO.out]; rfl
            have hk1 := K1.out
            have HN : Hid (R = refF s f' (pos + k) (n + 1)) := by unfold Hid; rw [hst2.out, hO, if_neg (by decide)]
            clear hst2 hO HO HA HF
            go_wp2_with fail
            go_round
            case rel => exact ⟨f', pos + k, n + 1, by go_num, by go_num, by omega, by omega, by omega, HN.out⟩
            case measure => simp [RowKit.intOf]; omega
    · have t1 : decide (pos < s.size) = false := decide_eq_false hp
      have t2 : decide ((pos : Int) < s.size) = false := decide_eq_false (by omega)
      have hr : Hid (refN R = (decide (1 ≤ n) && decide (n ≤ 32))) := by
        unfold Hid; rw [hst.out, HF.out]
        cases f with
        | zero => rfl
        | succ f => dsimp only; rw [if_neg hp]; rfl
      clear hst HF HR HRR
      by_cases p1 : 1 ≤ n
      · have u1 : decide ((n : Int) ≥ 1) = true := decide_eq_true (by omega)
        have u1n : decide (1 ≤ n) = true := decide_eq_true p1
        rw [u1n] at hr
        by_cases p2 : n ≤ 32
        · have u2 : decide ((n : Int) ≤ 32) = true := decide_eq_true (by omega)
          have u2n : decide (n ≤ 32) = true := decide_eq_true p2
          rw [u2n] at hr
          go_wp2_with fail
          go_ret
          exact ⟨ret_bl' (by rw [hr.out]; rfl), rfl⟩
        · have u2 : decide ((n : Int) ≤ 32) = false := decide_eq_false (by omega)
          have u2n : decide (n ≤ 32) = false := decide_eq_false p2
          rw [u2n] at hr
          go_wp2_with fail
          go_ret
          exact ⟨ret_bl' (by rw [hr.out]; rfl), rfl⟩
      · have u1 : decide ((n : Int) ≥ 1) = false := decide_eq_false (by omega)
        have u1n : decide (1 ≤ n) = false := decide_eq_false p1
        rw [u1n] at hr
        go_wp2_with fail
        go_ret
        exact ⟨ret_bl' (by rw [hr.out]; rfl), rfl⟩
end Go.Proofs.YtbnlmeegepgioaaDoor
