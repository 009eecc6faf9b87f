/-
  gangerref06.number, gangerref06.is: at any text.
-/
import Derived.Test.YtdhkinknhjpjmaaDoorIxF
namespace Go.Proofs.YtdhkinknhjpjmaaDoor
open Go Go.RowKit Go.Lib
set_option linter.unusedVariables false

theorem drop_at {s : ByteArray} {l : Bs} {pos : Nat} (hl : l = s.data.toList) (h : pos < s.size) : l.drop pos = (s[pos]'h) :: l.drop (pos + 1) := by
  have hlen : s.data.toList.length = s.size := Array.length_toList
  have h1 : pos < l.length := by rw [hl, hlen]; exact h
  rw [List.drop_eq_getElem_cons h1]
  congr 1
  have := bytes_at h
  rw [← hl, List.getElem?_eq_getElem h1] at this
  exact Option.some.inj this
theorem numR_stop2 {k n : Nat} {r : Bs} (h : ∀ c, r.head? = some c → ¬ (k < 4 ∧ isDig c = true ∧ ¬ (0 < k ∧ n = 0))) : numR k n r = (n, k) := by
  cases r with
  | nil => rfl
  | cons c r => rw [numR, if_neg (h c rfl)]
/-- What number answers. -/
def numTo (t : Nat) (x : Nat × Nat) : Value := .tuple #[.int .i64 (x.1 : Nat), .int .i64 ((t + x.2 : Nat) : Int)]
set_option maxRecDepth 100000 in
set_option maxHeartbeats 4000000 in
theorem refnum_any (s : ByteArray) (t : Nat) (w : World) (hs : s.size ≤ 4000000000) (ht : t ≤ s.size) :
    Calls Tryd.prog 26 #[.string s, .int .i64 t] w fun e w' => e = .returned (numTo t (numR 0 0 (s.data.toList.drop t))) ∧ w' = w := by
  have hlen : s.data.toList.length = s.size := Array.length_toList
  obtain ⟨l, hl⟩ : ∃ l, l = s.data.toList := ⟨_, rfl⟩
  have HD : Hid (∀ pos (h : pos < s.size), l.drop pos = (s[pos]'h) :: l.drop (pos + 1)) := fun pos h => drop_at hl h
  rw [← hl] at hlen ⊢
  obtain ⟨R, hR⟩ : ∃ R, R = numR 0 0 (l.drop t) := ⟨_, rfl⟩
  rw [← hR]
  have HR0 := Lib.hid hR.symm
  clear hl hR
  go_enter Tryd.func26, Tryd.ntmps26
  go_wp2_with fail
  go_loop [6, 7] (fun n i => ∃ (k m P : Nat), P = t + k ∧ P ≤ s.size ∧ k ≤ 4 ∧ m < 10 ^ k ∧ i = .int .i64 P ∧ n = .int .i64 m ∧ Hid (numR k m (l.drop P) = R)) (fun _ i => s.size - (RowKit.intOf i).toNat)
  case atStart => exact ⟨0, 0, t, rfl, ht, by omega, by omega, rfl, rfl, HR0.out⟩
  case round =>
    obtain ⟨k, m, P, hP, hPs, hk, hm, rfl, rfl, hn⟩ := hrel
    have HP := Lib.hid hP
    have hkP : k ≤ P := by omega
    have htP : t ≤ P := by omega
    have hm4 : m < 10000 := Nat.lt_of_lt_of_le hm (Nat.pow_le_pow_right (by omega) hk : 10 ^ k ≤ 10 ^ 4)
    have hrn : ∀ x : Nat × Nat, x = (m, k) → numTo t x = .tuple #[.int .i64 (m : Nat), .int .i64 (P : Nat)] := fun x hx => by rw [hx, hP]; rfl
    by_cases hp : P < s.size
    · have hp' : decide (P < s.size) = true := decide_eq_true hp
      have hpi : (P : Int) < s.size := by omega
      have hpi' : decide ((P : Int) < s.size) = true := decide_eq_true hpi
      have hdr := HD.out P hp
      by_cases hk4 : k < 4
      · have t4 : decide ((P : Int) < (t : Int) + 4) = true := decide_eq_true (by omega)
        have t4n : decide (P < t + 4) = true := decide_eq_true (by omega)
        cases hdg : isDig (s[P]'hp)
        · have hend : Hid (R = (m, k)) := by
            unfold Hid; rw [← hn.out]
            exact numR_stop2 fun c hc => by rw [hdr] at hc; simp at hc; rw [← hc, hdg]; simp
          have hno : (s[P]'hp).toNat < 48 ∨ 57 < (s[P]'hp).toNat := by
            rcases Nat.lt_or_ge (s[P]'hp).toNat 48 with h | h
            · exact .inl h
            · rcases Nat.lt_or_ge 57 (s[P]'hp).toNat with h' | h'
              · exact .inr h'
              · rw [(isDig_iff _).2 ⟨h, h'⟩] at hdg; cases hdg
          have HRN := Lib.hid (hrn R hend.out)
          clear hrn hdr hn hdg HD HR0 hend hP
          rcases hno with h48 | h57
          · have t1 : decide (((s[P]'hp).toNat : Int) ≥ 48) = false := decide_eq_false (by omega)
            have t1n : decide (48 ≤ (s[P]'hp).toNat) = false := decide_eq_false (by omega)
            go_wp2_with fail
            go_ret2
            exact ⟨by rw [HRN.out]; rfl, rfl⟩
          · have t1 : decide (((s[P]'hp).toNat : Int) ≥ 48) = true := decide_eq_true (by omega)
            have t1n : decide (48 ≤ (s[P]'hp).toNat) = true := decide_eq_true (by omega)
            have t2 : decide (((s[P]'hp).toNat : Int) ≤ 57) = false := decide_eq_false (by omega)
            have t2n : decide ((s[P]'hp).toNat ≤ 57) = false := decide_eq_false (by omega)
            go_wp2_with fail
            go_ret2
            exact ⟨by rw [HRN.out]; rfl, rfl⟩
        · have hb := (isDig_iff _).1 hdg
          have t1 : decide (((s[P]'hp).toNat : Int) ≥ 48) = true := decide_eq_true (by omega)
          have t1n : decide (48 ≤ (s[P]'hp).toNat) = true := decide_eq_true (by omega)
          have t2 : decide (((s[P]'hp).toNat : Int) ≤ 57) = true := decide_eq_true (by omega)
          have t2n : decide ((s[P]'hp).toNat ≤ 57) = true := decide_eq_true (by omega)
          by_cases hz : 0 < k ∧ m = 0
          · have hend : Hid (R = (m, k)) := by
              unfold Hid; rw [← hn.out]
              exact numR_stop2 fun c hc hh => hh.2.2 hz
            have HRN := Lib.hid (hrn R hend.out)
            have u1 : decide ((P : Int) > t) = true := decide_eq_true (by omega)
            have u1n : decide (t < P) = true := decide_eq_true (by omega)
            have u2 : ((m : Int) == 0) = true := by rw [beq_iff_eq]; omega
            clear hrn hdr hn hdg HD HR0 hend hz hP
            go_wp2_with fail
            go_ret2
            exact ⟨by rw [HRN.out]; rfl, rfl⟩
          · have hn2 : Hid (numR (k + 1) (m * 10 + ((s[P]'hp).toNat - 48)) (l.drop (P + 1)) = R) := by
              have := hn.out
              rw [hdr, numR, if_pos ⟨hk4, hdg, hz⟩] at this
              exact this
            have hm2 : m * 10 + ((s[P]'hp).toNat - 48) < 10 ^ (k + 1) := by rw [Nat.pow_succ]; omega
            have e1 : ((m * 10 + ((s[P]'hp).toNat - 48) : Nat) : Int) = (m : Int) * 10 + ((s[P]'hp).toNat : Int) - 48 := by omega
            have E1 := Lib.hid e1
            have HM2 := Lib.hid hm2
            by_cases hk0 : 0 < k
            · have u1 : decide ((P : Int) > t) = true := decide_eq_true (by omega)
              have u1n : decide (t < P) = true := decide_eq_true (by omega)
              have u2 : ((m : Int) == 0) = false := by rw [beq_eq_false_iff_ne]; omega
              clear hrn hdr hn hdg HD HR0 e1 hm2 hm hP
              go_wp2_with fail
              go_round
              case rel => exact ⟨k + 1, _, P + 1, by have := HP.out; omega, hp, by omega, HM2.out, by go_num, by rw [E1.out], hn2.out⟩
              case measure => simp [RowKit.intOf]; omega
            · have u1 : decide ((P : Int) > t) = false := decide_eq_false (by omega)
              have u1n : decide (t < P) = false := decide_eq_false (by omega)
              clear hrn hdr hn hdg HD HR0 e1 hm2 hm hP
              go_wp2_with fail
              go_round
              case rel => exact ⟨k + 1, _, P + 1, by have := HP.out; omega, hp, by omega, HM2.out, by go_num, by rw [E1.out], hn2.out⟩
              case measure => simp [RowKit.intOf]; omega
      · have hend : Hid (R = (m, k)) := by
          unfold Hid; rw [← hn.out]
          exact numR_stop2 fun c hc hh => hk4 hh.1
        have HRN := Lib.hid (hrn R hend.out)
        have t4 : decide ((P : Int) < (t : Int) + 4) = false := decide_eq_false (by omega)
        have t4n : decide (P < t + 4) = false := decide_eq_false (by omega)
        clear hrn hdr hn HD HR0 hend hP
        go_wp2_with fail
        go_ret2
        exact ⟨by rw [HRN.out]; rfl, rfl⟩
    · have hp' : decide (P < s.size) = false := decide_eq_false hp
      have hpi' : decide ((P : Int) < s.size) = false := decide_eq_false (by omega)
      have hend : Hid (R = (m, k)) := by
        unfold Hid; rw [← hn.out, List.drop_of_length_le (by omega)]; rfl
      have HRN := Lib.hid (hrn R hend.out)
      clear hrn hn HD HR0 hend hP
      go_wp2_with fail
      go_ret2
      exact ⟨by rw [HRN.out]; rfl, rfl⟩
theorem head_at {s : ByteArray} {t : Nat} (h : t < s.size) : (s.data.toList.drop t).head? = some (s[t]'h) := by rw [drop_at rfl h]; rfl
set_option maxRecDepth 100000 in
theorem is_any (s : ByteArray) (t : Nat) (c : UInt8) (w : World) (hs : s.size ≤ 4000000000) (ht : t ≤ s.size) :
    Calls Tryd.prog 25 #[.string s, .int .i64 t, .int .u8 c.toNat] w fun e w' => e = .returned (.bool (decide ((s.data.toList.drop t).head? = some c))) ∧ w' = w := by
  by_cases hp : t < s.size
  · rw [head_at hp]
    have hp' : decide (t < s.size) = true := decide_eq_true hp
    have hpi : (t : Int) < s.size := by omega
    have hpi' : decide ((t : Int) < s.size) = true := decide_eq_true hpi
    have e : decide (some (s[t]'hp) = some c) = (((s[t]'hp).toNat : Int) == (c.toNat : Int)) := by
      rw [Bool.eq_iff_iff, decide_eq_true_eq, beq_iff_eq]
      constructor
      · intro h; injection h with h; rw [h]
      · intro h
        have : (s[t]'hp).toNat = c.toNat := by omega
        rw [UInt8.toNat_inj.1 this]
    rw [e]
    generalize hq : (((s[t]'hp).toNat : Int) == (c.toNat : Int)) = q
    clear e
    go_enter Tryd.func25, Tryd.ntmps25
    go_wp2_with fail
    go_ret
    exact ⟨rfl, rfl⟩
  · have hp' : decide (t < s.size) = false := decide_eq_false hp
    have hpi' : decide ((t : Int) < s.size) = false := decide_eq_false (by omega)
    have hlen : s.data.toList.length = s.size := Array.length_toList
    rw [List.drop_of_length_le (by omega)]
    have e : decide (([] : Bs).head? = some c) = false := rfl
    rw [e]
    clear e hlen
    go_enter Tryd.func25, Tryd.ntmps25
    go_wp2_with fail
    go_ret
    exact ⟨rfl, rfl⟩
end Go.Proofs.YtdhkinknhjpjmaaDoor
