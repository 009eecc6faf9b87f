/-
  gangerref07.number: at any text.
-/
import Derived.Test.YtndlgjphkpceoaaDoorClkA
namespace Go.Proofs.YtndlgjphkpceoaaDoor
open Go Go.RowKit Go.Lib
set_option linter.unusedVariables false

set_option maxHeartbeats 1000000 in
theorem refNumber_row (s : ByteArray) (w : World) (h0 : 0 < s.size) (hl : s.size ≤ 6) :
    Calls Tryd.prog 21 #[.string s] w fun e w' => e = .returned (numR (numW s.data.toList)) ∧ w' = w := by
  have hlen : s.data.toList.length = s.size := Array.length_toList
  have HY : Hid (s.data.toList.all isDig = true → numR (numW s.data.toList) = .tuple #[.int .i64 (valD s.data.toList : Nat), .bool true]) := fun ha => by
    unfold numW; rw [if_pos ⟨fun e => by rw [e] at hlen; simp at hlen; omega, by rw [hlen]; exact hl, ha⟩]; rfl
  have HN : Hid (s.data.toList.all isDig = false → numR (numW s.data.toList) = .tuple #[.int .i64 0, .bool false]) := fun ha => by
    unfold numW; rw [if_neg (by rw [ha]; simp)]; rfl
  have hs1 : decide ((s.size : Int) < 1) = false := decide_eq_false (by omega)
  have hs2 : decide ((s.size : Int) > 6) = false := decide_eq_false (by omega)
  have hs3 : decide (s.size < 1) = false := decide_eq_false (by omega)
  have hs4 : decide (6 < s.size) = false := decide_eq_false (by omega)
  generalize numR (numW s.data.toList) = res at *
  go_enter Tryd.func21, Tryd.ntmps21
  go_wp2_with fail
  go_loop [4, 5] (fun n i => ∃ pos : Nat, pos ≤ s.size ∧ i = .int .i64 pos ∧ n = .int .i64 (valD (s.data.toList.take pos) : Nat) ∧ Hid ((s.data.toList.take pos).all isDig = true)) (fun _ i => s.size - (intOf i).toNat)
  case atStart => exact ⟨0, Nat.zero_le _, rfl, rfl, rfl⟩
  case round =>
    obtain ⟨pos, hps, rfl, rfl, hd⟩ := hrel
    have hv := valD_lt s.data.toList pos (by omega) (by omega) hd.out
    by_cases hp : pos < s.size
    · have hp' : decide (pos < s.size) = true := decide_eq_true hp
      have hpi : (pos : Int) < s.size := by omega
      have hc := at_list hp
      have h17 : (10 : Nat) ^ pos ≤ 10 ^ 6 := Nat.pow_le_pow_right (by decide) (by omega)
      have hcb : (s[pos]'hp).toNat < 256 := (s[pos]'hp).toNat_lt
      cases hdg : isDig (s[pos]'hp)
      · have hend := Lib.hid (HN.out (all_not hc hdg))
        have hno := dig_no hdg
        generalize valD (s.data.toList.take pos) = N at *
        clear HY HN hd hv
        rcases hno with h48 | h57
        · have t1 : decide (((s[pos]'hp).toNat : Int) < 48) = true := decide_eq_true (by omega)
          go_wp2_with fail
          go_ret2
          exact ⟨by rw [hend.out]; rfl, rfl⟩
        · have t1 : decide (((s[pos]'hp).toNat : Int) < 48) = false := decide_eq_false (by omega)
          have t2 : decide (57 < ((s[pos]'hp).toNat : Int)) = true := decide_eq_true (by omega)
          go_wp2_with fail
          go_ret2
          exact ⟨by rw [hend.out]; rfl, rfl⟩
      · have hb := dig_bd hdg
        have hts := take_snoc hc
        have hv1 : valD (s.data.toList.take (pos + 1)) = valD (s.data.toList.take pos) * 10 + ((s[pos]'hp).toNat - 48) := by rw [hts, valD_snoc]
        have hd2 : Hid ((s.data.toList.take (pos + 1)).all isDig = true) := by unfold Hid; rw [hts, List.all_append, hd.out]; simp [hdg]
        have HV1 := Lib.hid hv1
        clear hts hv1 HY HN
        generalize valD (s.data.toList.take pos) = N at *
        have hN17 : N < 1000000 := Nat.lt_of_lt_of_le hv h17
        have t1 : decide (((s[pos]'hp).toNat : Int) < 48) = false := decide_eq_false (by omega)
        have t2 : decide (57 < ((s[pos]'hp).toNat : Int)) = false := decide_eq_false (by omega)
        clear hv h17
        go_wp2_with fail
        go_round
        case rel =>
          refine ⟨pos + 1, by omega, by go_num, ?_, hd2⟩
          rw [HV1.out]; congr 1; omega
        case measure => simp [intOf]; omega
    · have hpe : pos = s.size := by omega
      have hp' : decide (pos < s.size) = false := decide_eq_false hp
      have htk : s.data.toList.take pos = s.data.toList := by rw [hpe, ← hlen, List.take_length]
      have hd' := hd.out
      rw [htk] at hd' ⊢
      have hend := Lib.hid (HY.out hd')
      generalize valD s.data.toList = N at *
      clear HY HN hd hd' hv
      go_wp2_with fail
      go_ret2
      exact ⟨by rw [hend.out]; rfl, rfl⟩
/-- gangerref07.number: at any text. -/
theorem refNumber_any (s : ByteArray) (w : World) (hs : s.size ≤ 9223372036854775807) :
    Calls Tryd.prog 21 #[.string s] w fun e w' => e = .returned (numR (numW s.data.toList)) ∧ w' = w := by
  have hlen : s.data.toList.length = s.size := Array.length_toList
  by_cases h0 : 0 < s.size
  · by_cases hl : s.size ≤ 6
    · exact refNumber_row s w h0 hl
    · have HN : numR (numW s.data.toList) = .tuple #[.int .i64 0, .bool false] := by
        unfold numW; rw [if_neg (by rw [hlen]; omega)]; rfl
      have hs1 : decide ((s.size : Int) < 1) = false := decide_eq_false (by omega)
      have hs2 : decide ((s.size : Int) > 6) = true := decide_eq_true (by omega)
      have hs3 : decide (s.size < 1) = false := decide_eq_false (by omega)
      have hs4 : decide (6 < s.size) = true := decide_eq_true (by omega)
      rw [HN]
      clear HN hlen
      go_enter Tryd.func21, Tryd.ntmps21
      go_wp2_with fail
      go_ret2
      exact ⟨rfl, rfl⟩
  · have hnil : s.data.toList = [] := List.eq_nil_of_length_eq_zero (by omega)
    have HN : numR (numW s.data.toList) = .tuple #[.int .i64 0, .bool false] := by
      unfold numW; rw [if_neg (by rw [hnil]; simp)]; rfl
    have hs1 : decide ((s.size : Int) < 1) = true := decide_eq_true (by omega)
    have hs3 : decide (s.size < 1) = true := decide_eq_true (by omega)
    rw [HN]
    clear HN hlen hnil
    go_enter Tryd.func21, Tryd.ntmps21
    go_wp2_with fail
    go_ret2
    exact ⟨rfl, rfl⟩
end Go.Proofs.YtndlgjphkpceoaaDoor
