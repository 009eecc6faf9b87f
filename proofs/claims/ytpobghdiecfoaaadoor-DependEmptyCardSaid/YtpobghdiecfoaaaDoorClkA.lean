/-
  digits.Number, gangerref07.number: at any text.
-/
import Derived.Test.YtpobghdiecfoaaaDoorProg
import Derived.Test.YtpobghdiecfoaaaDoorClkL
import Derived.WalkKit
import Derived.Lib.OthersKept
import Derived.Lib.Hide
namespace Go.Proofs.YtpobghdiecfoaaaDoor
open Go Go.RowKit Go.Lib
set_option linter.unusedVariables false

def numG (most : Nat) (s : Bs) : Option Nat := if s ≠ [] ∧ s.length ≤ most ∧ s.all isDig = true then some (valD s) else none
theorem numW_eq (s : Bs) : numW s = numG 6 s := rfl
def numR (o : Option Nat) : Value := match o with | some n => .tuple #[.int .i64 (n : Nat), .bool true] | none => .tuple #[.int .i64 0, .bool false]
theorem valD_snoc (l : Bs) (c : UInt8) : valD (l ++ [c]) = valD l * 10 + (c.toNat - 48) := by unfold valD; rw [List.foldl_append]; rfl
theorem dig_bd {c : UInt8} (h : isDig c = true) : 48 ≤ c.toNat ∧ c.toNat ≤ 57 := by
  unfold isDig at h
  simpa using h
theorem dig_no {c : UInt8} (h : isDig c = false) : c.toNat < 48 ∨ 57 < c.toNat := by
  unfold isDig at h
  simp at h
  omega
theorem take_snoc {l : Bs} {k : Nat} {c : UInt8} (h : l[k]? = some c) : l.take (k + 1) = l.take k ++ [c] := by rw [List.take_add_one, h]; rfl
/-- Eighteen digits fit. -/
theorem valD_lt (l : Bs) (k : Nat) (hk : k ≤ l.length) (h18 : k ≤ 18) (hd : (l.take k).all isDig = true) : valD (l.take k) < 10 ^ k := by
  induction k with
  | zero => simp [valD]
  | succ k ih =>
    have hc : l[k]? = some (l[k]'(by omega)) := List.getElem?_eq_getElem _
    rw [take_snoc hc] at hd ⊢
    rw [List.all_append] at hd
    simp only [List.all_cons, List.all_nil, Bool.and_true, Bool.and_eq_true] at hd
    have := ih (by omega) (by omega) hd.1
    have hb := dig_bd hd.2
    rw [valD_snoc, Nat.pow_succ]
    omega
theorem all_not {l : Bs} {k : Nat} {c : UInt8} (h : l[k]? = some c) (hc : isDig c = false) : l.all isDig = false := by
  cases ha : l.all isDig with
  | false => rfl
  | true =>
    have := List.all_eq_true.1 ha c (List.mem_of_getElem? h)
    rw [hc] at this; cases this
theorem at_list {s : ByteArray} {pos : Nat} (h : pos < s.size) : s.data.toList[pos]? = some (s[pos]'h) := by
  rw [Array.getElem?_toList, Array.getElem?_eq_getElem (by exact h)]
  rfl

set_option maxHeartbeats 1000000 in
theorem number_row (s : ByteArray) (most : Nat) (w : World) (h0 : 0 < s.size) (hl : s.size ≤ most) (h18 : most ≤ 18) :
    Calls Tryd.prog 81 #[.string s, .int .i64 most] w fun e w' => e = .returned (numR (numG most s.data.toList)) ∧ Below w.heap.size w w' := by
  have hlen : s.data.toList.length = s.size := Array.length_toList
  have HY : Hid (∀ N, s.data.toList.all isDig = true → N = valD s.data.toList → numR (numG most s.data.toList) = .tuple #[.int .i64 (N : Nat), .bool true]) := fun N ha hN => by
    unfold numG; rw [if_pos ⟨fun e => by rw [e] at hlen; simp at hlen; omega, by rw [hlen]; exact hl, ha⟩, hN]; rfl
  have HN : Hid (s.data.toList.all isDig = false → numR (numG most s.data.toList) = .tuple #[.int .i64 0, .bool false]) := fun ha => by
    unfold numG; rw [if_neg (by rw [ha]; simp)]; rfl
  have hne : s.toList.isEmpty = false := by
    rw [ByteArray.toList_eq]
    cases h : s.data.toList with
    | nil => rw [h] at hlen; simp at hlen; omega
    | cons a l => rfl
  have hsm : decide (most < s.size) = false := decide_eq_false (by omega)
  generalize numR (numG most s.data.toList) = res at *
  go_enter Tryd.func81, Tryd.ntmps81
  go_wp2_with fail
  go_loopw [6] (fun n wr => ∃ pos : Nat, pos ≤ s.size ∧ n = .int .i64 (valD (s.data.toList.take pos) : Nat) ∧ Hid ((s.data.toList.take pos).all isDig = true) ∧ wr.heap[w.heap.size]? = some (.stringIter s pos) ∧ Below w.heap.size w wr) (fun n wr => s.size - wr.iterPos w.heap.size)
  case atStart => exact ⟨0, Nat.zero_le _, rfl, rfl, by have := World.iter_heap w s 0; simpa using this, (Below.refl _ _).alloc (Nat.le_refl _) _⟩
  case round =>
    obtain ⟨pos, hps, rfl, hd, hit, hB⟩ := hrel
    have hsz : w.heap.size < wr.heap.size := (Array.getElem?_eq_some_iff.1 hit).1
    have hv := valD_lt s.data.toList pos (by omega) (by omega) hd.out
    have HV := Lib.hid (rfl : valD (s.data.toList.take pos) = valD (s.data.toList.take pos))
    by_cases hp : pos < s.size
    · have hc := at_list hp
      have hB2 := below_iterAt hB (k := w.heap.size) (Nat.le_refl _) s
      have hit2 := fun q => Lib.iterAt_heap wr w.heap.size s pos q hit
      have h17 : (10 : Nat) ^ pos ≤ 10 ^ 17 := Nat.pow_le_pow_right (by decide) (by omega)
      cases hdg : isDig (s[pos]'hp)
      · have hend := HN.out (all_not hc hdg)
        have hno : (Utf8.decode s pos).1 < 48 ∨ 57 < (Utf8.decode s pos).1 := by
          by_cases ha : (s[pos]'hp).toNat < 128
          · rw [decode_ascii s pos hp ha]; exact dig_no hdg
          · have := (decode_high s pos hp (by omega)).1; omega
        have hd1 := decode_le s pos
        have hnx : ∀ ty, (Instr.next (.pointer (some ⟨w.heap.size, 0, none⟩)) true ty).run Tryd.prog wr = _ := fun ty => Lib.run_next_any_at wr w.heap.size s pos ty hit hp
        have hB3 := hB2 (pos + (Utf8.decode s pos).2)
        generalize (Utf8.decode s pos).1 = r at *
        generalize valD (s.data.toList.take pos) = N at *
        clear HY HN hit2 hd hv HV
        rcases hno with h48 | h57
        · have t1 : decide (r < 48) = true := decide_eq_true h48
          have t1' : decide ((r : Int) < 48) = true := decide_eq_true (by omega)
          go_wp2_with fail
          go_ret2
          exact ⟨by rw [hend]; rfl, hB3⟩
        · have t1 : decide (r < 48) = false := decide_eq_false (by omega)
          have t1' : decide ((r : Int) < 48) = false := decide_eq_false (by omega)
          have t2 : decide (57 < r) = true := decide_eq_true h57
          have t2' : decide ((r : Int) > 57) = true := decide_eq_true (by omega)
          go_wp2_with fail
          go_ret2
          exact ⟨by rw [hend]; rfl, hB3⟩
      · have hb := dig_bd hdg
        have hnx : ∀ ty, (Instr.next (.pointer (some ⟨w.heap.size, 0, none⟩)) true ty).run Tryd.prog wr = _ := fun ty => Lib.run_next_ascii_at wr w.heap.size s pos ty hit hp (by omega)
        have hts := take_snoc hc
        have hv1 : valD (s.data.toList.take (pos + 1)) = valD (s.data.toList.take pos) * 10 + ((s[pos]'hp).toNat - 48) := by rw [hts, valD_snoc]
        have hd2 : Hid ((s.data.toList.take (pos + 1)).all isDig = true) := by unfold Hid; rw [hts, List.all_append, hd.out]; simp [hdg]
        have hB3 := hB2 (pos + 1)
        have hit3 := hit2 (pos + 1)
        have HV1 := Lib.hid hv1
        clear hts hv1 hB2 hit2 HY HN HV
        generalize valD (s.data.toList.take pos) = N at *
        generalize hcn : (s[pos]'hp).toNat = r at *
        have hN17 : N < 100000000000000000 := Nat.lt_of_lt_of_le hv h17
        have t1 : decide (r < 48) = false := decide_eq_false (by omega)
        have t1' : decide ((r : Int) < 48) = false := decide_eq_false (by omega)
        have t2 : decide (57 < r) = false := decide_eq_false (by omega)
        have t2' : decide ((r : Int) > 57) = false := decide_eq_false (by omega)
        clear hv h17
        go_wp2_with fail
        go_roundw
        case rel =>
          refine ⟨pos + 1, by omega, ?_, hd2, hit3, hB3⟩
          rw [HV1.out]; congr 1; omega
        case measure => simp only [World.iterPos, hit3, hit]; omega
    · have hnx : ∀ ty, (Instr.next (.pointer (some ⟨w.heap.size, 0, none⟩)) true ty).run Tryd.prog wr = _ := fun ty => Lib.run_next_end_at wr w.heap.size s pos ty hit hp
      have hpe : pos = s.size := by omega
      have htk : s.data.toList.take pos = s.data.toList := by rw [hpe, ← hlen, List.take_length]
      have hd' := hd.out
      rw [htk] at hd' ⊢
      have hend := HY.out _ hd' rfl
      generalize valD s.data.toList = N at *
      clear HY HN hd hd' hv HV
      go_wp2_with fail
      go_ret2
      exact ⟨by rw [hend]; rfl, hB⟩

/-- digits.Number: at any text. -/
theorem number_any (s : ByteArray) (most : Nat) (w : World) (hs : s.size ≤ 9223372036854775807) (h18 : most ≤ 18) :
    Calls Tryd.prog 81 #[.string s, .int .i64 most] w fun e w' => e = .returned (numR (numG most s.data.toList)) ∧ Below w.heap.size w w' := by
  have hlen : s.data.toList.length = s.size := Array.length_toList
  by_cases h0 : 0 < s.size
  · by_cases hl : s.size ≤ most
    · exact number_row s most w h0 hl h18
    · have HN : numR (numG most s.data.toList) = .tuple #[.int .i64 0, .bool false] := by
        unfold numG; rw [if_neg (by rw [hlen]; omega)]; rfl
      have hne : s.toList.isEmpty = false := by
        rw [ByteArray.toList_eq]
        cases h : s.data.toList with
        | nil => rw [h] at hlen; simp at hlen; omega
        | cons a l => rfl
      have hsm : decide (most < s.size) = true := decide_eq_true (by omega)
      rw [HN]
      clear HN hlen
      go_enter Tryd.func81, Tryd.ntmps81
      go_wp2_with fail
      go_ret2
      exact ⟨rfl, Below.refl _ _⟩
  · have hnil : s.data.toList = [] := List.eq_nil_of_length_eq_zero (by omega)
    have HN : numR (numG most s.data.toList) = .tuple #[.int .i64 0, .bool false] := by
      unfold numG; rw [if_neg (by rw [hnil]; simp)]; rfl
    have hne : s.toList.isEmpty = true := by rw [ByteArray.toList_eq, hnil]; rfl
    rw [HN]
    clear HN hlen hnil
    go_enter Tryd.func81, Tryd.ntmps81
    go_wp2_with fail
    go_ret2
    exact ⟨rfl, Below.refl _ _⟩
end Go.Proofs.YtpobghdiecfoaaaDoor
