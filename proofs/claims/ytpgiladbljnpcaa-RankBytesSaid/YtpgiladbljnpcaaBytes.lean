/-
  rank.appendBig, gangerref03.digits: a number's bytes, the most significant one first.
-/
import Derived.Test.YtpgiladbljnpcaaKeyM
import Derived.Test.YtpgiladbljnpcaaApp
import Derived.Laws.OwnMore
import Derived.OwnWalk
namespace Go.Proofs.Ytpgiladbljnpcaa
open Go.ChangeShapes Go.WideShapes Go.ChangeAt Go.RowKit Go.Lib Go.Sort Go.Maps
set_option linter.unusedVariables false

theorem Try.infoByte : (Try.prog.info? 5).map (fun i => (i.zero, i.size, i.bytes)) = some (some (.int .u8 0), 1, 1) := by kernel_rfl

/-- Byte i of a number of `size` bytes, the most significant one first. -/
def byteAt (n : Int) (size i : Nat) : Int := n / 2 ^ (8 * (size - 1 - i)) % 256
def bigL (n : Int) (size : Nat) : List Int := (List.range size).map (byteAt n size)
def cellsB (l : List Int) : List Value := l.map fun b => .int .u8 b
theorem bigL_len (n : Int) (size : Nat) : (bigL n size).length = size := by simp [bigL]
theorem bigL_snoc (n : Int) (size k : Nat) (h : k < size) : (bigL n size).take (k + 1) = (bigL n size).take k ++ [byteAt n size k] := by
  rw [List.take_add_one]
  simp [bigL, h]
theorem cellsB_snoc (l : List Int) (b : Int) : cellsB (l ++ [b]) = cellsB l ++ [.int .u8 b] := by simp [cellsB]

set_option maxRecDepth 100000 in
set_option maxHeartbeats 1000000 in
theorem appendBig_any (base : Nat) (v : Value) (m : Nat) (l : List Int) (n size : Nat) (w : World) (hbase : base ≤ w.heap.size) (hm : m ≤ 1000) (hs : size ≤ 8) (hn : n ≤ 18446744073709551615) (h : w.ownsRow base 5 1 v m (cellsB l)) :
    Calls Try.prog 44 #[v, .int .u64 n, .int .i64 size] w
      fun e w' => ∃ v', e = .returned v' ∧ w'.ownsRow base 5 1 v' (m + size) (cellsB (l ++ bigL n size)) ∧ Below base w w' := by
  obtain ⟨i0, hi, hz0, hz1, hz2⟩ := info_parts Try.infoByte
  have HO := Lib.hid h
  have HT : Hid ((bigL n size).take size = bigL n size) := by unfold Hid; rw [List.take_of_length_le (by rw [bigL_len]; exact Nat.le_refl _)]
  clear h
  go_enter Try.func44, Try.ntmps44
  go_wp2_with fail
  go_loopw [0, 7] (fun o i wr => ∃ k : Nat, k ≤ size ∧ i = .int .i64 ((size : Int) - 1 - k) ∧ wr.ownsRow base 5 1 o (m + k) (cellsB (l ++ (bigL n size).take k)) ∧ Below base w wr) (fun _ i _ => ((intOf i) + 1).toNat)
  case atStart => exact ⟨0, Nat.zero_le _, by simp, by simpa using HO.out, Below.refl _ _⟩
  case round =>
    obtain ⟨k, hk, rfl, hown, hB⟩ := hrel
    have HO2 := Lib.hid hown
    have HB := Lib.hid hB
    clear hown hB
    by_cases hlt : k < size
    · have hge : decide ((size : Int) - 1 - k ≥ 0) = true := decide_eq_true (by omega)
      have HS := Lib.hid (bigL_snoc n size k hlt)
      have HBy : Hid (byteAt n size k = (n : Int) / 2 ^ (8 * (size - 1 - k)) % 256) := rfl
      have hz : base ≤ wr.heap.size := Nat.le_trans hbase HB.out.size
      go_wp2_with (at_builtin; refine wpList_append_own _ rfl _ _ 48 rfl base 5 i0 _ 1 1 Try.underlying48 hi hz0 hz1 hz2 rfl (by decide) _ (m + k) _ rfl (World.ownsRow.alloc HO2.out _) ⟨wr.heap.size, 0, none⟩ 1 1 [.int .u8 ((n : Int) / 2 ^ (8 * (size - 1 - k)) % 256)] rfl rfl (news_alloc _ [.int .u8 ((n : Int) / 2 ^ (8 * (size - 1 - k)) % 256)] _) (by simp [Value.oneCell']) (by unfold maxLen; omega) (by omega) (by simp; omega) ?_; intro v4 w4 hown4 hgrow4 _)
      go_roundw
      case rel =>
        refine ⟨k + 1, hlt, by rw [show (size : Int) - 1 - ((k + 1 : Nat) : Int) = (size : Int) - 1 - k - 1 by omega], ?_, (HB.out.alloc hz _).grown hgrow4 (by simp; omega) (fun j hj => (HO2.out.lt j hj).1)⟩
        rw [HS.out, ← List.append_assoc, cellsB_snoc, HBy.out]
        exact hown4
      case measure => simp [intOf]; omega
    · obtain rfl : k = size := by omega
      have hge : decide ((k : Int) - 1 - k ≥ 0) = false := decide_eq_false (by omega)
      go_wp2_with fail
      go_ret
      exact ⟨_, rfl, by have := HO2.out; rw [HT.out] at this; exact this, HB.out⟩

/-- What digits has written after k of its rounds. -/
def dArr (n : Int) (k : Nat) : Array Value := ((List.range 8).map fun j => Value.int .u8 (if j < 8 - k then 0 else byteAt n 8 j)).toArray
theorem dArr_size (n : Int) (k : Nat) : (dArr n k).size = 8 := by simp [dArr]
theorem dArr_step (n : Int) (k : Nat) (h : k < 8) : (dArr n k).setIfInBounds (7 - k) (.int .u8 (n / 2 ^ (8 * k) % 256)) = dArr n (k + 1) := by
  apply Array.ext
  · simp [dArr]
  · intro j h1 h2
    have hj : j < 8 := by simpa [dArr] using h2
    rw [Array.getElem_setIfInBounds]
    simp only [dArr, List.getElem_toArray, List.getElem_map, List.getElem_range]
    by_cases e : 7 - k = j
    · rw [if_pos e]
      subst e
      rw [if_neg (by omega)]
      unfold byteAt
      rw [show 8 - 1 - (7 - k) = k by omega]
    · rw [if_neg e]
      by_cases q : j < 8 - (k + 1)
      · rw [if_pos q, if_pos (by omega)]
      · rw [if_neg q, if_neg (by omega)]
    all_goals (simp [dArr]; omega)
theorem dArr_full (n : Int) : dArr n 8 = (cellsB (bigL n 8)).toArray := by
  unfold dArr cellsB bigL
  simp

set_option maxRecDepth 100000 in
set_option maxHeartbeats 1000000 in
theorem digits_any (n : Nat) (w : World) (hn : n ≤ 18446744073709551615) :
    Calls Try.prog 45 #[.int .u64 n] w
      fun e w' => ∃ b, e = .returned (.slice (some ⟨b, 0, none⟩) 8 8) ∧ w.heap.size ≤ b ∧ Blk w' b (cellsB (bigL n 8)).toArray 5 ∧ Below w.heap.size w w' := by
  obtain ⟨i0, hi, hz0, hz1, hz2⟩ := info_parts Try.infoByte
  have HM := run_make (P := Try.prog) w 48 5 i0 _ rfl hi hz0 .i64 .i64 8 8 (by decide) (by decide) (by rw [hz2]; decide) (by decide)
  rw [hz1] at HM
  have HN := Lib.hid hn
  have HF := Lib.hid (dArr_full n)
  clear hn
  go_enter Try.func45, Try.ntmps45
  go_wp2_with fail
  have HB0 : Hid (Below w.heap.size w (w.alloc (.cells (madeCells (Value.int .u8 0).cells (8 * 1)) 5))) := (Below.refl _ _).alloc (Nat.le_refl _) _
  have HK0 : Hid (Blk (w.alloc (.cells (madeCells (Value.int .u8 0).cells (8 * 1)) 5)) w.heap.size (dArr n 0) 5) := by
    have e : madeCells (Value.int .u8 0).cells (8 * 1) = dArr n 0 := by
      apply Array.ext'
      rw [show (Value.int .u8 0).cells = #[Value.int .u8 0] from rfl, toList_madeCells_one]
      rfl
    rw [e]; exact Blk.new _ _ _
  go_loopw [0, 4] (fun o i wr => ∃ k : Nat, k ≤ 8 ∧ i = .int .i64 (7 - k) ∧ o = .int .u64 ((n / 2 ^ (8 * k) : Nat) : Int) ∧ Blk wr w.heap.size (dArr n k) 5 ∧ Below w.heap.size w wr) (fun _ i _ => ((intOf i) + 1).toNat)
  case atStart => exact ⟨0, Nat.zero_le _, by simp, by simp, HK0.out, HB0.out⟩
  case round =>
    obtain ⟨k, hk, rfl, rfl, hkk, hB⟩ := hrel
    have HK := Lib.hid hkk
    have HB := Lib.hid hB
    clear hkk hB
    by_cases hlt : k < 8
    · have hge : decide ((7 : Int) - k ≥ 0) = true := decide_eq_true (by omega)
      have HX : Hid (n / 2 ^ (8 * (k + 1)) = n / 2 ^ (8 * k) / 256) := by
        unfold Hid; rw [Nat.div_div_eq_div_mul, show 8 * (k + 1) = 8 * k + 8 by omega, Nat.pow_add]
      have HS : Hid ((dArr n k).setIfInBounds (7 - k) (.int .u8 ((n / 2 ^ (8 * k) : Nat) % 256 : Int)) = dArr n (k + 1)) := by
        unfold Hid
        have := dArr_step n k hlt
        rw [← this]; simp
      have hx : n / 2 ^ (8 * k) ≤ 18446744073709551615 := Nat.le_trans (Nat.div_le_self _ _) HN.out
      have HXX : Hid (n / 2 ^ (8 * k) = n / 2 ^ (8 * k)) := rfl
      clear hge
      generalize hxe : n / 2 ^ (8 * k) = x at hx HX HS
      have HXE := Lib.hid hxe
      clear hxe HXX
      have hc : wr.cell? ⟨w.heap.size, 7 - k, none⟩ = some (dArr n k)[7 - k]! := by
        rw [HK.out.cell, getElem!_pos _ _ (by rw [dArr_size]; omega)]
        exact Array.getElem?_eq_getElem (by rw [dArr_size]; omega)
      have hf : wr.frozen? ⟨w.heap.size, 7 - k, none⟩ = false := HK.out.free _
      have hge : decide ((7 : Int) - k ≥ 0) = true := decide_eq_true (by omega)
      have hm : (x : Int).tmod 256 % 256 = x % 256 := by rw [Int.tmod_eq_emod_of_nonneg (by omega)]; omega
      have hq : (x : Int).tdiv 256 = (x : Int) / 256 := Int.tdiv_eq_ediv_of_nonneg (by omega)
      go_wp2_with fail
      go_roundw
      case rel =>
        refine ⟨k + 1, hlt, by rw [show (7 : Int) - ((k + 1 : Nat) : Int) = 7 - k - 1 by omega], by rw [HX.out]; simp, ?_, HB.out.setCell (by exact Nat.le_refl _) _⟩
        have := HK.out.set (7 - k) (.int .u8 ((x : Nat) % 256 : Int))
        rw [HS.out] at this
        exact this
      case measure => simp [intOf]; omega
    · obtain rfl : k = 8 := by omega
      go_wp2_with fail
      go_ret
      exact ⟨_, rfl, Nat.le_refl _, by rw [← HF.out]; exact HK.out, HB.out⟩
end Go.Proofs.Ytpgiladbljnpcaa
