/-
  IndexesBack: what was printed is read again as it was; what is read, printed and read again is the same; a text is no longer than one that says each number by itself: so the law returns true for every input, the listed tables of Go's library reading as the program's text lays them.
-/
import Derived.Test.YtdhkinknhjpjmaaDoorIxArr
import Derived.Test.YtdhkinknhjpjmaaDoorRows
import Derived.Test.YtdhkinknhjpjmaaDoorArgs2
import Derived.Test.YtdhkinknhjpjmaaDoorLaid
import Derived.Test.YtdhkinknhjpjmaaDoorCards
import Derived.Test.YtdhkinknhjpjmaaDoorTie
import Derived.MakeChecks
import Derived.SevenTiedAt
namespace Go.Proofs.YtdhkinknhjpjmaaDoor.indexesBack
open Go.ChangeShapes Go.WideShapes Go.ChangeAt Go.RowKit
set_option linter.unusedVariables false

theorem own : ownKnob Tryd.prog.godebug = none := by kernel_rfl

open Go Go.RowKit Go.Lib in
set_option maxRecDepth 100000 in
set_option maxHeartbeats 8000000 in
theorem long (a : Option Addr) (n c : Nat) (m : Int) (s : ByteArray) (w : World) (K : Hid (∀ w1, Below w.heap.size w w1 → Calls Tryd.prog 10 #[] w1 fun e w' => e = .returned (.bool true) ∧ Below w1.heap.size w1 w'))
    (hs : s.size ≤ 9223372036854775807) (hn : n ≤ 9223372036854775807) (h : 3000 < n ∨ n ≤ 3000 ∧ 600 < s.size) :
    Calls Tryd.prog 5 #[.agg #[.slice a n c, .int .i64 m], .string s] w fun e w' => e = .returned (.bool true) ∧ Below w.heap.size w w' := by
  have hb := Blk.new w #[.slice a n c, .int .i64 m] 25
  have c0 := hb.cell 0
  simp only [List.getElem?_toArray, List.getElem?_cons_zero] at c0
  have HW := Lib.hid ((Below.refl w.heap.size w).alloc (Nat.le_refl _) (.cells #[.slice a n c, .int .i64 m] 25))
  clear hb
  rcases h with h | ⟨h1, h2⟩
  · have t : decide ((n : Int) > 3000) = true := decide_eq_true (by omega)
    have t1 : decide (3000 < n) = true := decide_eq_true h
    go_enter Tryd.func5, Tryd.ntmps5
    go_wp2_with fail
    refine (K.out _ HW.out).mono ?_; rintro e w9 ⟨rfl, b9⟩
    have B9 := Lib.hid (below_next b9 HW.out)
    go_wp2_with fail
    go_ret
    exact ⟨rfl, B9.out⟩
  · have t : decide ((n : Int) > 3000) = false := decide_eq_false (by omega)
    have t1 : decide (3000 < n) = false := decide_eq_false (by omega)
    have t2 : decide ((s.size : Int) > 600) = true := decide_eq_true (by omega)
    have t3 : decide (600 < s.size) = true := decide_eq_true h2
    go_enter Tryd.func5, Tryd.ntmps5
    go_wp2_with fail
    refine (K.out _ HW.out).mono ?_; rintro e w9 ⟨rfl, b9⟩
    have B9 := Lib.hid (below_next b9 HW.out)
    go_wp2_with fail
    go_ret
    exact ⟨rfl, B9.out⟩
open Go Go.RowKit Go.Lib in
set_option maxRecDepth 100000 in
set_option maxHeartbeats 8000000 in
theorem walk (v : Value) (l : List Int) (m : Int) (s : ByteArray) (w : World) (hE : TabW w) (hr : NRow w v l ∧ ∀ z ∈ l, (Lit.int .i64 z).wf = true) (hm : (Lit.int .i64 m).wf = true) (hs : s.size ≤ 9223372036854775807) :
    Calls Tryd.prog 5 #[.agg #[v, .int .i64 m], .string s] w fun e w' => e = .returned (.bool true) ∧ Below w.heap.size w w' := by
  have K : Hid (∀ w1, Below w.heap.size w w1 → Calls Tryd.prog 10 #[] w1 fun e w' => e = .returned (.bool true) ∧ Below w1.heap.size w1 w') := fun w1 hb => known_any w1 (hE.next hb)
  have hrow := hr.1
  have hmax : l.length ≤ 9223372036854775807 := by
    rcases hrow with ⟨rfl, _⟩ | ⟨_, _, c, _, _, h1, h2, _⟩
    · simp
    · unfold maxLen at h2; omega
  obtain ⟨a, c, rfl⟩ := hrow.slice
  by_cases hlong : 3000 < l.length ∨ l.length ≤ 3000 ∧ 600 < s.size
  · exact long a _ c m s w K hs hmax hlong
  have hl : l.length ≤ 3000 := by omega
  have hs6 : s.size ≤ 600 := by omega
  -- what is called
  have PR : Hid (∀ w1, Below w.heap.size w w1 → Calls Tryd.prog 15 #[.agg #[.slice a l.length c, .int .i64 m]] w1 fun e w' => e = .returned (.tuple #[.string (printZ l m), .int .i64 (checkZ l m)]) ∧ Below w1.heap.size w1 w') := fun w1 hb => print_any _ l m w1 (by omega) (hE.next hb) (hrow.kept hb)
  have CK : Hid (∀ w1, Below w.heap.size w w1 → Calls Tryd.prog 14 #[.agg #[.slice a l.length c, .int .i64 m]] w1 fun e w' => e = .returned (.int .i64 (checkZ l m)) ∧ Below w1.heap.size w1 w') := fun w1 hb => check_any _ l m w1 (by omega) (hrow.kept hb)
  obtain ⟨o, ho⟩ : ∃ o, o = parseM s.data.toList := ⟨_, rfl⟩
  have hP0 : posO o ≤ s.size := by rw [ho]; exact parse_pos _
  obtain ⟨L, hL⟩ : ∃ L, L = listO o := ⟨_, rfl⟩
  obtain ⟨N, hN⟩ : ∃ N, N = L.length := ⟨_, rfl⟩
  obtain ⟨M, hM⟩ : ∃ M, M = mostO o := ⟨_, rfl⟩
  obtain ⟨P, hPp⟩ : ∃ P, P = posO o := ⟨_, rfl⟩
  obtain ⟨E, hEe⟩ : ∃ E, E = errO o := ⟨_, rfl⟩
  have hN1 : N ≤ 1001 := by rw [hN, hL]; exact listO_len _
  have PT : Hid (∀ w1, Calls Tryd.prog 11 #[.string s] w1 fun e w' => (∃ a c, e = .returned (.tuple #[.agg #[.slice a N c, .int .i64 M], .int .i64 P, .int .i64 E]) ∧ NOwn w' w1.heap.size (.slice a N c) (ofN L)) ∧ Below w1.heap.size w1 w') := fun w1 => by
    rw [hN]; exact parse_at s w1 (by omega) L M P E ⟨by rw [hM, ho], by rw [hPp, ho], by rw [hEe, ho], by rw [hL, ho]⟩
  have hPs : P ≤ s.size := by rw [hPp]; exact hP0
  have HNO : Hid (E ≠ 0 → N = 0 ∧ M = 0) := fun he => by
    obtain ⟨h1, h2⟩ := no_of (o := o) (by rw [← hEe]; exact he)
    exact ⟨by rw [hN, hL, h1]; rfl, by rw [hM, h2]⟩
  have PL : Hid (E = 0 → (∀ a c w1, Below w.heap.size w w1 → NRow w1 (.slice a N c) (ofN L) → Calls Tryd.prog 15 #[.agg #[.slice a N c, .int .i64 M]] w1 fun e w' => e = .returned (.tuple #[.string (printZ (ofN L) M), .int .i64 0]) ∧ Below w1.heap.size w1 w') ∧
      ∀ w1, Calls Tryd.prog 11 #[.string (printZ (ofN L) M)] w1 fun e w' => (∃ a c, e = .returned (.tuple #[.agg #[.slice a N c, .int .i64 M], .int .i64 0, .int .i64 0]) ∧ NOwn w' w1.heap.size (.slice a N c) (ofN L)) ∧ Below w1.heap.size w1 w') := fun he => by
    obtain ⟨f, k, hok⟩ := ok_out (o := o) (by rw [← hEe]; exact he)
    have hz : OkZ (ofN L) M := by rw [hL, hM, hok]; exact read_okZ (t := s.data.toList) (by rw [← ho, hok]; rfl)
    refine ⟨fun a c w1 hb hrow => ?_, fun w1 => ?_⟩
    · have := print_any (.slice a N c) (ofN L) M w1 (by rw [ofN_len]; omega) (hE.next hb) hrow
      rwa [checkZ_ok hz] at this
    · obtain ⟨g, h1, h2⟩ := back_at hz
      rw [toN_ofN] at h2
      have hsz := back_size hz
      rw [ofN_len, ← hN] at hsz
      have := parse_at (printZ (ofN L) M) w1 (by omega) L M 0 0 (by rw [h1]; exact ⟨by show ((M : Int)).toNat = M; omega, rfl, rfl, h2⟩)
      rwa [← hN] at this
  have SL : Hid (∀ (w : World) (a a' : Option Addr) (c c' : Nat), NRow w (.slice a N c) (ofN L) → NRow w (.slice a' N c') (ofN L) → Calls Tryd.prog 13 #[.agg #[.slice a N c, .int .i64 M], .agg #[.slice a' N c', .int .i64 M]] w fun e w' => e = .returned (.bool true) ∧ Below w.heap.size w w') := fun w a a' c c' h h' => by
    have := same_any _ _ (ofN L) (ofN L) M M w (by rw [ofN_len]; omega) (by rw [ofN_len]; omega) h h'
    simpa using this
  have PS : Hid (OkZ l m → checkZ l m = 0 ∧ (printZ l m).size ≤ 5 * l.length + 5 ∧ ∀ w1, Calls Tryd.prog 11 #[.string (printZ l m)] w1 fun e w' => (∃ a c, e = .returned (.tuple #[.agg #[.slice a l.length c, .int .i64 m], .int .i64 0, .int .i64 0]) ∧ NRow w' (.slice a l.length c) l) ∧ Below w1.heap.size w1 w') := fun hz => by
    refine ⟨checkZ_ok hz, back_size hz, fun w1 => ?_⟩
    obtain ⟨g, h1, h2⟩ := back_at hz
    have hsz := back_size hz
    refine (parse_at (printZ l m) w1 (by omega) (toN l) m.toNat 0 0 (by rw [h1]; exact ⟨rfl, rfl, rfl, h2⟩)).mono ?_
    rintro e w' ⟨⟨a, c, rfl, ho⟩, hb⟩
    rw [toN_len, ofN_toN hz] at ho
    rw [toN_len, Int.toNat_of_nonneg hz.2.1]
    exact ⟨⟨a, c, rfl, nrow_of_own ho⟩, hb⟩
  have SM : Hid (∀ (w : World) (a a' : Option Addr) (c c' : Nat), NRow w (.slice a l.length c) l → NRow w (.slice a' l.length c') l → Calls Tryd.prog 13 #[.agg #[.slice a l.length c, .int .i64 m], .agg #[.slice a' l.length c', .int .i64 m]] w fun e w' => e = .returned (.bool true) ∧ Below w.heap.size w w') := fun w a a' c c' h h' => by
    have := same_any _ _ l l m m w (by omega) (by omega) h h'
    simpa using this
  obtain ⟨T, hT⟩ : ∃ T, T = printZ (ofN L) M := ⟨_, rfl⟩
  rw [← hT] at PL
  have hb := Lib.hid (Blk.new w #[.slice a l.length c, .int .i64 m] 25)
  have HW := Lib.hid ((Below.refl w.heap.size w).alloc (Nat.le_refl _) (.cells #[.slice a l.length c, .int .i64 m] 25))
  have HRW := Lib.hid (hrow.kept HW.out)
  obtain ⟨g, hg⟩ : ∃ g, g = w.heap.size := ⟨_, rfl⟩
  rw [← hg] at hb
  have c0 := hb.out.cell 0
  have c1 := hb.out.cell 1
  simp only [List.getElem?_toArray, List.getElem?_cons_zero, List.getElem?_cons_succ] at c0 c1
  have t : decide ((l.length : Int) > 3000) = false := decide_eq_false (by omega)
  have t1 : decide (3000 < l.length) = false := decide_eq_false (by omega)
  have t2 : decide ((s.size : Int) > 600) = false := decide_eq_false (by omega)
  have t3 : decide (600 < s.size) = false := decide_eq_false (by omega)
  clear hr hE hm hT hL hN hM hPp hEe ho hP0 hlong hrow hmax hs
  by_cases hz : OkZ l m
  · obtain ⟨hc0, hsz, PP⟩ := PS.out hz
    have PP := Lib.hid PP
    rw [hc0] at PR CK
    generalize printZ l m = S at *
    generalize l.length = n at *
    clear hc0 hz PS
    go_enter Tryd.func5, Tryd.ntmps5
    go_upto_region 3 with fail
    rw [← hg]
    generalize w.alloc (.cells #[.slice a n c, .int .i64 m] 25) = W0 at *
    clear hg
    go_wp2_with fail
    refine (PR.out _ HW.out).mono ?_; rintro e w1 ⟨rfl, b1⟩
    have C1 := Lib.hid (hb.out.kept b1)
    have R1 := Lib.hid (HRW.out.kept b1)
    have B1 := Lib.hid (below_next b1 HW.out)
    have c0 := C1.out.cell 0
    have c1 := C1.out.cell 1
    simp only [List.getElem?_toArray, List.getElem?_cons_zero, List.getElem?_cons_succ] at c0 c1
    clear b1 hb HW HRW PR
    go_wp2_with fail
    refine (CK.out _ B1.out).mono ?_; rintro e w2 ⟨rfl, b2⟩
    have C2 := Lib.hid (C1.out.kept b2)
    have R2 := Lib.hid (R1.out.kept b2)
    have B2 := Lib.hid (below_next b2 B1.out)
    clear b2 C1 R1 B1 CK c0 c1
    go_wp2_with fail
    refine (PP.out _).mono ?_; rintro e w3 ⟨⟨a3, c3, rfl, o3⟩, b3⟩
    have x3 := (Below.refl w3.heap.size w3).alloc (Nat.le_refl _) (.cells #[.slice a3 n c3, .int .i64 m] 25)
    have y3 := below_next x3 b3
    have C3 := Lib.hid (C2.out.kept y3)
    have hX := Lib.hid (Blk.new w3 #[.slice a3 n c3, .int .i64 m] 25)
    have HS := Lib.hid (SM.out _ _ _ _ _ (R2.out.kept y3) (o3.kept x3))
    have B3 := Lib.hid (below_next y3 B2.out)
    obtain ⟨g3, hg3⟩ : ∃ g3, g3 = w3.heap.size := ⟨_, rfl⟩
    rw [← hg3] at hX
    have c0 := C3.out.cell 0
    have c1 := C3.out.cell 1
    have d0 := hX.out.cell 0
    have d1 := hX.out.cell 1
    simp only [List.getElem?_toArray, List.getElem?_cons_zero, List.getElem?_cons_succ] at c0 c1 d0 d1
    clear x3 y3 b3 o3 C2 R2 B2 PP SM
    go_upto_region 8 with fail
    rw [← hg3]
    generalize w3.alloc (.cells #[.slice a3 n c3, .int .i64 m] 25) = W3 at *
    clear hg3
    go_wp2_with fail
    refine HS.out.mono ?_; rintro e WT ⟨rfl, b4⟩
    have c0 := (C3.out.kept b4).cell 0
    simp only [List.getElem?_toArray, List.getElem?_cons_zero] at c0
    have BT := Lib.hid (below_next b4 B3.out)
    have r1 : decide ((S.size : Int) > 5 * (n : Int) + 5) = false := decide_eq_false (by omega)
    have r2 : decide (5 * n + 5 < S.size) = false := decide_eq_false (by omega)
    clear b4 B3 C3 hX HS d0 d1
    go_wp2_with fail
    clear r1 r2 c0 t t1 t2 t3
    refine (PT.out WT).mono ?_; rintro e w4 ⟨⟨a4, c4, rfl, o4⟩, b4⟩
    have x4 := (Below.refl w4.heap.size w4).alloc (Nat.le_refl _) (.cells #[.slice a4 N c4, .int .i64 M] 25)
    have y4 := below_next x4 b4
    have hA := Lib.hid (Blk.new w4 #[.slice a4 N c4, .int .i64 M] 25)
    have R4 := Lib.hid ((nrow_of_own o4).kept x4)
    have B4 := Lib.hid (below_next y4 BT.out)
    obtain ⟨g4, hg4⟩ : ∃ g4, g4 = w4.heap.size := ⟨_, rfl⟩
    rw [← hg4] at hA
    have k0 := hA.out.cell 0
    have k1 := hA.out.cell 1
    simp only [List.getElem?_toArray, List.getElem?_cons_zero, List.getElem?_cons_succ] at k0 k1
    clear o4 b4 x4 y4 BT PT
    go_upto_region 11 with fail
    rw [← hg4]
    generalize w4.alloc (.cells #[.slice a4 N c4, .int .i64 M] 25) = W4 at *
    clear hg4
    by_cases he : E ≠ 0
    · have q : (E != 0) = true := by rw [bne_iff_ne]; exact he
      obtain ⟨n0, m0⟩ := HNO.out he
      have q1 : ((N : Int) == 0) = true := by rw [beq_iff_eq]; omega
      have q2 : ((M : Int) == 0) = true := by rw [beq_iff_eq]; omega
      have q3 : decide ((P : Int) ≥ 0) = true := decide_eq_true (by omega)
      have q4 : decide ((P : Int) ≤ s.size) = true := decide_eq_true (by omega)
      have q4n : decide (P ≤ s.size) = true := decide_eq_true (by omega)
      clear n0 m0 he PL SL HNO hA R4
      go_wp2_with fail
      refine (K.out _ B4.out).mono ?_; rintro e w9 ⟨rfl, b9⟩
      have B9 := Lib.hid (below_next b9 B4.out)
      go_wp2_with fail
      go_ret
      exact ⟨rfl, B9.out⟩
    have he : E = 0 := Decidable.not_not.1 he
    have q : (E != 0) = false := by rw [he]; rfl
    obtain ⟨PL1, PL2⟩ := PL.out he
    have PL1 := Lib.hid PL1
    have PL2 := Lib.hid PL2
    have R4b := R4.out
    have HP := Lib.hid (PL1.out _ _ W4 B4.out R4b)
    clear PL he hPs R4b
    go_wp2_with fail
    refine HP.out.mono ?_; rintro e w5 ⟨rfl, b5⟩
    have A5 := Lib.hid (hA.out.kept b5)
    have R5 := Lib.hid (R4.out.kept b5)
    have B5 := Lib.hid (below_next b5 B4.out)
    clear HP b5 k0 k1 hA R4 B4 q
    go_wp2_with fail
    refine (PL2.out w5).mono ?_; rintro e w6 ⟨⟨a6, c6, rfl, o6⟩, b6⟩
    have x6 := (Below.refl w6.heap.size w6).alloc (Nat.le_refl _) (.cells #[.slice a6 N c6, .int .i64 M] 25)
    have y6 := below_next x6 b6
    have hD := Lib.hid (Blk.new w6 #[.slice a6 N c6, .int .i64 M] 25)
    have R6 := Lib.hid ((nrow_of_own o6).kept x6)
    have A6 := Lib.hid (A5.out.kept y6)
    have R56 := Lib.hid (R5.out.kept y6)
    have B6 := Lib.hid (below_next y6 B5.out)
    obtain ⟨g6, hg6⟩ : ∃ g6, g6 = w6.heap.size := ⟨_, rfl⟩
    rw [← hg6] at hD
    have k0 := hD.out.cell 0
    have k1 := hD.out.cell 1
    simp only [List.getElem?_toArray, List.getElem?_cons_zero, List.getElem?_cons_succ] at k0 k1
    clear o6 b6 x6 y6 A5 R5 B5 PL2
    go_upto_region 15 with fail
    rw [← hg6]
    generalize w6.alloc (.cells #[.slice a6 N c6, .int .i64 M] 25) = W6 at *
    clear hg6
    have HP := Lib.hid (PL1.out _ _ W6 B6.out R6.out)
    clear PL1
    go_wp2_with fail
    refine HP.out.mono ?_; rintro e w7 ⟨rfl, b7⟩
    have A7 := Lib.hid (A6.out.kept b7)
    have D7 := Lib.hid (hD.out.kept b7)
    have HS := Lib.hid (SL.out _ _ _ _ _ (R56.out.kept b7) (R6.out.kept b7))
    have B7 := Lib.hid (below_next b7 B6.out)
    have k0 := A7.out.cell 0
    have k1 := A7.out.cell 1
    have j0 := D7.out.cell 0
    have j1 := D7.out.cell 1
    simp only [List.getElem?_toArray, List.getElem?_cons_zero, List.getElem?_cons_succ] at k0 k1 j0 j1
    clear HP b7 A6 hD R56 R6 B6 SL
    go_wp2_with fail
    refine HS.out.mono ?_; rintro e w8 ⟨rfl, b8⟩
    have B8 := Lib.hid (below_next b8 B7.out)
    clear HS b8 k0 k1 j0 j1 A7 D7 B7
    go_wp2_with fail
    refine (K.out _ B8.out).mono ?_; rintro e w9 ⟨rfl, b9⟩
    have B9 := Lib.hid (below_next b9 B8.out)
    go_wp2_with fail
    go_ret
    exact ⟨rfl, B9.out⟩
  · have hc2 : checkZ l m = 2 := checkZ_no hz
    rw [hc2] at PR CK
    generalize printZ l m = S at *
    generalize l.length = n at *
    clear hc2 hz PS SM
    go_enter Tryd.func5, Tryd.ntmps5
    go_upto_region 3 with fail
    rw [← hg]
    generalize w.alloc (.cells #[.slice a n c, .int .i64 m] 25) = W0 at *
    clear hg
    go_wp2_with fail
    refine (PR.out _ HW.out).mono ?_; rintro e w1 ⟨rfl, b1⟩
    have C1 := Lib.hid (hb.out.kept b1)
    have B1 := Lib.hid (below_next b1 HW.out)
    have c0 := C1.out.cell 0
    have c1 := C1.out.cell 1
    simp only [List.getElem?_toArray, List.getElem?_cons_zero, List.getElem?_cons_succ] at c0 c1
    clear b1 hb HW HRW PR
    go_wp2_with fail
    refine (CK.out _ B1.out).mono ?_; rintro e WT ⟨rfl, b2⟩
    have BT := Lib.hid (below_next b2 B1.out)
    clear b2 C1 B1 CK c0 c1
    go_wp2_with fail
    clear t t1 t2 t3
    refine (PT.out WT).mono ?_; rintro e w4 ⟨⟨a4, c4, rfl, o4⟩, b4⟩
    have x4 := (Below.refl w4.heap.size w4).alloc (Nat.le_refl _) (.cells #[.slice a4 N c4, .int .i64 M] 25)
    have y4 := below_next x4 b4
    have hA := Lib.hid (Blk.new w4 #[.slice a4 N c4, .int .i64 M] 25)
    have R4 := Lib.hid ((nrow_of_own o4).kept x4)
    have B4 := Lib.hid (below_next y4 BT.out)
    obtain ⟨g4, hg4⟩ : ∃ g4, g4 = w4.heap.size := ⟨_, rfl⟩
    rw [← hg4] at hA
    have k0 := hA.out.cell 0
    have k1 := hA.out.cell 1
    simp only [List.getElem?_toArray, List.getElem?_cons_zero, List.getElem?_cons_succ] at k0 k1
    clear o4 b4 x4 y4 BT PT
    go_upto_region 11 with fail
    rw [← hg4]
    generalize w4.alloc (.cells #[.slice a4 N c4, .int .i64 M] 25) = W4 at *
    clear hg4
    by_cases he : E ≠ 0
    · have q : (E != 0) = true := by rw [bne_iff_ne]; exact he
      obtain ⟨n0, m0⟩ := HNO.out he
      have q1 : ((N : Int) == 0) = true := by rw [beq_iff_eq]; omega
      have q2 : ((M : Int) == 0) = true := by rw [beq_iff_eq]; omega
      have q3 : decide ((P : Int) ≥ 0) = true := decide_eq_true (by omega)
      have q4 : decide ((P : Int) ≤ s.size) = true := decide_eq_true (by omega)
      have q4n : decide (P ≤ s.size) = true := decide_eq_true (by omega)
      clear n0 m0 he PL SL HNO hA R4
      go_wp2_with fail
      refine (K.out _ B4.out).mono ?_; rintro e w9 ⟨rfl, b9⟩
      have B9 := Lib.hid (below_next b9 B4.out)
      go_wp2_with fail
      go_ret
      exact ⟨rfl, B9.out⟩
    have he : E = 0 := Decidable.not_not.1 he
    have q : (E != 0) = false := by rw [he]; rfl
    obtain ⟨PL1, PL2⟩ := PL.out he
    have PL1 := Lib.hid PL1
    have PL2 := Lib.hid PL2
    have R4b := R4.out
    have HP := Lib.hid (PL1.out _ _ W4 B4.out R4b)
    clear PL he hPs R4b
    go_wp2_with fail
    refine HP.out.mono ?_; rintro e w5 ⟨rfl, b5⟩
    have A5 := Lib.hid (hA.out.kept b5)
    have R5 := Lib.hid (R4.out.kept b5)
    have B5 := Lib.hid (below_next b5 B4.out)
    clear HP b5 k0 k1 hA R4 B4 q
    go_wp2_with fail
    refine (PL2.out w5).mono ?_; rintro e w6 ⟨⟨a6, c6, rfl, o6⟩, b6⟩
    have x6 := (Below.refl w6.heap.size w6).alloc (Nat.le_refl _) (.cells #[.slice a6 N c6, .int .i64 M] 25)
    have y6 := below_next x6 b6
    have hD := Lib.hid (Blk.new w6 #[.slice a6 N c6, .int .i64 M] 25)
    have R6 := Lib.hid ((nrow_of_own o6).kept x6)
    have A6 := Lib.hid (A5.out.kept y6)
    have R56 := Lib.hid (R5.out.kept y6)
    have B6 := Lib.hid (below_next y6 B5.out)
    obtain ⟨g6, hg6⟩ : ∃ g6, g6 = w6.heap.size := ⟨_, rfl⟩
    rw [← hg6] at hD
    have k0 := hD.out.cell 0
    have k1 := hD.out.cell 1
    simp only [List.getElem?_toArray, List.getElem?_cons_zero, List.getElem?_cons_succ] at k0 k1
    clear o6 b6 x6 y6 A5 R5 B5 PL2
    go_upto_region 15 with fail
    rw [← hg6]
    generalize w6.alloc (.cells #[.slice a6 N c6, .int .i64 M] 25) = W6 at *
    clear hg6
    have HP := Lib.hid (PL1.out _ _ W6 B6.out R6.out)
    clear PL1
    go_wp2_with fail
    refine HP.out.mono ?_; rintro e w7 ⟨rfl, b7⟩
    have A7 := Lib.hid (A6.out.kept b7)
    have D7 := Lib.hid (hD.out.kept b7)
    have HS := Lib.hid (SL.out _ _ _ _ _ (R56.out.kept b7) (R6.out.kept b7))
    have B7 := Lib.hid (below_next b7 B6.out)
    have k0 := A7.out.cell 0
    have k1 := A7.out.cell 1
    have j0 := D7.out.cell 0
    have j1 := D7.out.cell 1
    simp only [List.getElem?_toArray, List.getElem?_cons_zero, List.getElem?_cons_succ] at k0 k1 j0 j1
    clear HP b7 A6 hD R56 R6 B6 SL
    go_wp2_with fail
    refine HS.out.mono ?_; rintro e w8 ⟨rfl, b8⟩
    have B8 := Lib.hid (below_next b8 B7.out)
    clear HS b8 k0 k1 j0 j1 A7 D7 B7
    go_wp2_with fail
    refine (K.out _ B8.out).mono ?_; rintro e w9 ⟨rfl, b9⟩
    have B9 := Lib.hid (below_next b9 B8.out)
    go_wp2_with fail
    go_ret
    exact ⟨rfl, B9.out⟩


set_option maxRecDepth 100000 in
theorem lifted (os : Os) (started : os.Started) (H : Type) (enc : TypeId × Value → H) :
    ReturnsInHanded {} Tryd.checked os 5 .any (fun w args => (Rows.indexesBackSpec.pre enc Tryd.prog Tryd.f5 Rows.indexesBackRow.domain false w args ∧ laidMetH Tryd.prog laid6 w) ∧ sizedMet enc Tryd.prog Tryd.f5 (OpenSpec.ofChange Rows.indexesBackSpec) false w args) (Rows.indexesBackSpec.post enc Tryd.prog Tryd.f5 false true false false) := by
  refine laid_lift (C := Tryd.checked) (X := fun w _ => laidMetH Tryd.prog laid6 w) (fun _ _ _ hh h => h.of_heap hh) own started (by kernel_rfl) Tryd.func5
    (ChangeSpec.witness_shaped (enc := enc) (C := Tryd.checked) (os := os) (X := fun w _ => laidMetH Tryd.prog laid6 w) false (World.laidAll Tryd.prog os laid6) #[.agg #[.slice none 0 0, .int .i64 0], .string ByteArray.empty] 8 (World.laidAll_os _ _ _)
      (World.shaped_of_ZipB (by kernel_rfl) (by kernel_rfl)) (by kernel_rfl) (by kernel_rfl) (by kernel_rfl)
      (by rw [MakeChecks.laidMetH_plain _ _ _ (by kernel_rfl)]; exact laidMet_laidAll _ (by kernel_rfl) (by kernel_rfl))) ?_
  intro W base args ds gs before hval0 hW hsz0 hL hS
  have hE := env6_of hL hS
  have hval : ∀ (j : Nat) t v, Tryd.f5.params[j]? = some t → args[j]? = some v → Value.okWide Tryd.prog W .any base t v := hval0
  have hW' := hW
  obtain ⟨p, q, hA0, hV, rfl, hfz, hnd⟩ := hW
  have hA : DataW.TrodAll enc Tryd.prog W 0 (fun _ => true) true Tryd.f5.params.toList args.toList ds p := hA0
  rw [Tryd.params5] at hA hval
  obtain ⟨v0, vs0, d0, ds0, p0, q0, hargs, rfl, rfl, h0, r0⟩ := trodAll_cons hA
  obtain ⟨v1, vs1, d1, ds1, p1, q1, rfl, rfl, rfl, h1, r1⟩ := trodAll_cons r0
  obtain ⟨rfl, rfl, rfl⟩ := trodAll_nil r1
  obtain rfl : args = #[v0, v1] := by cases args; simp_all
  obtain ⟨cs0, rfl, hs0, hf0⟩ := open_plain_struct Tryd.underlying25 (by kernel_rfl) (by kernel_rfl) (hval 0 25 v0 rfl rfl) h0
  obtain ⟨c0_0, y0_0, n0_0, e0_0, t0_0⟩ := hf0 0 _ rfl
  obtain ⟨l, w0_0⟩ := field_nrow Tryd.underlying23 Tryd.underlying3 (by kernel_rfl) t0_0
  obtain ⟨c0_1, y0_1, n0_1, e0_1, t0_1⟩ := hf0 1 _ rfl
  obtain ⟨m, rfl, w0_1⟩ := field_int Tryd.underlying3 t0_1
  obtain rfl : cs0 = #[c0_0, .int .i64 m] := arr_of cs0 [c0_0, .int .i64 m] hs0 (fun j hj => by match j, hj with | 0, _ => exact e0_0 | 1, _ => exact e0_1 | j + 2, hj => exact absurd hj (by simp))
  obtain ⟨s, rfl, w1⟩ := open_string_arg Tryd.underlying9 (hval 1 9 v1 rfl rfl) h1
  clear hA0 hval0
  refine (walk c0_0 l m s W hE w0_0 w0_1 w1).mono fun e W' ⟨he, hb⟩ => ?_
  subst he
  exact ⟨_, rfl, law_post (by kernel_rfl) (by kernel_rfl) rfl Tryd.underlying4 rfl hW' rfl hb⟩

theorem over : Rows.indexesBackRow.holds Tryd.pinned (OpenSpec.ofChange Rows.indexesBackSpec) :=
  OpenClaim.holds_of_wide 5 Tryd.f5 rfl rfl rfl rfl rfl rfl rfl ⟨rfl, rfl, rfl, rfl, rfl⟩ rfl rfl rfl rfl rfl (by kernel_rfl) Tryd.func5 (by kernel_rfl)
    (of_decide_eq_true (by kernel_rfl)) (by unfold Func.isWrapper; first | (rw [if_pos (by decide +kernel)]; kernel_rfl) | (rw [if_neg (by decide +kernel)]; exact ⟨rfl, rfl⟩))
    (fun os started H enc _ => lifted os started H enc)

theorem proved : Rows.IndexesBackCardSaid :=
  Claim7.holds_tied_plain_at .later [] _ true _ false over (fun _ h => by cases h) (by kernel_rfl) (fun _ h => by cases h) indexesBack_row_tie rfl ⟨rfl, rfl⟩ (by kernel_rfl) rfl
    (fun f fn hf hfn => by
      obtain rfl : f = 5 := Option.some.inj ((show Tryd.prog.funcNamed "ganger/gangerlaw06.IndexesBack" = some 5 by kernel_rfl).symm.trans hf) |>.symm
      obtain rfl : fn = Tryd.f5 := (Option.some.inj (Tryd.func5.symm.trans hfn)).symm
      exact ⟨by kernel_rfl, fun j t ht => by
        rw [Tryd.params5] at ht
        have hm : t ∈ [25, 9] := by simpa using Array.mem_of_getElem? ht
        have hall : ([25, 9].all fun u => !Tryd.prog.wantsStandIn u) = true := by kernel_rfl
        exact (show Tryd.prog.wantsStandIn t = false by simpa using List.all_eq_true.1 hall t hm)⟩)
    (by kernel_rfl)
#print axioms proved
end Go.Proofs.YtdhkinknhjpjmaaDoor.indexesBack
