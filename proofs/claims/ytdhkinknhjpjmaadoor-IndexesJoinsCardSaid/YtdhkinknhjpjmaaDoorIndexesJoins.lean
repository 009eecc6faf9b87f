/-
  IndexesJoins: two texts without a limit, with a comma between, say what both say, in either order: so the law returns true for every input, the listed tables of Go's library reading as the program's text lays them.
-/
import Derived.Test.YtdhkinknhjpjmaaDoorIxY
import Derived.Test.YtdhkinknhjpjmaaDoorRows
import Derived.Test.YtdhkinknhjpjmaaDoorArgs2
import Derived.Test.YtdhkinknhjpjmaaDoorLaid
import Derived.Test.YtdhkinknhjpjmaaDoorCards
import Derived.Test.YtdhkinknhjpjmaaDoorTie
import Derived.MakeChecks
import Derived.SevenTiedAt
namespace Go.Proofs.YtdhkinknhjpjmaaDoor.indexesJoins
open Go.ChangeShapes Go.WideShapes Go.ChangeAt Go.RowKit
set_option linter.unusedVariables false

theorem own : ownKnob Tryd.prog.godebug = none := by kernel_rfl

open Go Go.RowKit Go.Lib in
set_option maxRecDepth 100000 in
set_option maxHeartbeats 8000000 in
theorem walk (a b : ByteArray) (w : World) (hE : TabW w) (hsa : a.size ≤ 9223372036854775807) (hsb : b.size ≤ 9223372036854775807) :
    Calls Tryd.prog 6 #[.string a, .string b] w fun e w' => e = .returned (.bool true) ∧ Below w.heap.size w w' := by
  have K : Hid (∀ w1, Below w.heap.size w w1 → Calls Tryd.prog 10 #[] w1 fun e w' => e = .returned (.bool true) ∧ Below w1.heap.size w1 w') := fun w1 hb => known_any w1 (hE.next hb)
  by_cases h3 : 300 < a.size
  · have t : decide (300 < a.size) = true := decide_eq_true h3
    have t2 : decide (300 < (a.size : Int)) = true := decide_eq_true (by omega)
    go_enter Tryd.func6, Tryd.ntmps6
    go_wp2_with fail
    refine (K.out _ (Below.refl _ _)).mono ?_; rintro e w1 ⟨rfl, b1⟩
    go_wp2_with fail
    go_ret
    exact ⟨rfl, b1⟩
  have t : decide (300 < a.size) = false := decide_eq_false h3
  have t2 : decide (300 < (a.size : Int)) = false := decide_eq_false (by omega)
  by_cases h4 : 300 < b.size
  · have t3 : decide (300 < b.size) = true := decide_eq_true h4
    have t4 : decide (300 < (b.size : Int)) = true := decide_eq_true (by omega)
    go_enter Tryd.func6, Tryd.ntmps6
    go_wp2_with fail
    refine (K.out _ (Below.refl _ _)).mono ?_; rintro e w1 ⟨rfl, b1⟩
    go_wp2_with fail
    go_ret
    exact ⟨rfl, b1⟩
  have t3 : decide (300 < b.size) = false := decide_eq_false h4
  have t4 : decide (300 < (b.size : Int)) = false := decide_eq_false (by omega)
  have PA : Hid (∀ (s : ByteArray), s.size ≤ 601 → ∀ w, Calls Tryd.prog 11 #[.string s] w fun e w' => (∃ a c, e = .returned (.tuple #[.agg #[.slice a (listO (parseM s.data.toList)).length c, .int .i64 (mostO (parseM s.data.toList))], .int .i64 (posO (parseM s.data.toList)), .int .i64 (errO (parseM s.data.toList))]) ∧ NOwn w' w.heap.size (.slice a (listO (parseM s.data.toList)).length c) (ofN (listO (parseM s.data.toList)))) ∧ Below w.heap.size w w') := fun s hs w => parse_at s w (by omega) _ _ _ _ ⟨rfl, rfl, rfl, rfl⟩
  have PX := Lib.hid (PA.out a (by omega))
  have PY := Lib.hid (PA.out b (by omega))
  clear hE PA
  obtain ⟨oa, hoa⟩ : ∃ o, o = parseM a.data.toList := ⟨_, rfl⟩
  obtain ⟨ob, hob⟩ : ∃ o, o = parseM b.data.toList := ⟨_, rfl⟩
  rw [← hoa] at PX
  rw [← hob] at PY
  have HOA := Lib.hid hoa
  have HOB := Lib.hid hob
  clear hoa hob
  have hla : (listO oa).length ≤ 1001 := listO_len _
  have hlb : (listO ob).length ≤ 1001 := listO_len _
  have hLa := Lib.hid hla
  obtain ⟨Ea, hEa⟩ : ∃ E, E = errO oa := ⟨_, rfl⟩
  obtain ⟨Ma, hMa⟩ : ∃ M, M = mostO oa := ⟨_, rfl⟩
  obtain ⟨Pa, hPa⟩ : ∃ P, P = posO oa := ⟨_, rfl⟩
  obtain ⟨La, hLA⟩ : ∃ L, L = listO oa := ⟨_, rfl⟩
  obtain ⟨Eb, hEb⟩ : ∃ E, E = errO ob := ⟨_, rfl⟩
  obtain ⟨Mb, hMb⟩ : ∃ M, M = mostO ob := ⟨_, rfl⟩
  obtain ⟨Pb, hPb⟩ : ∃ P, P = posO ob := ⟨_, rfl⟩
  obtain ⟨Lb, hLB⟩ : ∃ L, L = listO ob := ⟨_, rfl⟩
  rw [← hEa, ← hMa, ← hPa, ← hLA] at PX
  rw [← hEb, ← hMb, ← hPb, ← hLB] at PY
  rw [← hLA] at hla
  rw [← hLB] at hlb
  have HEa := Lib.hid hEa
  have HMa := Lib.hid hMa
  have HLA := Lib.hid hLA
  have HEb := Lib.hid hEb
  have HMb := Lib.hid hMb
  have HLB := Lib.hid hLB
  clear hEa hMa hPa hLA hEb hMb hPb hLB hLa
  go_enter Tryd.func6, Tryd.ntmps6
  go_wp2_with fail
  refine (PX.out w).mono ?_; rintro e w1 ⟨⟨a1, c1, rfl, o1⟩, b1⟩
  have z1 : w.heap.size ≤ w1.heap.size := b1.size
  have hA := Lib.hid (Blk.new w1 #[.slice a1 La.length c1, .int .i64 Ma] 25)
  have x1 := (Below.refl w1.heap.size w1).alloc (Nat.le_refl _) (.cells #[.slice a1 La.length c1, .int .i64 Ma] 25)
  have R1 := Lib.hid ((nrow_of_own o1).kept x1)
  have B1 := Lib.hid (below_next x1 b1)
  obtain ⟨g1, hg1⟩ : ∃ g1, g1 = w1.heap.size := ⟨_, rfl⟩
  rw [← hg1] at hA
  clear o1 b1 x1 PX
  go_wp2_with fail
  rw [← hg1]
  generalize w1.alloc (.cells #[.slice a1 La.length c1, .int .i64 Ma] 25) = W1 at *
  clear hg1
  refine (PY.out W1).mono ?_; rintro e w2 ⟨⟨a2, c2, rfl, o2⟩, b2⟩
  have x2 := (Below.refl w2.heap.size w2).alloc (Nat.le_refl _) (.cells #[.slice a2 Lb.length c2, .int .i64 Mb] 25)
  have y2 := below_next x2 b2
  have hB := Lib.hid (Blk.new w2 #[.slice a2 Lb.length c2, .int .i64 Mb] 25)
  have A2 := Lib.hid (hA.out.kept y2)
  have R12 := Lib.hid (R1.out.kept y2)
  have R2 := Lib.hid ((nrow_of_own o2).kept x2)
  have B2 := Lib.hid (below_next y2 B1.out)
  obtain ⟨g2, hg2⟩ : ∃ g2, g2 = w2.heap.size := ⟨_, rfl⟩
  rw [← hg2] at hB
  have k0 := A2.out.cell 0
  have k1 := A2.out.cell 1
  have j0 := hB.out.cell 0
  have j1 := hB.out.cell 1
  simp only [List.getElem?_toArray, List.getElem?_cons_zero, List.getElem?_cons_succ] at k0 k1 j0 j1
  clear o2 b2 x2 y2 hA B1 R1 PY
  go_upto_region 5 with fail
  rw [← hg2]
  generalize w2.alloc (.cells #[.slice a2 Lb.length c2, .int .i64 Mb] 25) = W2 at *
  clear hg2
  by_cases e1 : Ea ≠ 0
  · have q : (Ea != 0) = true := by rw [bne_iff_ne]; exact e1
    go_wp2_with fail
    refine (K.out _ B2.out).mono ?_; rintro e w9 ⟨rfl, b9⟩
    have B9 := Lib.hid (below_next b9 B2.out)
    go_wp2_with fail
    go_ret
    exact ⟨rfl, B9.out⟩
  have e1 : Ea = 0 := Decidable.not_not.1 e1
  have q1 : (Ea != 0) = false := by rw [e1]; rfl
  by_cases e2 : Eb ≠ 0
  · have q : (Eb != 0) = true := by rw [bne_iff_ne]; exact e2
    go_wp2_with fail
    refine (K.out _ B2.out).mono ?_; rintro e w9 ⟨rfl, b9⟩
    have B9 := Lib.hid (below_next b9 B2.out)
    go_wp2_with fail
    go_ret
    exact ⟨rfl, B9.out⟩
  have e2 : Eb = 0 := Decidable.not_not.1 e2
  have q2 : (Eb != 0) = false := by rw [e2]; rfl
  by_cases e3 : 0 < Ma
  · have q : decide ((Ma : Int) > 0) = true := decide_eq_true (by omega)
    have qn : decide (0 < Ma) = true := decide_eq_true e3
    go_wp2_with fail
    refine (K.out _ B2.out).mono ?_; rintro e w9 ⟨rfl, b9⟩
    have B9 := Lib.hid (below_next b9 B2.out)
    go_wp2_with fail
    go_ret
    exact ⟨rfl, B9.out⟩
  have q3 : decide ((Ma : Int) > 0) = false := decide_eq_false (by omega)
  have q3n : decide (0 < Ma) = false := decide_eq_false e3
  by_cases e4 : 0 < Mb
  · have q : decide ((Mb : Int) > 0) = true := decide_eq_true (by omega)
    have qn : decide (0 < Mb) = true := decide_eq_true e4
    go_wp2_with fail
    refine (K.out _ B2.out).mono ?_; rintro e w9 ⟨rfl, b9⟩
    have B9 := Lib.hid (below_next b9 B2.out)
    go_wp2_with fail
    go_ret
    exact ⟨rfl, B9.out⟩
  have q4 : decide ((Mb : Int) > 0) = false := decide_eq_false (by omega)
  have q4n : decide (0 < Mb) = false := decide_eq_false e4
  obtain ⟨f, hf⟩ := ok_of (o := oa) (by rw [← HEa.out]; exact e1) (by rw [← HMa.out]; omega)
  obtain ⟨g, hg⟩ := ok_of (o := ob) (by rw [← HEb.out]; exact e2) (by rw [← HMb.out]; omega)
  have JZ := join_any (a := a) (b := b) (f := f) (g := g) (by rw [← HOA.out]; exact hf) (by rw [← HOB.out]; exact hg)
  have JW := join_any (a := b) (b := a) (f := g) (g := f) (by rw [← HOB.out]; exact hg) (by rw [← HOA.out]; exact hf)
  have sz1 : (a ++ ⟨#[44]⟩ ++ b).size ≤ 4000000000 := by simp [ByteArray.size_append]; have : (⟨#[44]⟩ : ByteArray).size = 1 := rfl; omega
  have sz2 : (b ++ ⟨#[44]⟩ ++ a).size ≤ 4000000000 := by simp [ByteArray.size_append]; have : (⟨#[44]⟩ : ByteArray).size = 1 := rfl; omega
  obtain ⟨Lz, hLz⟩ : ∃ Lz, Lz = listF (fun i => f i || g i) := ⟨_, rfl⟩
  have PZ : Hid (∀ w, Calls Tryd.prog 11 #[.string (a ++ ⟨#[44]⟩ ++ b)] w fun e w' => (∃ a c, e = .returned (.tuple #[.agg #[.slice a Lz.length c, .int .i64 0], .int .i64 0, .int .i64 0]) ∧ NOwn w' w.heap.size (.slice a Lz.length c) (ofN Lz)) ∧ Below w.heap.size w w') := fun w => parse_at _ w sz1 Lz 0 0 0 ⟨by rw [JZ]; rfl, by rw [JZ]; rfl, by rw [JZ]; rfl, by rw [JZ, hLz]; rfl⟩
  have PW : Hid (∀ w, Calls Tryd.prog 11 #[.string (b ++ ⟨#[44]⟩ ++ a)] w fun e w' => (∃ a c, e = .returned (.tuple #[.agg #[.slice a Lz.length c, .int .i64 0], .int .i64 0, .int .i64 0]) ∧ NOwn w' w.heap.size (.slice a Lz.length c) (ofN Lz)) ∧ Below w.heap.size w w') := fun w => parse_at _ w sz2 Lz 0 0 0 ⟨by rw [JW]; rfl, by rw [JW]; rfl, by rw [JW]; rfl, by rw [JW, hLz, ← join_comm f g]; rfl⟩
  have HAS : Hid (∀ j : Nat, j ≤ 1000 → decide ((j : Int) ∈ ofN Lz) = (decide ((j : Int) ∈ ofN La) || decide ((j : Int) ∈ ofN Lb))) := fun j hj => by
    have l1 : La = listF f := by rw [HLA.out, hf]; rfl
    have l2 : Lb = listF g := by rw [HLB.out, hg]; rfl
    rw [hLz, l1, l2, has_listF _ hj, has_listF _ hj, has_listF _ hj]
  have hlz : Lz.length ≤ 1001 := by rw [hLz]; unfold listF; exact Nat.le_trans (List.length_filter_le _ _) (by simp)
  clear JZ JW hf hg HOA HOB HLA HLB HEa HEb HMa HMb hLz sz1 sz2
  go_wp2_with fail
  refine (PZ.out _).mono ?_; rintro e w3 ⟨⟨a3, c3, rfl, o3⟩, b3⟩
  have x3 := (Below.refl w3.heap.size w3).alloc (Nat.le_refl _) (.cells #[.slice a3 Lz.length c3, .int .i64 0] 25)
  have y3 := below_next x3 b3
  have hC := Lib.hid (Blk.new w3 #[.slice a3 Lz.length c3, .int .i64 0] 25)
  have A3 := Lib.hid (A2.out.kept y3)
  have BX3 := Lib.hid (hB.out.kept y3)
  have R13 := Lib.hid (R12.out.kept y3)
  have R23 := Lib.hid (R2.out.kept y3)
  have R3 := Lib.hid ((nrow_of_own o3).kept x3)
  have B3 := Lib.hid (below_next y3 B2.out)
  obtain ⟨g3, hg3⟩ : ∃ g3, g3 = w3.heap.size := ⟨_, rfl⟩
  rw [← hg3] at hC
  clear o3 b3 x3 y3 A2 hB R12 R2 B2 PZ k0 k1 j0 j1 q1 q2 q3 q4 q3n q4n e1 e2 e3 e4
  go_wp2_with fail
  rw [← hg3]
  generalize w3.alloc (.cells #[.slice a3 Lz.length c3, .int .i64 0] 25) = W3 at *
  clear hg3
  refine (PW.out W3).mono ?_; rintro e w4 ⟨⟨a4, c4, rfl, o4⟩, b4⟩
  have x4 := (Below.refl w4.heap.size w4).alloc (Nat.le_refl _) (.cells #[.slice a4 Lz.length c4, .int .i64 0] 25)
  have y4 := below_next x4 b4
  have hD := Lib.hid (Blk.new w4 #[.slice a4 Lz.length c4, .int .i64 0] 25)
  have A4 := Lib.hid (A3.out.kept y4)
  have BX4 := Lib.hid (BX3.out.kept y4)
  have C4 := Lib.hid (hC.out.kept y4)
  have R14 := Lib.hid (R13.out.kept y4)
  have R24 := Lib.hid (R23.out.kept y4)
  have R34 := Lib.hid (R3.out.kept y4)
  have R4 := (nrow_of_own o4).kept x4
  have HSM := Lib.hid (same_any _ _ (ofN Lz) (ofN Lz) 0 0 _ (by rw [ofN_len]; omega) (by rw [ofN_len]; omega) R34.out R4)
  simp only [and_self, decide_true] at HSM
  have B4 := Lib.hid (below_next y4 B3.out)
  obtain ⟨g4, hg4⟩ : ∃ g4, g4 = w4.heap.size := ⟨_, rfl⟩
  rw [← hg4] at hD
  have k0 := C4.out.cell 0
  have k1 := C4.out.cell 1
  have j0 := hD.out.cell 0
  have j1 := hD.out.cell 1
  simp only [List.getElem?_toArray, List.getElem?_cons_zero, List.getElem?_cons_succ] at k0 k1 j0 j1
  clear o4 b4 x4 y4 A3 BX3 hC R13 R23 R3 B3 PW R4
  go_upto_region 9 with fail
  rw [← hg4]
  generalize w4.alloc (.cells #[.slice a4 Lz.length c4, .int .i64 0] 25) = W4 at *
  clear hg4
  go_wp2_with fail
  refine HSM.out.mono ?_; rintro e w5 ⟨rfl, b5⟩
  have A5 := Lib.hid (A4.out.kept b5)
  have BX5 := Lib.hid (BX4.out.kept b5)
  have C5 := Lib.hid (C4.out.kept b5)
  have R15 := Lib.hid (R14.out.kept b5)
  have R25 := Lib.hid (R24.out.kept b5)
  have R35 := Lib.hid (R34.out.kept b5)
  have B5 := Lib.hid (below_next b5 B4.out)
  clear A4 BX4 C4 R14 R24 R34 B4 hD k0 k1 j0 j1 HSM b5
  go_wp2_with fail
  go_loopw [17] (fun i wr => ∃ (k : Nat), k ≤ 1001 ∧ i = .int .i64 k ∧ Hid (Blk wr g1 #[.slice a1 La.length c1, .int .i64 Ma] 25) ∧ Hid (Blk wr g2 #[.slice a2 Lb.length c2, .int .i64 Mb] 25) ∧ Hid (Blk wr g3 #[.slice a3 Lz.length c3, .int .i64 0] 25) ∧ Hid (NRow wr (.slice a1 La.length c1) (ofN La)) ∧ Hid (NRow wr (.slice a2 Lb.length c2) (ofN Lb)) ∧ Hid (NRow wr (.slice a3 Lz.length c3) (ofN Lz)) ∧ Below w.heap.size w wr) (fun i _ => 1001 - (RowKit.intOf i).toNat)
  case atStart => exact ⟨0, by omega, rfl, A5, BX5, C5, R15, R25, R35, B5.out⟩
  case round =>
    obtain ⟨k, hk, rfl, hA, hB, hC, r1, r2, r3, hBW⟩ := hrel
    have BW := Lib.hid hBW
    by_cases hlt : k < 1001
    · have hlt' : decide ((k : Int) ≤ 1000) = true := decide_eq_true (by omega)
      have hk0 := HAS.out k (by omega)
      have HX : Hid (∀ w1, Below wr.heap.size wr w1 → Calls Tryd.prog 18 #[.agg #[.slice a1 La.length c1, .int .i64 Ma], .int .i64 k] w1 fun e w' => e = .returned (.bool (decide ((k : Int) ∈ ofN La))) ∧ Below w1.heap.size w1 w') := fun w1 hb => has_any _ _ _ _ w1 (by rw [ofN_len]; omega) (r1.out.kept hb)
      have HY : Hid (∀ w1, Below wr.heap.size wr w1 → Calls Tryd.prog 18 #[.agg #[.slice a2 Lb.length c2, .int .i64 Mb], .int .i64 k] w1 fun e w' => e = .returned (.bool (decide ((k : Int) ∈ ofN Lb))) ∧ Below w1.heap.size w1 w') := fun w1 hb => has_any _ _ _ _ w1 (by rw [ofN_len]; omega) (r2.out.kept hb)
      have HZ : Hid (∀ w1, Below wr.heap.size wr w1 → Calls Tryd.prog 18 #[.agg #[.slice a3 Lz.length c3, .int .i64 0], .int .i64 k] w1 fun e w' => e = .returned (.bool (decide ((k : Int) ∈ ofN Lz))) ∧ Below w1.heap.size w1 w') := fun w1 hb => has_any _ _ _ _ w1 (by rw [ofN_len]; omega) (r3.out.kept hb)
      rw [hk0] at HZ
      clear hk0
      generalize decide ((k : Int) ∈ ofN La) = bx at *
      generalize decide ((k : Int) ∈ ofN Lb) = by' at *
      have p0 := hA.out.cell 0
      have p1 := hA.out.cell 1
      have p2 := hB.out.cell 0
      have p3 := hB.out.cell 1
      have p4 := hC.out.cell 0
      have p5 := hC.out.cell 1
      simp only [List.getElem?_toArray, List.getElem?_cons_zero, List.getElem?_cons_succ] at p0 p1 p2 p3 p4 p5
      have hA' : Hid (∀ w1, Below wr.heap.size wr w1 → Blk w1 g1 #[.slice a1 La.length c1, .int .i64 Ma] 25 ∧ Blk w1 g2 #[.slice a2 Lb.length c2, .int .i64 Mb] 25 ∧ Blk w1 g3 #[.slice a3 Lz.length c3, .int .i64 0] 25 ∧ NRow w1 (.slice a1 La.length c1) (ofN La) ∧ NRow w1 (.slice a2 Lb.length c2) (ofN Lb) ∧ NRow w1 (.slice a3 Lz.length c3) (ofN Lz) ∧ Below w.heap.size w w1) := fun w1 hb => ⟨hA.out.kept hb, hB.out.kept hb, hC.out.kept hb, r1.out.kept hb, r2.out.kept hb, r3.out.kept hb, below_next hb BW.out⟩
      clear hA hB hC r1 r2 r3 hBW BW HAS
      go_wp2_with fail
      have HBd : Below wr.heap.size wr wr.drew := (Below.refl _ _).drew
      have HC' : Hid (∀ w1, Below wr.heap.size wr w1 → w1.cell? ⟨g1, 0, none⟩ = some (.slice a1 La.length c1) ∧ w1.cell? ⟨g1, 1, none⟩ = some (.int .i64 Ma) ∧ w1.cell? ⟨g2, 0, none⟩ = some (.slice a2 Lb.length c2) ∧ w1.cell? ⟨g2, 1, none⟩ = some (.int .i64 Mb) ∧ w1.cell? ⟨g3, 0, none⟩ = some (.slice a3 Lz.length c3) ∧ w1.cell? ⟨g3, 1, none⟩ = some (.int .i64 0)) := by
        have P0 := Lib.hid p0
        have P1 := Lib.hid p1
        have P2 := Lib.hid p2
        have P3 := Lib.hid p3
        have P4 := Lib.hid p4
        have P5 := Lib.hid p5
        exact fun w1 hb => ⟨cell_next hb P0.out, cell_next hb P1.out, cell_next hb P2.out, cell_next hb P3.out, cell_next hb P4.out, cell_next hb P5.out⟩
      have HLT := Lib.hid hlt
      clear K h3 t t2 h4 t3 t4 hsa hsb z1 hla hlb hlz hk hlt hlt'
      cases bx
      · simp only [Bool.false_or] at HZ
        first
          | (go_region_held3 (fun w' => w'.cell? ⟨g1, 0, none⟩ = some (.slice a1 La.length c1) ∧ w'.cell? ⟨g1, 1, none⟩ = some (.int .i64 Ma) ∧ w'.cell? ⟨g2, 0, none⟩ = some (.slice a2 Lb.length c2) ∧ w'.cell? ⟨g2, 1, none⟩ = some (.int .i64 Mb) ∧ w'.cell? ⟨g3, 0, none⟩ = some (.slice a3 Lz.length c3) ∧ w'.cell? ⟨g3, 1, none⟩ = some (.int .i64 0) ∧ Below wr.heap.size wr w')
            (first
              | exact ⟨p0, p1, p2, p3, p4, p5, HBd⟩
              | (rcases ‹_ ∧ _ ∧ _ ∧ _ ∧ _ ∧ _ ∧ Below _ _ _› with ⟨s0, s1, s2, s3, s4, s5, s6⟩; exact ⟨cell_next (by assumption) s0, cell_next (by assumption) s1, cell_next (by assumption) s2, cell_next (by assumption) s3, cell_next (by assumption) s4, cell_next (by assumption) s5, below_next (by assumption) s6⟩))
            (first
              | (go_at_call 18; first
                  | ((with_reducible refine (HX.out _ (by first | exact HBd | (rcases ‹_ ∧ _ ∧ _ ∧ _ ∧ _ ∧ _ ∧ Below _ _ _› with ⟨_, _, _, _, _, _, s6⟩; exact s6))).mono ?_); rintro e w4 ⟨rfl, b4⟩)
                  | ((with_reducible refine (HY.out _ (by first | exact HBd | (rcases ‹_ ∧ _ ∧ _ ∧ _ ∧ _ ∧ _ ∧ Below _ _ _› with ⟨_, _, _, _, _, _, s6⟩; exact s6))).mono ?_); rintro e w4 ⟨rfl, b4⟩)
                  | ((with_reducible refine (HZ.out _ (by first | exact HBd | (rcases ‹_ ∧ _ ∧ _ ∧ _ ∧ _ ∧ _ ∧ Below _ _ _› with ⟨_, _, _, _, _, _, s6⟩; exact s6))).mono ?_); rintro e w4 ⟨rfl, b4⟩))))
          | fail "held"
        all_goals
          rcases ‹_ ∧ _ ∧ _ ∧ _ ∧ _ ∧ _ ∧ Below _ _ _› with ⟨_, _, _, _, _, _, s6⟩
          have hlt := HLT.out
          go_wp2_with fail
          go_roundw
          case rel =>
            obtain ⟨v1, v2, v3, v4, v5, v6, v7⟩ := hA'.out _ s6
            exact ⟨k + 1, by omega, by go_num, v1, v2, v3, v4, v5, v6, v7⟩
          case measure => simp [RowKit.intOf]; omega
      · simp only [Bool.true_or] at HZ
        first
          | (go_region_with (first
            | (go_at_call 18; first
                | ((with_reducible refine (HX.out _ (by assumption)).mono ?_); rintro e w4 ⟨rfl, b4⟩; have hb4 := below_next b4 (by assumption); clear b4; obtain ⟨p0, p1, p2, p3, p4, p5⟩ := HC'.out _ hb4)
                | ((with_reducible refine (HZ.out _ (by assumption)).mono ?_); rintro e w4 ⟨rfl, b4⟩; have hb4 := below_next b4 (by assumption); clear b4; obtain ⟨p0, p1, p2, p3, p4, p5⟩ := HC'.out _ hb4))))
          | fail "with"
        all_goals
          have s6 := (by assumption : Below wr.heap.size wr _)
          clear p0 p1 p2 p3 p4 p5
          have hlt := HLT.out
          go_wp2_with fail
          go_roundw
          case rel =>
            obtain ⟨v1, v2, v3, v4, v5, v6, v7⟩ := hA'.out _ s6
            exact ⟨k + 1, by omega, by go_num, v1, v2, v3, v4, v5, v6, v7⟩
          case measure => simp [RowKit.intOf]; omega
    · have hlt' : decide ((k : Int) ≤ 1000) = false := decide_eq_false (by omega)
      clear hA hB hC r1 r2 r3 hBW HAS
      go_wp2_with fail
      refine (K.out _ BW.out).mono ?_; rintro e w9 ⟨rfl, b9⟩
      have B9 := Lib.hid (below_next b9 BW.out)
      go_wp2_with fail
      go_ret
      exact ⟨rfl, B9.out⟩


set_option maxRecDepth 100000 in
theorem lifted (os : Os) (started : os.Started) (H : Type) (enc : TypeId × Value → H) :
    ReturnsInHanded {} Tryd.checked os 6 .any (fun w args => (Rows.indexesJoinsSpec.pre enc Tryd.prog Tryd.f6 Rows.indexesJoinsRow.domain false w args ∧ laidMetH Tryd.prog laid6 w) ∧ sizedMet enc Tryd.prog Tryd.f6 (OpenSpec.ofChange Rows.indexesJoinsSpec) false w args) (Rows.indexesJoinsSpec.post enc Tryd.prog Tryd.f6 false true false false) := by
  refine laid_lift (C := Tryd.checked) (X := fun w _ => laidMetH Tryd.prog laid6 w) (fun _ _ _ hh h => h.of_heap hh) own started (by kernel_rfl) Tryd.func6
    (ChangeSpec.witness_shaped (enc := enc) (C := Tryd.checked) (os := os) (X := fun w _ => laidMetH Tryd.prog laid6 w) false (World.laidAll Tryd.prog os laid6) #[.string ByteArray.empty, .string ByteArray.empty] 8 (World.laidAll_os _ _ _)
      (World.shaped_of_ZipB (by kernel_rfl) (by kernel_rfl)) (by kernel_rfl) (by kernel_rfl) (by kernel_rfl)
      (by rw [MakeChecks.laidMetH_plain _ _ _ (by kernel_rfl)]; exact laidMet_laidAll _ (by kernel_rfl) (by kernel_rfl))) ?_
  intro W base args ds gs before hval0 hW hsz0 hL hS
  have hE := env6_of hL hS
  have hval : ∀ (j : Nat) t v, Tryd.f6.params[j]? = some t → args[j]? = some v → Value.okWide Tryd.prog W .any base t v := hval0
  have hW' := hW
  obtain ⟨p, q, hA0, hV, rfl, hfz, hnd⟩ := hW
  have hA : DataW.TrodAll enc Tryd.prog W 0 (fun _ => true) true Tryd.f6.params.toList args.toList ds p := hA0
  rw [Tryd.params6] at hA hval
  obtain ⟨v0, vs0, d0, ds0, p0, q0, hargs, rfl, rfl, h0, r0⟩ := trodAll_cons hA
  obtain ⟨v1, vs1, d1, ds1, p1, q1, rfl, rfl, rfl, h1, r1⟩ := trodAll_cons r0
  obtain ⟨rfl, rfl, rfl⟩ := trodAll_nil r1
  obtain rfl : args = #[v0, v1] := by cases args; simp_all
  obtain ⟨a, rfl, w0⟩ := open_string_arg Tryd.underlying9 (hval 0 9 v0 rfl rfl) h0
  obtain ⟨b, rfl, w1⟩ := open_string_arg Tryd.underlying9 (hval 1 9 v1 rfl rfl) h1
  clear hA0 hval0
  refine (walk a b W hE w0 w1).mono fun e W' ⟨he, hb⟩ => ?_
  subst he
  exact ⟨_, rfl, law_post (by kernel_rfl) (by kernel_rfl) rfl Tryd.underlying4 rfl hW' rfl hb⟩

theorem over : Rows.indexesJoinsRow.holds Tryd.pinned (OpenSpec.ofChange Rows.indexesJoinsSpec) :=
  OpenClaim.holds_of_wide 6 Tryd.f6 rfl rfl rfl rfl rfl rfl rfl ⟨rfl, rfl, rfl, rfl, rfl⟩ rfl rfl rfl rfl rfl (by kernel_rfl) Tryd.func6 (by kernel_rfl)
    (of_decide_eq_true (by kernel_rfl)) (by unfold Func.isWrapper; first | (rw [if_pos (by decide +kernel)]; kernel_rfl) | (rw [if_neg (by decide +kernel)]; exact ⟨rfl, rfl⟩))
    (fun os started H enc _ => lifted os started H enc)

theorem proved : Rows.IndexesJoinsCardSaid :=
  Claim7.holds_tied_plain_at .later [] _ true _ false over (fun _ h => by cases h) (by kernel_rfl) (fun _ h => by cases h) indexesJoins_row_tie rfl ⟨rfl, rfl⟩ (by kernel_rfl) rfl
    (fun f fn hf hfn => by
      obtain rfl : f = 6 := Option.some.inj ((show Tryd.prog.funcNamed "ganger/gangerlaw06.IndexesJoins" = some 6 by kernel_rfl).symm.trans hf) |>.symm
      obtain rfl : fn = Tryd.f6 := (Option.some.inj (Tryd.func6.symm.trans hfn)).symm
      exact ⟨by kernel_rfl, fun j t ht => by
        rw [Tryd.params6] at ht
        have hm : t ∈ [9, 9] := by simpa using Array.mem_of_getElem? ht
        have hall : ([9, 9].all fun u => !Tryd.prog.wantsStandIn u) = true := by kernel_rfl
        exact (show Tryd.prog.wantsStandIn t = false by simpa using List.all_eq_true.1 hall t hm)⟩)
    (by kernel_rfl)
#print axioms proved
end Go.Proofs.YtdhkinknhjpjmaaDoor.indexesJoins
