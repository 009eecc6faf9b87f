/-
  IndexesRuns: a run with a step says each number that it reaches; one that may not be is refused at its begin: so the law returns true for every input, the listed tables of Go's library reading as the program's text lays them.
-/
import Derived.Test.YtdhkinknhjpjmaaDoorIxRun
import Derived.Test.YtdhkinknhjpjmaaDoorRows
import Derived.Test.YtdhkinknhjpjmaaDoorArgs2
import Derived.Test.YtdhkinknhjpjmaaDoorLaid
import Derived.Test.YtdhkinknhjpjmaaDoorCards
import Derived.Test.YtdhkinknhjpjmaaDoorTie
import Derived.MakeChecks
import Derived.SevenTiedAt
namespace Go.Proofs.YtdhkinknhjpjmaaDoor.indexesRuns
open Go.ChangeShapes Go.WideShapes Go.ChangeAt Go.RowKit
set_option linter.unusedVariables false

theorem own : ownKnob Tryd.prog.godebug = none := by kernel_rfl

open Go Go.RowKit Go.Lib in
set_option maxRecDepth 100000 in
set_option maxHeartbeats 8000000 in
theorem runs_bad (xa xb xs a b s : Nat) (w : World) (K : Hid (∀ w1, Below w.heap.size w w1 → Calls Tryd.prog 10 #[] w1 fun e w' => e = .returned (.bool true) ∧ Below w1.heap.size w1 w'))
    (h1 : Hid ((xa : Int) % 1200 = a)) (h2 : Hid ((xb : Int) % 1200 = b)) (h3 : Hid ((xs : Int) % 1200 = s)) (ha : a < 1200) (hb : b < 1200) (hs : s < 1200) (q1 q2 q3 q4 : Bool)
    (u1 : Hid (decide ((a : Int) > b) = q1)) (u2 : Hid (((s : Int) == 0) = q2)) (u3 : Hid (decide ((b : Int) > 1000) = q3)) (u4 : Hid (decide ((s : Int) > 1000) = q4)) (v1 : Hid (decide (b < a) = q1))
    (hq : q1 = true ∨ (q1 = false ∧ q2 = true) ∨ (q1 = false ∧ q2 = false ∧ q3 = true) ∨ (q1 = false ∧ q2 = false ∧ q3 = false ∧ q4 = true)) :
    Calls Tryd.prog 7 #[.int .u16 xa, .int .u16 xb, .int .u16 xs] w fun e w' => e = .returned (.bool true) ∧ Below w.heap.size w w' := by
  have hbad : Hid (b < a ∨ s = 0 ∨ 1000 < b ∨ 1000 < s) := by
    have u1 := u1.out; have u2 := u2.out; have u3 := u3.out; have u4 := u4.out
    rcases hq with rfl | ⟨_, rfl⟩ | ⟨_, _, rfl⟩ | ⟨_, _, _, rfl⟩
    · exact .inl (by have := of_decide_eq_true u1; omega)
    · exact .inr (.inl (by have := eq_of_beq u2; omega))
    · exact .inr (.inr (.inl (by have := of_decide_eq_true u3; omega)))
    · exact .inr (.inr (.inr (by have := of_decide_eq_true u4; omega)))
  have PB : Hid (∀ w, Calls Tryd.prog 11 #[.string (⟨#[55, 44]⟩ ++ runB a b s)] w fun e w' => (∃ a c, e = .returned (.tuple #[.agg #[.slice a 0 c, .int .i64 0], .int .i64 2, .int .i64 2]) ∧ NOwn w' w.heap.size (.slice a 0 c) (ofN [])) ∧ Below w.heap.size w w') := fun w => parse_at _ w (by have := runB_size (a := a) (b := b) (c := s) (by omega) (by omega) (by omega); rw [ByteArray.size_append]; have e : (⟨#[55, 44]⟩ : ByteArray).size = 2 := rfl; omega) [] 0 2 2 (by rw [seven_bad ha hb hs hbad.out]; exact ⟨rfl, rfl, rfl, rfl⟩)
  have D1 : Hid (∀ w, Calls Tryd.prog 19 #[.int .i64 a] w fun e w' => e = .returned (.string (digS a)) ∧ Below w.heap.size w w') := fun w => digits_any a w (by omega)
  have D2 : Hid (∀ w, Calls Tryd.prog 19 #[.int .i64 b] w fun e w' => e = .returned (.string (digS b)) ∧ Below w.heap.size w w') := fun w => digits_any b w (by omega)
  have D3 : Hid (∀ w, Calls Tryd.prog 19 #[.int .i64 s] w fun e w' => e = .returned (.string (digS s)) ∧ Below w.heap.size w w') := fun w => digits_any s w (by omega)
  have z1 := dig4 (n := a) (by omega)
  have z2 := dig4 (n := b) (by omega)
  have z3 := dig4 (n := s) (by omega)
  have z4 : (⟨#[45]⟩ : ByteArray).size = 1 := rfl
  have z5 : (⟨#[58]⟩ : ByteArray).size = 1 := rfl
  have z6 : (⟨#[55, 44]⟩ : ByteArray).size = 2 := rfl
  have HR : Hid (digS a ++ ⟨#[45]⟩ ++ digS b ++ ⟨#[58]⟩ ++ digS s = runB a b s) := rfl
  have h1 := h1.out
  have h2 := h2.out
  have h3 := h3.out
  have ha' : (a : Int) < 1200 := by omega
  have hb' : (b : Int) < 1200 := by omega
  have hs' : (s : Int) < 1200 := by omega
  clear hbad ha hb hs
  go_enter Tryd.func7, Tryd.ntmps7
  go_wp2_with fail
  refine (D1.out _).mono ?_; rintro e w1 ⟨rfl, b1⟩
  go_wp2_with fail
  refine (D2.out _).mono ?_; rintro e w2 ⟨rfl, b2⟩
  go_wp2_with fail
  refine (D3.out _).mono ?_; rintro e w3 ⟨rfl, b3⟩
  have B3 := Lib.hid (below_next b3 (below_next b2 b1))
  clear b1 b2 b3
  go_upto_region 5 with fail
  rw [HR.out]
  have z7 : (runB a b s).size ≤ 14 := runB_size (by omega) (by omega) (by omega)
  go_wp2_with fail
  refine (PB.out w3).mono ?_; rintro e w4 ⟨⟨a1, c1, rfl, o1⟩, b4⟩
  have B4 := Lib.hid (below_next b4 B3.out)
  have x1 := (Below.refl w4.heap.size w4).alloc (Nat.le_refl _) (.cells #[.slice a1 0 c1, .int .i64 0] 25)
  have B5 := Lib.hid (below_next x1 B4.out)
  have k0 := (Blk.new w4 #[.slice a1 0 c1, .int .i64 0] 25).cell 0
  simp only [List.getElem?_toArray, List.getElem?_cons_zero] at k0
  have u1 := u1.out
  have u2 := u2.out
  have u3 := u3.out
  have u4 := u4.out
  have v1 := v1.out
  clear b4 B3 B4 x1 o1 PB D1 D2 D3
  rcases hq with rfl | ⟨rfl, rfl⟩ | ⟨rfl, rfl, rfl⟩ | ⟨rfl, rfl, rfl, rfl⟩
  all_goals
    go_wp2_with fail
    refine (K.out _ B5.out).mono ?_; rintro e w9 ⟨rfl, b9⟩
    have B9 := Lib.hid (below_next b9 B5.out)
    go_wp2_with fail
    go_ret
    exact ⟨rfl, B9.out⟩
theorem in_run {a b s k : Nat} : (decide (k = 7) || inRun a b s k) = decide (k = 7 ∨ (a ≤ k ∧ k ≤ b ∧ (k - a) % s = 0)) := by
  rw [Bool.eq_iff_iff, decide_eq_true_eq, Bool.or_eq_true, decide_eq_true_eq, inRun, decide_eq_true_eq]
open Go Go.RowKit Go.Lib in
set_option maxRecDepth 100000 in
set_option maxHeartbeats 8000000 in
theorem runs_ok (xa xb xs a b s : Nat) (w : World) (K : Hid (∀ w1, Below w.heap.size w w1 → Calls Tryd.prog 10 #[] w1 fun e w' => e = .returned (.bool true) ∧ Below w1.heap.size w1 w'))
    (h1 : Hid ((xa : Int) % 1200 = a)) (h2 : Hid ((xb : Int) % 1200 = b)) (h3 : Hid ((xs : Int) % 1200 = s)) (hab : a ≤ b) (hs0 : 0 < s) (hb : b ≤ 1000) (hs : s ≤ 1000) :
    Calls Tryd.prog 7 #[.int .u16 xa, .int .u16 xb, .int .u16 xs] w fun e w' => e = .returned (.bool true) ∧ Below w.heap.size w w' := by
  obtain ⟨L, hL⟩ : ∃ L, L = listF (fun i => decide (i = 7) || inRun a b s i) := ⟨_, rfl⟩
  have hne : 0 < L.length := by rw [hL]; exact List.length_pos_iff.2 (seven_some a b s)
  have hlen : L.length ≤ 1001 := by rw [hL]; unfold listF; exact Nat.le_trans (List.length_filter_le _ _) (by simp)
  have HF : Hid (∀ k : Nat, k ≤ 1000 → decide ((k : Int) ∈ ofN L) = decide (k = 7 ∨ (a ≤ k ∧ k ≤ b ∧ (k - a) % s = 0))) := fun k hk => by rw [hL, has_listF _ hk, in_run]
  have hsize := runB_size (a := a) (b := b) (c := s) (by omega) (by omega) (by omega)
  have PB : Hid (∀ w, Calls Tryd.prog 11 #[.string (⟨#[55, 44]⟩ ++ runB a b s)] w fun e w' => (∃ a c, e = .returned (.tuple #[.agg #[.slice a L.length c, .int .i64 0], .int .i64 0, .int .i64 0]) ∧ NOwn w' w.heap.size (.slice a L.length c) (ofN L)) ∧ Below w.heap.size w w') := fun w => parse_at _ w (by rw [ByteArray.size_append]; have e : (⟨#[55, 44]⟩ : ByteArray).size = 2 := rfl; omega) L 0 0 0 (by rw [seven_ok (by omega), hL]; exact ⟨rfl, rfl, rfl, rfl⟩)
  have D1 : Hid (∀ w, Calls Tryd.prog 19 #[.int .i64 a] w fun e w' => e = .returned (.string (digS a)) ∧ Below w.heap.size w w') := fun w => digits_any a w (by omega)
  have D2 : Hid (∀ w, Calls Tryd.prog 19 #[.int .i64 b] w fun e w' => e = .returned (.string (digS b)) ∧ Below w.heap.size w w') := fun w => digits_any b w (by omega)
  have D3 : Hid (∀ w, Calls Tryd.prog 19 #[.int .i64 s] w fun e w' => e = .returned (.string (digS s)) ∧ Below w.heap.size w w') := fun w => digits_any s w (by omega)
  have z1 := dig4 (n := a) (by omega)
  have z2 := dig4 (n := b) (by omega)
  have z3 := dig4 (n := s) (by omega)
  have z4 : (⟨#[45]⟩ : ByteArray).size = 1 := rfl
  have z5 : (⟨#[58]⟩ : ByteArray).size = 1 := rfl
  have z6 : (⟨#[55, 44]⟩ : ByteArray).size = 2 := rfl
  have HR : Hid (digS a ++ ⟨#[45]⟩ ++ digS b ++ ⟨#[58]⟩ ++ digS s = runB a b s) := rfl
  have h1 := h1.out
  have h2 := h2.out
  have h3 := h3.out
  have ha' : (a : Int) ≤ 1000 := by omega
  have hb' : (b : Int) ≤ 1000 := by omega
  have hs' : (s : Int) ≤ 1000 := by omega
  have hs0' : (0 : Int) < s := by omega
  have t1 : decide ((a : Int) > b) = false := decide_eq_false (by omega)
  have t1n : decide (b < a) = false := decide_eq_false (by omega)
  have t2 : ((s : Int) == 0) = false := by rw [beq_eq_false_iff_ne]; omega
  have t3 : decide ((b : Int) > 1000) = false := decide_eq_false (by omega)
  have t4 : decide ((s : Int) > 1000) = false := decide_eq_false (by omega)
  have t5 : ((L.length : Int) == 0) = false := by rw [beq_eq_false_iff_ne]; omega
  clear hL
  go_enter Tryd.func7, Tryd.ntmps7
  go_wp2_with fail
  refine (D1.out _).mono ?_; rintro e w1 ⟨rfl, b1⟩
  go_wp2_with fail
  refine (D2.out _).mono ?_; rintro e w2 ⟨rfl, b2⟩
  go_wp2_with fail
  refine (D3.out _).mono ?_; rintro e w3 ⟨rfl, b3⟩
  have B3 := Lib.hid (below_next b3 (below_next b2 b1))
  clear b1 b2 b3 h1 h2 h3 D1 D2 D3
  go_upto_region 5 with fail
  rw [HR.out]
  generalize runB a b s = T at *
  clear HR z1 z2 z3 z4 z5
  go_wp2_with fail
  refine (PB.out w3).mono ?_; rintro e w4 ⟨⟨a1, c1, rfl, o1⟩, b4⟩
  have B4 := Lib.hid (below_next b4 B3.out)
  have x1 := (Below.refl w4.heap.size w4).alloc (Nat.le_refl _) (.cells #[.slice a1 L.length c1, .int .i64 0] 25)
  have B5 := Lib.hid (below_next x1 B4.out)
  have R5 := Lib.hid ((nrow_of_own o1).kept x1)
  have hA := Lib.hid (Blk.new w4 #[.slice a1 L.length c1, .int .i64 0] 25)
  obtain ⟨g4, hg4⟩ : ∃ g4, g4 = w4.heap.size := ⟨_, rfl⟩
  rw [← hg4] at hA
  have k0 := hA.out.cell 0
  simp only [List.getElem?_toArray, List.getElem?_cons_zero] at k0
  clear b4 B3 B4 x1 o1 PB
  go_upto_region 6 with fail
  rw [← hg4]
  generalize w4.alloc (.cells #[.slice a1 L.length c1, .int .i64 0] 25) = W4 at *
  clear hg4
  go_wp2_with fail
  clear t1 t1n t2 t3 t4 t5 k0 z6
  go_loopw [14] (fun i wr => ∃ (k : Nat), k ≤ 1001 ∧ i = .int .i64 k ∧ Hid (Blk wr g4 #[.slice a1 L.length c1, .int .i64 0] 25) ∧ Hid (NRow wr (.slice a1 L.length c1) (ofN L)) ∧ Below w.heap.size w wr) (fun i _ => 1001 - (RowKit.intOf i).toNat)
  case atStart => exact ⟨0, by omega, rfl, hA, R5, B5.out⟩
  case round =>
    obtain ⟨k, hk, rfl, hB, r1, hBW⟩ := hrel
    have BW := Lib.hid hBW
    by_cases hlt : k < 1001
    · have hlt' : decide ((k : Int) ≤ 1000) = true := decide_eq_true (by omega)
      have hk0 := HF.out k (by omega)
      have HX := Lib.hid (has_any (.slice a1 L.length c1) (ofN L) 0 k wr (by rw [ofN_len]; omega) r1.out)
      rw [hk0] at HX
      have hN : Hid (∀ w1, Below wr.heap.size wr w1 → Blk w1 g4 #[.slice a1 L.length c1, .int .i64 0] 25 ∧ NRow w1 (.slice a1 L.length c1) (ofN L) ∧ Below w.heap.size w w1) := fun w1 hb => ⟨hB.out.kept hb, r1.out.kept hb, below_next hb BW.out⟩
      have p0 := hB.out.cell 0
      have p1 := hB.out.cell 1
      simp only [List.getElem?_toArray, List.getElem?_cons_zero, List.getElem?_cons_succ] at p0 p1
      have HLT := Lib.hid hlt
      clear hk0 hB r1 hBW BW HF K hA R5 B5 hne
      by_cases c7 : k = 7
      · have q : ((k : Int) == 7) = true := by rw [beq_iff_eq]; omega
        rw [decide_eq_true (.inl c7)] at HX
        clear c7 hlt
        go_wp2_with fail
        refine HX.out.mono ?_; rintro e w9 ⟨rfl, b9⟩
        clear HX
        go_wp2_with fail
        go_roundw
        case rel =>
          obtain ⟨v1, v2, v3⟩ := hN.out _ b9
          have hlt := HLT.out
          exact ⟨k + 1, by omega, by go_num, v1, v2, v3⟩
        case measure => have hlt := HLT.out; simp [RowKit.intOf]; omega
      have q : ((k : Int) == 7) = false := by rw [beq_eq_false_iff_ne]; omega
      by_cases cA : a ≤ k
      · have qa : decide ((k : Int) ≥ a) = true := decide_eq_true (by omega)
        have qan : decide (a ≤ k) = true := decide_eq_true cA
        by_cases cB : k ≤ b
        · have qb : decide ((k : Int) ≤ b) = true := decide_eq_true (by omega)
          have qbn : decide (k ≤ b) = true := decide_eq_true cB
          obtain ⟨r, hr⟩ : ∃ r, r = (k - a) % s := ⟨_, rfl⟩
          have hr1 : ((k : Int) - a) % s = (r : Int) := by rw [hr]; rw [Int.natCast_emod, Int.natCast_sub cA]
          have hr2 : ((k : Int) - a).tmod s = (r : Int) := by rw [Int.tmod_eq_emod_of_nonneg (by omega), hr1]
          rw [show decide (k = 7 ∨ (a ≤ k ∧ k ≤ b ∧ (k - a) % s = 0)) = ((r : Int) == 0) from by
            rw [Bool.eq_iff_iff, decide_eq_true_eq, beq_iff_eq, ← hr]
            exact ⟨fun h => by rcases h with h | h <;> omega, fun h => .inr ⟨cA, cB, by omega⟩⟩] at HX
          clear hr
          obtain ⟨R, hR⟩ : ∃ R, R = ((r : Int) == 0) := ⟨_, rfl⟩
          rw [← hR] at HX
          have hR' := hR.symm
          clear hR c7 hlt
          cases R
          all_goals
            go_wp2_with fail
            refine HX.out.mono ?_; rintro e w9 ⟨rfl, b9⟩
            clear HX
            go_wp2_with fail
            go_roundw
            case rel =>
              obtain ⟨v1, v2, v3⟩ := hN.out _ b9
              have hlt := HLT.out
              exact ⟨k + 1, by omega, by go_num, v1, v2, v3⟩
            case measure => have hlt := HLT.out; simp [RowKit.intOf]; omega
        · have qb : decide ((k : Int) ≤ b) = false := decide_eq_false (by omega)
          have qbn : decide (k ≤ b) = false := decide_eq_false cB
          rw [decide_eq_false (show ¬ (k = 7 ∨ (a ≤ k ∧ k ≤ b ∧ (k - a) % s = 0)) from fun h => by rcases h with h | h <;> omega)] at HX
          clear c7 hlt
          go_wp2_with fail
          refine HX.out.mono ?_; rintro e w9 ⟨rfl, b9⟩
          clear HX
          go_wp2_with fail
          go_roundw
          case rel =>
            obtain ⟨v1, v2, v3⟩ := hN.out _ b9
            have hlt := HLT.out
            exact ⟨k + 1, by omega, by go_num, v1, v2, v3⟩
          case measure => have hlt := HLT.out; simp [RowKit.intOf]; omega
      · have qa : decide ((k : Int) ≥ a) = false := decide_eq_false (by omega)
        have qan : decide (a ≤ k) = false := decide_eq_false cA
        rw [decide_eq_false (show ¬ (k = 7 ∨ (a ≤ k ∧ k ≤ b ∧ (k - a) % s = 0)) from fun h => by rcases h with h | h <;> omega)] at HX
        clear c7 hlt
        go_wp2_with fail
        refine HX.out.mono ?_; rintro e w9 ⟨rfl, b9⟩
        clear HX
        go_wp2_with fail
        go_roundw
        case rel =>
          obtain ⟨v1, v2, v3⟩ := hN.out _ b9
          have hlt := HLT.out
          exact ⟨k + 1, by omega, by go_num, v1, v2, v3⟩
        case measure => have hlt := HLT.out; simp [RowKit.intOf]; omega
    · have hlt' : decide ((k : Int) ≤ 1000) = false := decide_eq_false (by omega)
      clear hB r1 hBW HF
      go_wp2_with fail
      refine (K.out _ BW.out).mono ?_; rintro e w9 ⟨rfl, b9⟩
      have B9 := Lib.hid (below_next b9 BW.out)
      go_wp2_with fail
      go_ret
      exact ⟨rfl, B9.out⟩
open Go Go.RowKit Go.Lib in
theorem walk (xa xb xs : Int) (w : World) (hE : TabW w) (ha : (Lit.int .u16 xa).wf = true) (hb : (Lit.int .u16 xb).wf = true) (hs : (Lit.int .u16 xs).wf = true) :
    Calls Tryd.prog 7 #[.int .u16 xa, .int .u16 xb, .int .u16 xs] w fun e w' => e = .returned (.bool true) ∧ Below w.heap.size w w' := by
  have K : Hid (∀ w1, Below w.heap.size w w1 → Calls Tryd.prog 10 #[] w1 fun e w' => e = .returned (.bool true) ∧ Below w1.heap.size w1 w') := fun w1 hb => known_any w1 (hE.next hb)
  have ra := wf_u16 ha
  have rb := wf_u16 hb
  have rs := wf_u16 hs
  obtain ⟨na, rfl⟩ := Int.eq_ofNat_of_zero_le ra.1
  obtain ⟨nb, rfl⟩ := Int.eq_ofNat_of_zero_le rb.1
  obtain ⟨ns, rfl⟩ := Int.eq_ofNat_of_zero_le rs.1
  have e1 : ((na : Nat) : Int) % 1200 = ((na % 1200 : Nat) : Int) := by omega
  have e2 : ((nb : Nat) : Int) % 1200 = ((nb % 1200 : Nat) : Int) := by omega
  have e3 : ((ns : Nat) : Int) % 1200 = ((ns % 1200 : Nat) : Int) := by omega
  have l1 : na % 1200 < 1200 := Nat.mod_lt _ (by omega)
  have l2 : nb % 1200 < 1200 := Nat.mod_lt _ (by omega)
  have l3 : ns % 1200 < 1200 := Nat.mod_lt _ (by omega)
  generalize na % 1200 = a at *
  generalize nb % 1200 = b at *
  generalize ns % 1200 = s at *
  by_cases hbad : b < a ∨ s = 0 ∨ 1000 < b ∨ 1000 < s
  · refine runs_bad na nb ns a b s w K e1 e2 e3 l1 l2 l3 (decide ((a : Int) > b)) ((s : Int) == 0) (decide ((b : Int) > 1000)) (decide ((s : Int) > 1000)) rfl rfl rfl rfl ?_ ?_
    · show decide (b < a) = decide ((a : Int) > b)
      rw [Bool.eq_iff_iff, decide_eq_true_eq, decide_eq_true_eq]; omega
    · rw [Bool.eq_false_iff, Bool.eq_false_iff, Bool.eq_false_iff, Ne, Ne, Ne, decide_eq_true_eq, decide_eq_true_eq, decide_eq_true_eq, beq_iff_eq]
      omega
  · exact runs_ok na nb ns a b s w K e1 e2 e3 (by omega) (by omega) (by omega) (by omega)


set_option maxRecDepth 100000 in
theorem lifted (os : Os) (started : os.Started) (H : Type) (enc : TypeId × Value → H) :
    ReturnsInHanded {} Tryd.checked os 7 .any (fun w args => (Rows.indexesRunsSpec.pre enc Tryd.prog Tryd.f7 Rows.indexesRunsRow.domain false w args ∧ laidMetH Tryd.prog laid6 w) ∧ sizedMet enc Tryd.prog Tryd.f7 (OpenSpec.ofChange Rows.indexesRunsSpec) false w args) (Rows.indexesRunsSpec.post enc Tryd.prog Tryd.f7 false true false false) := by
  refine laid_lift (C := Tryd.checked) (X := fun w _ => laidMetH Tryd.prog laid6 w) (fun _ _ _ hh h => h.of_heap hh) own started (by kernel_rfl) Tryd.func7
    (ChangeSpec.witness_shaped (enc := enc) (C := Tryd.checked) (os := os) (X := fun w _ => laidMetH Tryd.prog laid6 w) false (World.laidAll Tryd.prog os laid6) #[.int .u16 0, .int .u16 0, .int .u16 0] 8 (World.laidAll_os _ _ _)
      (World.shaped_of_ZipB (by kernel_rfl) (by kernel_rfl)) (by kernel_rfl) (by kernel_rfl) (by kernel_rfl)
      (by rw [MakeChecks.laidMetH_plain _ _ _ (by kernel_rfl)]; exact laidMet_laidAll _ (by kernel_rfl) (by kernel_rfl))) ?_
  intro W base args ds gs before hval0 hW hsz0 hL hS
  have hE := env6_of hL hS
  have hval : ∀ (j : Nat) t v, Tryd.f7.params[j]? = some t → args[j]? = some v → Value.okWide Tryd.prog W .any base t v := hval0
  have hW' := hW
  obtain ⟨p, q, hA0, hV, rfl, hfz, hnd⟩ := hW
  have hA : DataW.TrodAll enc Tryd.prog W 0 (fun _ => true) true Tryd.f7.params.toList args.toList ds p := hA0
  rw [Tryd.params7] at hA hval
  obtain ⟨v0, vs0, d0, ds0, p0, q0, hargs, rfl, rfl, h0, r0⟩ := trodAll_cons hA
  obtain ⟨v1, vs1, d1, ds1, p1, q1, rfl, rfl, rfl, h1, r1⟩ := trodAll_cons r0
  obtain ⟨v2, vs2, d2, ds2, p2, q2, rfl, rfl, rfl, h2, r2⟩ := trodAll_cons r1
  obtain ⟨rfl, rfl, rfl⟩ := trodAll_nil r2
  obtain rfl : args = #[v0, v1, v2] := by cases args; simp_all
  obtain ⟨xa, rfl, rfl, rfl, w0⟩ := open_int Tryd.underlying43 (hval 0 43 v0 rfl rfl) h0
  obtain ⟨xb, rfl, rfl, rfl, w1⟩ := open_int Tryd.underlying43 (hval 1 43 v1 rfl rfl) h1
  obtain ⟨xs, rfl, rfl, rfl, w2⟩ := open_int Tryd.underlying43 (hval 2 43 v2 rfl rfl) h2
  clear hA0 hval0
  refine (walk xa xb xs W hE w0 w1 w2).mono fun e W' ⟨he, hb⟩ => ?_
  subst he
  exact ⟨_, rfl, law_post (by kernel_rfl) (by kernel_rfl) rfl Tryd.underlying4 rfl hW' rfl hb⟩

theorem over : Rows.indexesRunsRow.holds Tryd.pinned (OpenSpec.ofChange Rows.indexesRunsSpec) :=
  OpenClaim.holds_of_wide 7 Tryd.f7 rfl rfl rfl rfl rfl rfl rfl ⟨rfl, rfl, rfl, rfl, rfl⟩ rfl rfl rfl rfl rfl (by kernel_rfl) Tryd.func7 (by kernel_rfl)
    (of_decide_eq_true (by kernel_rfl)) (by unfold Func.isWrapper; first | (rw [if_pos (by decide +kernel)]; kernel_rfl) | (rw [if_neg (by decide +kernel)]; exact ⟨rfl, rfl⟩))
    (fun os started H enc _ => lifted os started H enc)

theorem proved : Rows.IndexesRunsCardSaid :=
  Claim7.holds_tied_plain_at .later [] _ true _ false over (fun _ h => by cases h) (by kernel_rfl) (fun _ h => by cases h) indexesRuns_row_tie rfl ⟨rfl, rfl⟩ (by kernel_rfl) rfl
    (fun f fn hf hfn => by
      obtain rfl : f = 7 := Option.some.inj ((show Tryd.prog.funcNamed "ganger/gangerlaw06.IndexesRuns" = some 7 by kernel_rfl).symm.trans hf) |>.symm
      obtain rfl : fn = Tryd.f7 := (Option.some.inj (Tryd.func7.symm.trans hfn)).symm
      exact ⟨by kernel_rfl, fun j t ht => by
        rw [Tryd.params7] at ht
        have hm : t ∈ [43, 43, 43] := by simpa using Array.mem_of_getElem? ht
        have hall : ([43, 43, 43].all fun u => !Tryd.prog.wantsStandIn u) = true := by kernel_rfl
        exact (show Tryd.prog.wantsStandIn t = false by simpa using List.all_eq_true.1 hall t hm)⟩)
    (by kernel_rfl)
#print axioms proved
end Go.Proofs.YtdhkinknhjpjmaaDoor.indexesRuns
