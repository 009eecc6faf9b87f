/-
  IndexesFirst: a text that is cut, or has any sign put in, is one, or is wrong at a place up to which it is as the right one was: so the law returns true for every input, the listed tables of Go's library reading as the program's text lays them.
-/
import Derived.Test.YtdhkinknhjpjmaaDoorIxArr
import Derived.Test.YtdhkinknhjpjmaaDoorIxRun
import Derived.Test.YtdhkinknhjpjmaaDoorRows
import Derived.Test.YtdhkinknhjpjmaaDoorArgs2
import Derived.Test.YtdhkinknhjpjmaaDoorLaid
import Derived.Test.YtdhkinknhjpjmaaDoorCards
import Derived.Test.YtdhkinknhjpjmaaDoorTie
import Derived.MakeChecks
import Derived.SevenTiedAt
namespace Go.Proofs.YtdhkinknhjpjmaaDoor.indexesFirst
open Go.ChangeShapes Go.WideShapes Go.ChangeAt Go.RowKit
set_option linter.unusedVariables false

theorem own : ownKnob Tryd.prog.godebug = none := by kernel_rfl

open Go Go.RowKit Go.Lib in
theorem conv_byte (W : World) (b : Nat) (c : UInt8) (h : W.cell? ⟨b, 0, none⟩ = some (.int .u8 (c.toNat : Int))) :
    (convert 47 9 (.slice (some ⟨b, 0, none⟩) 1 1)).run Tryd.prog W = .ok (.string ⟨#[c]⟩) W := by
  refine Lib.run_convert_whole (P := Tryd.prog) W 47 5 9 Tryd.underlying47 Tryd.underlying5 Tryd.underlying9 b 0 ⟨#[c]⟩ (fun i hi => ?_) 1
  have hi' : i = 0 := by have : i < 1 := hi; omega
  subst hi'
  exact h
theorem txt_of {o : Out} (he : errO o = 60) : o = .txt (posO o) := by
  cases o with
  | txt p => rfl
  | arg p => exact absurd he (by show ¬ (2 : Int) = 60; decide)
  | ok f k => exact absurd he (by show ¬ (0 : Int) = 60; decide)
open Go Go.RowKit Go.Lib in
set_option maxRecDepth 100000 in
set_option maxHeartbeats 8000000 in
theorem walk (v : Value) (l : List Int) (m at_ sg : Int) (w : World) (hE : TabW w) (hr : NRow w v l ∧ ∀ z ∈ l, (Lit.int .i64 z).wf = true) (hm : (Lit.int .i64 m).wf = true) (hat : (Lit.int .i64 at_).wf = true) (hsg : (Lit.int .u8 sg).wf = true) :
    Calls Tryd.prog 8 #[.agg #[v, .int .i64 m], .int .i64 at_, .int .u8 sg] w fun e w' => e = .returned (.bool true) ∧ Below w.heap.size w w' := by
  have K : Hid (∀ w1, Below w.heap.size w w1 → Calls Tryd.prog 10 #[] w1 fun e w' => e = .returned (.bool true) ∧ Below w1.heap.size w1 w') := fun w1 hb => known_any w1 (hE.next hb)
  have hrow := hr.1
  have hmax : l.length ≤ 9223372036854775807 := by
    rcases hrow with ⟨rfl, _⟩ | ⟨_, _, c, _, _, h1, h2, _⟩
    · simp
    · unfold maxLen at h2; omega
  have hc8 := wf_u8 hsg
  obtain ⟨ch, hch⟩ : ∃ ch : UInt8, (ch.toNat : Int) = sg := ⟨UInt8.ofNat sg.toNat, by rw [UInt8.toNat_ofNat']; omega⟩
  obtain ⟨a, c, rfl⟩ := hrow.slice
  have hb := Lib.hid (Blk.new w #[.slice a l.length c, .int .i64 m] 25)
  have HW := Lib.hid ((Below.refl w.heap.size w).alloc (Nat.le_refl _) (.cells #[.slice a l.length c, .int .i64 m] 25))
  have c0 := hb.out.cell 0
  have c1 := hb.out.cell 1
  simp only [List.getElem?_toArray, List.getElem?_cons_zero, List.getElem?_cons_succ] at c0 c1
  by_cases hlong : 300 < l.length
  · have t : decide ((l.length : Int) > 300) = true := decide_eq_true (by omega)
    have t1 : decide (300 < l.length) = true := decide_eq_true hlong
    clear hr hE hm hat hsg hrow hch hc8 hb
    go_enter Tryd.func8, Tryd.ntmps8
    go_wp2_with fail
    refine (K.out _ HW.out).mono ?_; rintro e w9 ⟨rfl, b9⟩
    have B9 := Lib.hid (below_next b9 HW.out)
    go_wp2_with fail
    go_ret
    exact ⟨rfl, B9.out⟩
  have hl : l.length ≤ 300 := by omega
  have t : decide ((l.length : Int) > 300) = false := decide_eq_false (by omega)
  have t1 : decide (300 < l.length) = false := decide_eq_false (by omega)
  have PR : Hid (∀ w1, Below w.heap.size w w1 → Calls Tryd.prog 15 #[.agg #[.slice a l.length c, .int .i64 m]] w1 fun e w' => e = .returned (.tuple #[.string (printZ l m), .int .i64 (checkZ l m)]) ∧ Below w1.heap.size w1 w') := fun w1 hb => print_any _ l m w1 (by omega) (hE.next hb) (hrow.kept hb)
  by_cases hz : ¬ OkZ l m
  · rw [checkZ_no hz] at PR
    generalize printZ l m = S at *
    generalize l.length = n at *
    clear hz hr hE hm hat hsg hrow hch hc8 hb
    go_enter Tryd.func8, Tryd.ntmps8
    go_wp2_with fail
    refine (PR.out _ HW.out).mono ?_; rintro e w1 ⟨rfl, b1⟩
    have B1 := Lib.hid (below_next b1 HW.out)
    clear b1 c0 c1
    go_wp2_with fail
    refine (K.out _ B1.out).mono ?_; rintro e w9 ⟨rfl, b9⟩
    have B9 := Lib.hid (below_next b9 B1.out)
    go_wp2_with fail
    go_ret
    exact ⟨rfl, B9.out⟩
  have hz : OkZ l m := Classical.not_not.1 hz
  rw [checkZ_ok hz] at PR
  obtain ⟨f, hf, _⟩ := back_at hz
  have hsz : (printZ l m).size ≤ 1505 := Nat.le_trans (back_size hz) (by omega)
  generalize printZ l m = S at *
  generalize l.length = n at *
  clear hz hr hm hat hsg hrow hlong hb
  obtain ⟨U, k, u1, u2, u3, u4, u5, u6⟩ := mod_pick at_ (S.size + 1) (Nat.succ_pos _) (by omega)
  have hk : k ≤ S.size := by omega
  have hkl : k ≤ S.data.toList.length := by simpa using hk
  obtain ⟨o1, ho1⟩ : ∃ o, o = parseM (S.extract 0 k).data.toList := ⟨_, rfl⟩
  have e1 : (S.extract 0 k).data.toList = S.data.toList.take k := by rw [extract_data]; simp
  have e2 : (S.extract 0 k ++ ⟨#[ch]⟩ ++ S.extract k S.size).data.toList = S.data.toList.take k ++ ch :: S.data.toList.drop k := by
    rw [ByteArray.data_append, ByteArray.data_append, Array.toList_append, Array.toList_append, extract_data, extract_data]
    have : S.size = S.data.toList.length := by simp
    rw [this]
    simp only [List.drop_zero, Nat.sub_zero, List.append_assoc]
    rw [List.take_of_length_le (l := S.data.toList.drop k) (by rw [List.length_drop]; exact Nat.le_refl _)]
    rfl
  obtain ⟨P1, hP1⟩ : ∃ P, P = posO o1 := ⟨_, rfl⟩
  obtain ⟨E1, hE1⟩ : ∃ E, E = errO o1 := ⟨_, rfl⟩
  have h1 : Hid (E1 = 60 → P1 = k) := fun he => by
    have := txt_of (o := o1) (by rw [← hE1]; exact he)
    rw [ho1, e1] at this
    rw [hP1, ho1, e1]
    exact txt_pre hf hkl this
  have PA : Hid (∀ w1, Calls Tryd.prog 11 #[.string (S.extract 0 k)] w1 fun e w' => (∃ a n c M, e = .returned (.tuple #[.agg #[.slice a n c, .int .i64 M], .int .i64 P1, .int .i64 E1])) ∧ Below w1.heap.size w1 w') := fun w1 => by
    refine (parse_at (S.extract 0 k) w1 (by rw [ByteArray.size_extract]; omega) _ _ P1 E1 ⟨rfl, by rw [hP1, ho1], by rw [hE1, ho1], rfl⟩).mono ?_
    rintro e w' ⟨⟨a, c, rfl, _⟩, hb⟩
    exact ⟨⟨a, _, c, _, rfl⟩, hb⟩
  obtain ⟨o2, ho2⟩ : ∃ o, o = parseM (S.extract 0 k ++ ⟨#[ch]⟩ ++ S.extract k S.size).data.toList := ⟨_, rfl⟩
  obtain ⟨P2, hP2⟩ : ∃ P, P = posO o2 := ⟨_, rfl⟩
  obtain ⟨E2, hE2⟩ : ∃ E, E = errO o2 := ⟨_, rfl⟩
  have h2 : Hid (E2 = 60 → k ≤ P2 ∧ (¬ (48 ≤ sg ∧ sg ≤ 57) → sg ≠ 44 → sg ≠ 45 → sg ≠ 58 → sg ≠ 37 → P2 = k)) := fun he => by
    have := txt_of (o := o2) (by rw [← hE2]; exact he)
    rw [ho2, e2] at this
    rw [hP2, ho2, e2]
    obtain ⟨g1, g2⟩ := txt_ins hf hkl ch _ this
    refine ⟨g1, fun q1 q2 q3 q4 q5 => g2 (by rw [Bool.eq_false_iff, Ne, isDig_iff]; omega) (fun e => q2 ?_) (fun e => q3 ?_) (fun e => q4 ?_) (fun e => q5 ?_)⟩ <;> rw [← hch, e] <;> rfl
  have PI : Hid (∀ w1, Calls Tryd.prog 11 #[.string (S.extract 0 k ++ ⟨#[ch]⟩ ++ S.extract k S.size)] w1 fun e w' => (∃ a n c M, e = .returned (.tuple #[.agg #[.slice a n c, .int .i64 M], .int .i64 P2, .int .i64 E2])) ∧ Below w1.heap.size w1 w') := fun w1 => by
    refine (parse_at _ w1 (by rw [ByteArray.size_append, ByteArray.size_append, ByteArray.size_extract, ByteArray.size_extract]; have : (⟨#[ch]⟩ : ByteArray).size = 1 := rfl; omega) _ _ P2 E2 ⟨rfl, by rw [hP2, ho2], by rw [hE2, ho2], rfl⟩).mono ?_
    rintro e w' ⟨⟨a, c, rfl, _⟩, hb⟩
    exact ⟨⟨a, _, c, _, rfl⟩, hb⟩
  have hk1 : (k : Int) ≤ S.size := by omega
  have u2' : (U : Int) % ((S.size : Int) + 1) = (k : Int) := by rw [← u2]; congr 1
  have u6' : (U : Int).tmod ((S.size : Int) + 1) = (k : Int) := by rw [← u6]; congr 1
  clear u2 u6 u5
  clear hP1 hE1 ho1 hP2 hE2 ho2 e1 e2 hf hkl hE u3 u4
  go_enter Tryd.func8, Tryd.ntmps8
  go_wp2_with fail
  refine (PR.out _ HW.out).mono ?_; rintro e w1 ⟨rfl, b1⟩
  have B1 := Lib.hid (below_next b1 HW.out)
  clear b1 c0 c1 HW PR
  go_wp2_with fail
  refine (PA.out _).mono ?_; rintro e w2 ⟨⟨a2, n2, c2, M2, rfl⟩, b2⟩
  have B2 := Lib.hid (below_next ((Below.refl w2.heap.size w2).alloc (Nat.le_refl _) (.cells #[.slice a2 n2 c2, .int .i64 M2] 25)) (below_next b2 B1.out))
  clear b2 B1 PA
  go_upto_region 8 with fail
  generalize w2.alloc (.cells #[.slice a2 n2 c2, .int .i64 M2] 25) = W2 at *
  go_cut [52] (fun bv wx => bv = .bool false ∧ wx = W2)
  case first =>
    by_cases he : E1 = 60
    · have hp := h1.out he
      have q : (E1 == 60) = true := by rw [he]; rfl
      have q1 : ((P1 : Int) != k) = false := by rw [hp]; simp
      have q2 : (P1 != k) = false := by rw [hp]; simp
      clear he hp h1
      go_wp2_with fail
      go_meet
      case rel => exact ⟨rfl, rfl⟩
    · have q : (E1 == 60) = false := by rw [beq_eq_false_iff_ne]; exact he
      clear he h1
      go_wp2_with fail
      go_meet
      case rel => exact ⟨rfl, rfl⟩
  case rest =>
    obtain ⟨rfl, rfl⟩ := hcut
    have H0 : ∀ W : World, (W.alloc (.cells #[.int .u8 sg] 5)).cell? ⟨W.heap.size, 0, none⟩ = some (.int .u8 sg) := fun W => by simp
    have hcv : ∀ (W : World) (b : Nat), W.cell? ⟨b, 0, none⟩ = some (.int .u8 sg) → (convert 47 9 (.slice (some ⟨b, 0, none⟩) 1 1)).run Tryd.prog W = .ok (.string ⟨#[ch]⟩) W := fun W b h => conv_byte W b ch (by rw [h, hch])
    have hcw := fun W => hcv _ W.heap.size (H0 W)
    have HCV := Lib.hid hcv
    have z1 : (⟨#[ch]⟩ : ByteArray).size = 1 := rfl
    have z2 : (S.extract 0 k).size ≤ 1505 := by rw [ByteArray.size_extract]; omega
    have z3 : (S.extract k S.size).size ≤ 1505 := by rw [ByteArray.size_extract]; omega
    clear hch
    go_wp2_with fail
    go_cut [14, 15] (fun mv gv wx => mv = .int .i64 P2 ∧ gv = .int .i64 E2 ∧ ∃ wq, wq = wx ∧ Below wc.heap.size wc wq)
    case first =>
      go_wp2_with fail
      go_region_with (first | (go_at_call 11; ((with_reducible refine (PI.out _).mono ?_); rintro e w3 ⟨⟨a3, n3, c3, M3, rfl⟩, b3⟩); first
          | (have hz := Blk.kept (w := ((wc.alloc (.cells #[.slice none 0 0, .int .i64 0] 25)).alloc (.cells #[.int .u8 sg] 5)).drew) ((Blk.new wc #[.slice none 0 0, .int .i64 0] 25).old _) b3; have s0 := hz.cell 0; have s1 := hz.cell 1; have s2 := hz.free 0; have s3 := hz.free 1; simp only [List.getElem?_toArray, List.getElem?_cons_zero, List.getElem?_cons_succ] at s0 s1)
          | (have hz := Blk.kept (w := ((wc.alloc (.cells #[.int .u8 sg] 5)).alloc (.cells #[.slice none 0 0, .int .i64 0] 25)).drew) (Blk.fresh (wc.alloc (.cells #[.int .u8 sg] 5)) #[.slice none 0 0, .int .i64 0] 25 (wc.heap.size + 1) (by simp)) b3; have s0 := hz.cell 0; have s1 := hz.cell 1; have s2 := hz.free 0; have s3 := hz.free 1; simp only [List.getElem?_toArray, List.getElem?_cons_zero, List.getElem?_cons_succ] at s0 s1)
          | skip))
      all_goals
        have hX : Below wc.heap.size wc w3 := by
          first
            | exact below_next b3 ((Below.refl _ wc).alloc (Nat.le_refl _) _).drew
            | exact below_next b3 (((Below.refl _ wc).alloc (Nat.le_refl _) _).alloc (by simp) _).drew
        have hXs := hX.size
        have HX := Lib.hid hX
        clear hX b3
        try clear hz s0 s1 s2 s3
        go_wp2_with fail
        go_meet
        case rel =>
          refine ⟨rfl, rfl, _, rfl, ?_⟩
          repeat' (first | exact HX.out | exact hXs | apply Below.drew | refine Below.setCell ?_ ?_ _ | refine Below.alloc ?_ ?_ _ | (simp; done) | omega)
    case rest =>
      obtain ⟨rfl, rfl, w4, hw4, hb4⟩ := hcut
      subst hw4
      have B4 := Lib.hid (below_next hb4 B2.out)
      clear hb4 PI hcv hcw H0 z1 z2 z3 B2
      have hk2 : (0 : Int) ≤ k := by omega
      by_cases he : E2 = 60
      · obtain ⟨g1, g2⟩ := h2.out he
        have q : (E2 == 60) = true := by rw [he]; rfl
        have q0 : (E2 != 60) = false := by rw [he]; rfl
        have q1 : decide ((P2 : Int) ≥ k) = true := decide_eq_true (by omega)
        have q1n : decide (k ≤ P2) = true := decide_eq_true g1
        have G2 := Lib.hid g2
        clear g2 h2 he g1
        by_cases d1 : 48 ≤ sg
        · have p1 : decide (sg ≥ 48) = true := decide_eq_true d1
          have p1n : decide (48 ≤ sg) = true := decide_eq_true d1
          by_cases d2 : sg ≤ 57
          · have p2 : decide (sg ≤ 57) = true := decide_eq_true d2
            clear G2
            go_wp2_with fail
            refine (K.out _ B4.out).mono ?_; rintro e w9 ⟨rfl, b9⟩
            have B9 := Lib.hid (below_next b9 B4.out)
            go_wp2_with fail
            go_ret
            exact ⟨rfl, B9.out⟩
          · have p2 : decide (sg ≤ 57) = false := decide_eq_false d2
            have G3 := Lib.hid (G2.out (by omega))
            have s1 : (sg != 44) = true := by rw [bne_iff_ne]; omega
            have s2 : (sg != 45) = true := by rw [bne_iff_ne]; omega
            have s4 : (sg != 37) = true := by rw [bne_iff_ne]; omega
            by_cases d3 : sg = 58
            · have s3 : (sg != 58) = false := by rw [d3]; rfl
              clear G2 G3 d3
              go_wp2_with fail
              refine (K.out _ B4.out).mono ?_; rintro e w9 ⟨rfl, b9⟩
              have B9 := Lib.hid (below_next b9 B4.out)
              go_wp2_with fail
              go_ret
              exact ⟨rfl, B9.out⟩
            · have s3 : (sg != 58) = true := by rw [bne_iff_ne]; exact d3
              have hp := G3.out (by omega) (by omega) (by omega) (by omega)
              have r1 : ((P2 : Int) != k) = false := by rw [hp]; simp
              have r2 : (P2 != k) = false := by rw [hp]; simp
              clear G2 G3 hp d3
              go_wp2_with fail
              refine (K.out _ B4.out).mono ?_; rintro e w9 ⟨rfl, b9⟩
              have B9 := Lib.hid (below_next b9 B4.out)
              go_wp2_with fail
              go_ret
              exact ⟨rfl, B9.out⟩
        · have p1 : decide (sg ≥ 48) = false := decide_eq_false d1
          have p1n : decide (48 ≤ sg) = false := decide_eq_false d1
          have G3 := Lib.hid (G2.out (by omega))
          have s3 : (sg != 58) = true := by rw [bne_iff_ne]; omega
          by_cases d3 : sg = 44
          · have s1 : (sg != 44) = false := by rw [d3]; rfl
            clear G2 G3 d3
            go_wp2_with fail
            refine (K.out _ B4.out).mono ?_; rintro e w9 ⟨rfl, b9⟩
            have B9 := Lib.hid (below_next b9 B4.out)
            go_wp2_with fail
            go_ret
            exact ⟨rfl, B9.out⟩
          have s1 : (sg != 44) = true := by rw [bne_iff_ne]; exact d3
          by_cases d4 : sg = 45
          · have s2 : (sg != 45) = false := by rw [d4]; rfl
            clear G2 G3 d4 d3
            go_wp2_with fail
            refine (K.out _ B4.out).mono ?_; rintro e w9 ⟨rfl, b9⟩
            have B9 := Lib.hid (below_next b9 B4.out)
            go_wp2_with fail
            go_ret
            exact ⟨rfl, B9.out⟩
          have s2 : (sg != 45) = true := by rw [bne_iff_ne]; exact d4
          by_cases d5 : sg = 37
          · have s4 : (sg != 37) = false := by rw [d5]; rfl
            clear G2 G3 d5 d4 d3
            go_wp2_with fail
            refine (K.out _ B4.out).mono ?_; rintro e w9 ⟨rfl, b9⟩
            have B9 := Lib.hid (below_next b9 B4.out)
            go_wp2_with fail
            go_ret
            exact ⟨rfl, B9.out⟩
          have s4 : (sg != 37) = true := by rw [bne_iff_ne]; exact d5
          have hp := G3.out (by omega) (by omega) (by omega) (by omega)
          have r1 : ((P2 : Int) != k) = false := by rw [hp]; simp
          have r2 : (P2 != k) = false := by rw [hp]; simp
          clear G2 G3 hp d3 d4 d5
          go_wp2_with fail
          refine (K.out _ B4.out).mono ?_; rintro e w9 ⟨rfl, b9⟩
          have B9 := Lib.hid (below_next b9 B4.out)
          go_wp2_with fail
          go_ret
          exact ⟨rfl, B9.out⟩
      · have q : (E2 == 60) = false := by rw [beq_eq_false_iff_ne]; exact he
        have q0 : (E2 != 60) = true := by rw [bne_iff_ne]; exact he
        clear h2 he
        by_cases d1 : 48 ≤ sg
        · have p1 : decide (sg ≥ 48) = true := decide_eq_true d1
          have p1n : decide (48 ≤ sg) = true := decide_eq_true d1
          by_cases d2 : sg ≤ 57
          · have p2 : decide (sg ≤ 57) = true := decide_eq_true d2
            go_wp2_with fail
            refine (K.out _ B4.out).mono ?_; rintro e w9 ⟨rfl, b9⟩
            have B9 := Lib.hid (below_next b9 B4.out)
            go_wp2_with fail
            go_ret
            exact ⟨rfl, B9.out⟩
          · have p2 : decide (sg ≤ 57) = false := decide_eq_false d2
            go_wp2_with fail
            refine (K.out _ B4.out).mono ?_; rintro e w9 ⟨rfl, b9⟩
            have B9 := Lib.hid (below_next b9 B4.out)
            go_wp2_with fail
            go_ret
            exact ⟨rfl, B9.out⟩
        · have p1 : decide (sg ≥ 48) = false := decide_eq_false d1
          have p1n : decide (48 ≤ sg) = false := decide_eq_false d1
          go_wp2_with fail
          refine (K.out _ B4.out).mono ?_; rintro e w9 ⟨rfl, b9⟩
          have B9 := Lib.hid (below_next b9 B4.out)
          go_wp2_with fail
          go_ret
          exact ⟨rfl, B9.out⟩


set_option maxRecDepth 100000 in
theorem lifted (os : Os) (started : os.Started) (H : Type) (enc : TypeId × Value → H) :
    ReturnsInHanded {} Tryd.checked os 8 .any (fun w args => (Rows.indexesFirstSpec.pre enc Tryd.prog Tryd.f8 Rows.indexesFirstRow.domain false w args ∧ laidMetH Tryd.prog laid6 w) ∧ sizedMet enc Tryd.prog Tryd.f8 (OpenSpec.ofChange Rows.indexesFirstSpec) false w args) (Rows.indexesFirstSpec.post enc Tryd.prog Tryd.f8 false true false false) := by
  refine laid_lift (C := Tryd.checked) (X := fun w _ => laidMetH Tryd.prog laid6 w) (fun _ _ _ hh h => h.of_heap hh) own started (by kernel_rfl) Tryd.func8
    (ChangeSpec.witness_shaped (enc := enc) (C := Tryd.checked) (os := os) (X := fun w _ => laidMetH Tryd.prog laid6 w) false (World.laidAll Tryd.prog os laid6) #[.agg #[.slice none 0 0, .int .i64 0], .int .i64 0, .int .u8 0] 8 (World.laidAll_os _ _ _)
      (World.shaped_of_ZipB (by kernel_rfl) (by kernel_rfl)) (by kernel_rfl) (by kernel_rfl) (by kernel_rfl)
      (by rw [MakeChecks.laidMetH_plain _ _ _ (by kernel_rfl)]; exact laidMet_laidAll _ (by kernel_rfl) (by kernel_rfl))) ?_
  intro W base args ds gs before hval0 hW hsz0 hL hS
  have hE := env6_of hL hS
  have hval : ∀ (j : Nat) t v, Tryd.f8.params[j]? = some t → args[j]? = some v → Value.okWide Tryd.prog W .any base t v := hval0
  have hW' := hW
  obtain ⟨p, q, hA0, hV, rfl, hfz, hnd⟩ := hW
  have hA : DataW.TrodAll enc Tryd.prog W 0 (fun _ => true) true Tryd.f8.params.toList args.toList ds p := hA0
  rw [Tryd.params8] at hA hval
  obtain ⟨v0, vs0, d0, ds0, p0, q0, hargs, rfl, rfl, h0, r0⟩ := trodAll_cons hA
  obtain ⟨v1, vs1, d1, ds1, p1, q1, rfl, rfl, rfl, h1, r1⟩ := trodAll_cons r0
  obtain ⟨v2, vs2, d2, ds2, p2, q2, rfl, rfl, rfl, h2, r2⟩ := trodAll_cons r1
  obtain ⟨rfl, rfl, rfl⟩ := trodAll_nil r2
  obtain rfl : args = #[v0, v1, v2] := by cases args; simp_all
  obtain ⟨cs0, rfl, hs0, hf0⟩ := open_plain_struct Tryd.underlying25 (by kernel_rfl) (by kernel_rfl) (hval 0 25 v0 rfl rfl) h0
  obtain ⟨c0_0, y0_0, n0_0, e0_0, t0_0⟩ := hf0 0 _ rfl
  obtain ⟨l, w0_0⟩ := field_nrow Tryd.underlying23 Tryd.underlying3 (by kernel_rfl) t0_0
  obtain ⟨c0_1, y0_1, n0_1, e0_1, t0_1⟩ := hf0 1 _ rfl
  obtain ⟨m, rfl, w0_1⟩ := field_int Tryd.underlying3 t0_1
  obtain rfl : cs0 = #[c0_0, .int .i64 m] := arr_of cs0 [c0_0, .int .i64 m] hs0 (fun j hj => by match j, hj with | 0, _ => exact e0_0 | 1, _ => exact e0_1 | j + 2, hj => exact absurd hj (by simp))
  obtain ⟨at_, rfl, rfl, rfl, w1⟩ := open_int Tryd.underlying3 (hval 1 3 v1 rfl rfl) h1
  obtain ⟨sg, rfl, rfl, rfl, w2⟩ := open_int Tryd.underlying5 (hval 2 5 v2 rfl rfl) h2
  clear hA0 hval0
  refine (walk c0_0 l m at_ sg W hE w0_0 w0_1 w1 w2).mono fun e W' ⟨he, hb⟩ => ?_
  subst he
  exact ⟨_, rfl, law_post (by kernel_rfl) (by kernel_rfl) rfl Tryd.underlying4 rfl hW' rfl hb⟩

theorem over : Rows.indexesFirstRow.holds Tryd.pinned (OpenSpec.ofChange Rows.indexesFirstSpec) :=
  OpenClaim.holds_of_wide 8 Tryd.f8 rfl rfl rfl rfl rfl rfl rfl ⟨rfl, rfl, rfl, rfl, rfl⟩ rfl rfl rfl rfl rfl (by kernel_rfl) Tryd.func8 (by kernel_rfl)
    (of_decide_eq_true (by kernel_rfl)) (by unfold Func.isWrapper; first | (rw [if_pos (by decide +kernel)]; kernel_rfl) | (rw [if_neg (by decide +kernel)]; exact ⟨rfl, rfl⟩))
    (fun os started H enc _ => lifted os started H enc)

theorem proved : Rows.IndexesFirstCardSaid :=
  Claim7.holds_tied_plain_at .later [] _ true _ false over (fun _ h => by cases h) (by kernel_rfl) (fun _ h => by cases h) indexesFirst_row_tie rfl ⟨rfl, rfl⟩ (by kernel_rfl) rfl
    (fun f fn hf hfn => by
      obtain rfl : f = 8 := Option.some.inj ((show Tryd.prog.funcNamed "ganger/gangerlaw06.IndexesFirst" = some 8 by kernel_rfl).symm.trans hf) |>.symm
      obtain rfl : fn = Tryd.f8 := (Option.some.inj (Tryd.func8.symm.trans hfn)).symm
      exact ⟨by kernel_rfl, fun j t ht => by
        rw [Tryd.params8] at ht
        have hm : t ∈ [25, 3, 5] := by simpa using Array.mem_of_getElem? ht
        have hall : ([25, 3, 5].all fun u => !Tryd.prog.wantsStandIn u) = true := by kernel_rfl
        exact (show Tryd.prog.wantsStandIn t = false by simpa using List.all_eq_true.1 hall t hm)⟩)
    (by kernel_rfl)
#print axioms proved
end Go.Proofs.YtdhkinknhjpjmaaDoor.indexesFirst
