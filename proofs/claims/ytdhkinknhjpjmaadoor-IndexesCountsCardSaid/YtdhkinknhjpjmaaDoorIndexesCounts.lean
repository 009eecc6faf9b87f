/-
  IndexesCounts: a run with a step has one index more than its length holds steps; written one by one, in any order, the same indexes say the same: so the law returns true for every input, the listed tables of Go's library reading as the program's text lays them.
-/
import Derived.Test.YtdhkinknhjpjmaaDoorIxRun
import Derived.Test.YtdhkinknhjpjmaaDoorRows
import Derived.Test.YtdhkinknhjpjmaaDoorArgs2
import Derived.Test.YtdhkinknhjpjmaaDoorLaid
import Derived.Test.YtdhkinknhjpjmaaDoorCards
import Derived.Test.YtdhkinknhjpjmaaDoorTie
import Derived.MakeChecks
import Derived.SevenTiedAt
namespace Go.Proofs.YtdhkinknhjpjmaaDoor.indexesCounts
open Go.ChangeShapes Go.WideShapes Go.ChangeAt Go.RowKit
set_option linter.unusedVariables false

theorem own : ownKnob Tryd.prog.godebug = none := by kernel_rfl

open Go Go.RowKit Go.Lib in
set_option maxRecDepth 100000 in
set_option maxHeartbeats 8000000 in
theorem counts (xa xl xs a d s b n U k : Nat) (turn : Int) (w : World) (K : Hid (∀ w1, Below w.heap.size w w1 → Calls Tryd.prog 10 #[] w1 fun e w' => e = .returned (.bool true) ∧ Below w1.heap.size w1 w'))
    (h1 : Hid (a = xa)) (h2 : Hid (d = xl)) (h3 : Hid ((xs : Int) % 9 = (s : Int) - 1)) (ha : xa ≤ 255) (hd : xl ≤ 255) (hs0 : 0 < s) (hs : s ≤ 9) (hb : b = a + d) (hn : n = d / s + 1)
    (hU : Hid (IntKind.u64.wrap turn = (U : Int))) (hk : Hid ((U : Int) % (n : Int) = (k : Int))) (hk' : Hid ((U : Int).tmod (n : Int) = (k : Int))) (hkn : k < n) :
    Calls Tryd.prog 9 #[.int .u8 xa, .int .u8 xl, .int .u8 xs, .int .i64 turn] w fun e w' => e = .returned (.bool true) ∧ Below w.heap.size w w' := by
  obtain rfl : a = xa := h1.out
  obtain rfl : d = xl := h2.out
  have hdiv : d / s ≤ d := Nat.div_le_self _ _
  have hn1 : n ≤ 256 := by omega
  have hsm : ∀ m, m < n → s * m ≤ d := fun m hm => by
    have : s * m ≤ s * (d / s) := Nat.mul_le_mul_left _ (by omega)
    exact Nat.le_trans this (Nat.mul_div_le _ _)
  have hall : ∀ m, m < n → a + s * m < 10000 := fun m hm => by have := hsm m hm; omega
  have hES : Hid (∀ j, j ≤ n → (eachB a n s k j).size ≤ 1280) := fun j hj => by have := each_size a n s k hall (by omega) j; omega
  have hE1 : Hid (∀ m, m = (0 + k) % n → (⟨#[]⟩ : ByteArray) ++ digS (a + s * m) = eachB a n s k 1) := fun m hm => (each_first a n s k m hm).symm
  have hE2 : Hid (∀ j m, 0 < j → m = (j + k) % n → eachB a n s k j ++ ⟨#[44]⟩ ++ digS (a + s * m) = eachB a n s k (j + 1)) := fun j m hj hm => (each_next a n s k j m hj hm).symm
  have hM : Hid (∀ j : Nat, j < n → ∃ m p x : Nat, m = (j + k) % n ∧ ((j : Int) + k) % n = (m : Int) ∧ ((j : Int) + k).tmod n = (m : Int) ∧ (s : Int) * m = (p : Int) ∧ p ≤ 255 ∧ (a : Int) + p = (x : Int) ∧ x = a + s * m ∧ x ≤ 510) := fun j hj => by
    have hm : (j + k) % n < n := Nat.mod_lt _ (by omega)
    have hp := hsm _ hm
    have e : ((j : Int) + k) % n = (((j + k) % n : Nat) : Int) := by simp
    refine ⟨(j + k) % n, s * ((j + k) % n), a + s * ((j + k) % n), rfl, e, ?_, by simp, by omega, by simp, rfl, by omega⟩
    rw [Int.tmod_eq_emod_of_nonneg (by omega), e]
  obtain ⟨f, hf, hfl⟩ := counts_ok (a := a) (n := n) (s := s) (k := k) (d := d) hs0 hn (by omega)
  have hrun := run_list (a := a) (k := d) hs0 (by omega)
  rw [← hn, ← hb] at hrun
  have hok := run_ok (a := a) (k := d) (s := s) hs0 (by omega) (by omega)
  rw [← hb] at hok
  obtain ⟨L, hL⟩ : ∃ L, L = runL a n s := ⟨_, rfl⟩
  have hLn : L.length = n := by rw [hL]; exact runL_len _ _ _
  have hsize := runB_size (a := a) (b := b) (c := s) (by omega) (by omega) (by omega)
  have PB : Hid (∀ w, Calls Tryd.prog 11 #[.string (runB a b s)] w fun e w' => (∃ a c, e = .returned (.tuple #[.agg #[.slice a n c, .int .i64 0], .int .i64 0, .int .i64 0]) ∧ NOwn w' w.heap.size (.slice a n c) (ofN L)) ∧ Below w.heap.size w w') := fun w => by
    have := parse_at (runB a b s) w (by omega) L 0 0 0 (by rw [hok]; exact ⟨rfl, rfl, rfl, by rw [hL]; exact hrun⟩)
    rwa [hLn] at this
  have PE : Hid (∀ w, Calls Tryd.prog 11 #[.string (eachB a n s k n)] w fun e w' => (∃ a c, e = .returned (.tuple #[.agg #[.slice a n c, .int .i64 0], .int .i64 0, .int .i64 0]) ∧ NOwn w' w.heap.size (.slice a n c) (ofN L)) ∧ Below w.heap.size w w') := fun w => by
    have := parse_at (eachB a n s k n) w (by have := hES.out n (Nat.le_refl _); omega) L 0 0 0 (by rw [hf]; exact ⟨rfl, rfl, rfl, by rw [hL]; exact hfl⟩)
    rwa [hLn] at this
  have SM : Hid (∀ (w : World) (a a' : Option Addr) (c c' : Nat), NRow w (.slice a n c) (ofN L) → NRow w (.slice a' n c') (ofN L) → Calls Tryd.prog 13 #[.agg #[.slice a n c, .int .i64 0], .agg #[.slice a' n c', .int .i64 0]] w fun e w' => e = .returned (.bool true) ∧ Below w.heap.size w w') := fun w a a' c c' h h' => by
    have := same_any _ _ (ofN L) (ofN L) 0 0 w (by rw [ofN_len]; omega) (by rw [ofN_len]; omega) h h'
    simpa using this
  have DG : Hid (∀ (x : Nat) w, x ≤ 600 → Calls Tryd.prog 19 #[.int .i64 x] w fun e w' => e = .returned (.string (digS x)) ∧ Below w.heap.size w w') := fun x w hx => digits_any x w (by omega)
  have z1 := dig4 (n := a) (by omega)
  have z2 := dig4 (n := b) (by omega)
  have z3 := dig4 (n := s) (by omega)
  have z4 : (⟨#[45]⟩ : ByteArray).size = 1 := rfl
  have z5 : (⟨#[58]⟩ : ByteArray).size = 1 := rfl
  have z6 : (⟨#[44]⟩ : ByteArray).size = 1 := rfl
  have z7 : (⟨#[]⟩ : ByteArray).size = 0 := rfl
  have HR : Hid (digS a ++ ⟨#[45]⟩ ++ digS b ++ ⟨#[58]⟩ ++ digS s = runB a b s) := rfl
  have h3 := h3.out
  have e1 : (1 : Int) + ((s : Int) - 1) = (s : Int) := by omega
  have e2 : (a : Int) + (d : Int) = (b : Int) := by omega
  have e3 : (d : Int) / (s : Int) + 1 = (n : Int) := by rw [hn]; simp
  have b1 : (b : Int) ≤ 510 := by omega
  have b2 : (s : Int) ≤ 9 := by omega
  have b3 : (1 : Int) ≤ s := by omega
  have b4 : (0 : Int) < n := by omega
  have b5 : (n : Int) ≤ 256 := by omega
  have b6 : (d : Int) / (s : Int) ≤ 255 := by omega
  have b7 : 0 ≤ (d : Int) / (s : Int) := by omega
  have q1 : ((n : Int) != n) = false := by simp
  have q1n : (n != n) = false := by simp
  clear hsm hall hf hfl hrun hok hL hLn hsize hdiv hn hb
  go_enter Tryd.func9, Tryd.ntmps9
  go_wp2_with fail
  refine (DG.out a _ (by omega)).mono ?_; rintro e w1 ⟨rfl, y1⟩
  go_wp2_with fail
  refine (DG.out b _ (by omega)).mono ?_; rintro e w2 ⟨rfl, y2⟩
  go_wp2_with fail
  refine (DG.out s _ (by omega)).mono ?_; rintro e w3 ⟨rfl, y3⟩
  have B3 := Lib.hid (below_next y3 (below_next y2 y1))
  clear y1 y2 y3 h3 e1 e2 ha
  go_upto_region 5 with fail
  rw [HR.out]
  generalize runB a b s = T at *
  clear HR z1 z2 z3 z4 z5
  go_wp2_with fail
  refine (PB.out w3).mono ?_; rintro e w4 ⟨⟨a1, c1, rfl, o1⟩, y4⟩
  have B4 := Lib.hid (below_next y4 B3.out)
  have x1 := (Below.refl w4.heap.size w4).alloc (Nat.le_refl _) (.cells #[.slice a1 n c1, .int .i64 0] 25)
  have B5 := Lib.hid (below_next x1 B4.out)
  have R5 := Lib.hid ((nrow_of_own o1).kept x1)
  have hA := Lib.hid (Blk.new w4 #[.slice a1 n c1, .int .i64 0] 25)
  obtain ⟨g4, hg4⟩ : ∃ g4, g4 = w4.heap.size := ⟨_, rfl⟩
  rw [← hg4] at hA
  have k0 := hA.out.cell 0
  simp only [List.getElem?_toArray, List.getElem?_cons_zero] at k0
  clear y4 B3 B4 x1 o1 PB
  go_upto_region 6 with fail
  rw [← hg4]
  generalize w4.alloc (.cells #[.slice a1 n c1, .int .i64 0] 25) = W4 at *
  clear hg4
  have hU := hU.out
  have hk := hk.out
  have hk' := hk'.out
  have u1 := u64_nat n (by omega)
  have hkn' : (k : Int) < n := by omega
  go_wp2_with fail
  clear hU hk hk' u1 e3 b6 b7 q1 q1n k0
  go_loopw [17, 19] (fun t i wr => ∃ (j : Nat), j ≤ n ∧ i = .int .i64 j ∧ t = .string (eachB a n s k j) ∧ Hid (Blk wr g4 #[.slice a1 n c1, .int .i64 0] 25) ∧ Hid (NRow wr (.slice a1 n c1) (ofN L)) ∧ Below w.heap.size w wr) (fun _ i _ => n - (RowKit.intOf i).toNat)
  case atStart => exact ⟨0, by omega, rfl, rfl, hA, R5, B5.out⟩
  case round =>
    obtain ⟨j, hj, rfl, rfl, hB, r1, hBW⟩ := hrel
    have BW := Lib.hid hBW
    clear hBW
    by_cases hlt : j < n
    · have hlt' : decide (j < n) = true := decide_eq_true hlt
      have hlt2 : decide ((j : Int) < n) = true := decide_eq_true (by omega)
      have hjl : (j : Int) < n := by omega
      have hsz := hES.out j hj
      obtain ⟨m, p, x, m1, m2, m3, m4, m5, m6, m7, m8⟩ := hM.out j hlt
      have hm0 : 0 ≤ (m : Int) := by omega
      have HD := Lib.hid (DG.out x wr (by omega))
      have hx4 := dig4 (n := x) (by omega)
      have hN : Hid (∀ w1, Below wr.heap.size wr w1 → Blk w1 g4 #[.slice a1 n c1, .int .i64 0] 25 ∧ NRow w1 (.slice a1 n c1) (ofN L) ∧ Below w.heap.size w w1) := fun w1 hb => ⟨hB.out.kept hb, r1.out.kept hb, below_next hb BW.out⟩
      clear hB r1 BW K PE SM DG hM hES R5 hA B5
      have M1 := Lib.hid m1
      have M7 := Lib.hid m7
      clear m1 m7
      by_cases j0 : j = 0
      · have HE := Lib.hid (hE1.out m (by rw [M1.out, j0]))
        rw [← M7.out] at HE
        have s0 : (⟨#[]⟩ : ByteArray) = eachB a n s k j := by rw [j0]; rfl
        rw [s0] at HE
        have J0 := Lib.hid j0
        generalize eachB a n s k j = T at *
        have g1 : decide ((j : Int) > 0) = false := decide_eq_false (by omega)
        have g2 : decide (0 < j) = false := decide_eq_false (by omega)
        clear s0 hE1 hE2 j0
        go_wp2_with fail
        refine HD.out.mono ?_; rintro e w9 ⟨rfl, b9⟩
        clear HD m2 m3 m4
        go_wp2_with fail
        go_roundw
        case rel =>
          obtain ⟨v1, v2, v3⟩ := hN.out _ b9
          exact ⟨j + 1, hlt, by go_num, by rw [J0.out]; exact congrArg Value.string HE.out, v1, v2, v3⟩
        case measure => simp [RowKit.intOf]; omega
      · have HE := Lib.hid (hE2.out j m (by omega) M1.out)
        rw [← M7.out] at HE
        have g1 : decide ((j : Int) > 0) = true := decide_eq_true (by omega)
        have g2 : decide (0 < j) = true := decide_eq_true (by omega)
        generalize eachB a n s k j = T at *
        clear hE1 hE2
        go_wp2_with fail
        refine HD.out.mono ?_; rintro e w9 ⟨rfl, b9⟩
        clear HD m2 m3 m4
        go_wp2_with fail
        go_roundw
        case rel =>
          obtain ⟨v1, v2, v3⟩ := hN.out _ b9
          exact ⟨j + 1, hlt, by go_num, congrArg Value.string HE.out, v1, v2, v3⟩
        case measure => simp [RowKit.intOf]; omega
    · obtain rfl : j = n := by omega
      have hlt' : decide (j < j) = false := decide_eq_false hlt
      have hlt2 : decide ((j : Int) < j) = false := decide_eq_false (by omega)
      generalize eachB a j s k j = T at *
      clear hM hES hE1 hE2 DG R5 hA B5
      go_wp2_with fail
      refine (PE.out _).mono ?_; rintro e w5 ⟨⟨a5, c5, rfl, o5⟩, y5⟩
      have x5 := (Below.refl w5.heap.size w5).alloc (Nat.le_refl _) (.cells #[.slice a5 j c5, .int .i64 0] 25)
      have w5x := below_next x5 y5
      have hB5 := Lib.hid (hB.out.kept w5x)
      have r5 := r1.out.kept w5x
      have BW5 := Lib.hid (below_next w5x BW.out)
      have HS := Lib.hid (SM.out _ _ _ _ _ r5 ((nrow_of_own o5).kept x5))
      have hC := Lib.hid (Blk.new w5 #[.slice a5 j c5, .int .i64 0] 25)
      obtain ⟨g5, hg5⟩ : ∃ g5, g5 = w5.heap.size := ⟨_, rfl⟩
      rw [← hg5] at hC
      have p0 := hB5.out.cell 0
      have p1 := hB5.out.cell 1
      have p2 := hC.out.cell 0
      have p3 := hC.out.cell 1
      simp only [List.getElem?_toArray, List.getElem?_cons_zero, List.getElem?_cons_succ] at p0 p1 p2 p3
      clear r5 x5 w5x y5 o5 hB r1 BW PE SM
      go_upto_region 18 with fail
      rw [← hg5]
      generalize w5.alloc (.cells #[.slice a5 j c5, .int .i64 0] 25) = W5 at *
      clear hg5
      go_wp2_with fail
      refine HS.out.mono ?_; rintro e w6 ⟨rfl, y6⟩
      have B6 := Lib.hid (below_next y6 BW5.out)
      clear HS y6 BW5 p0 p1 p2 p3 hB5 hC
      go_wp2_with fail
      refine (K.out _ B6.out).mono ?_; rintro e w9 ⟨rfl, b9⟩
      have B9 := Lib.hid (below_next b9 B6.out)
      clear b9 B6
      go_wp2_with fail
      go_ret
      exact ⟨rfl, B9.out⟩
open Go Go.RowKit Go.Lib in
theorem walk (xa xl xs turn : Int) (w : World) (hE : TabW w) (ha : (Lit.int .u8 xa).wf = true) (hl : (Lit.int .u8 xl).wf = true) (hs : (Lit.int .u8 xs).wf = true) (ht : (Lit.int .i64 turn).wf = true) :
    Calls Tryd.prog 9 #[.int .u8 xa, .int .u8 xl, .int .u8 xs, .int .i64 turn] w fun e w' => e = .returned (.bool true) ∧ Below w.heap.size w w' := by
  have K : Hid (∀ w1, Below w.heap.size w w1 → Calls Tryd.prog 10 #[] w1 fun e w' => e = .returned (.bool true) ∧ Below w1.heap.size w1 w') := fun w1 hb => known_any w1 (hE.next hb)
  have ra := wf_u8 ha
  have rl := wf_u8 hl
  have rs := wf_u8 hs
  obtain ⟨na, rfl⟩ := Int.eq_ofNat_of_zero_le ra.1
  obtain ⟨nl, rfl⟩ := Int.eq_ofNat_of_zero_le rl.1
  obtain ⟨ns, rfl⟩ := Int.eq_ofNat_of_zero_le rs.1
  obtain ⟨U, k, h1, h2, h3, _, _, h4⟩ := mod_pick turn (nl / (ns % 9 + 1) + 1) (Nat.succ_pos _) (by have : nl / (ns % 9 + 1) ≤ nl := Nat.div_le_self _ _; omega)
  exact counts na nl ns na nl (ns % 9 + 1) (na + nl) (nl / (ns % 9 + 1) + 1) U k turn w K rfl rfl (by unfold Hid; omega) (by omega) (by omega) (by omega) (by omega) rfl rfl h1 h2 h4 h3


set_option maxRecDepth 100000 in
theorem lifted (os : Os) (started : os.Started) (H : Type) (enc : TypeId × Value → H) :
    ReturnsInHanded {} Tryd.checked os 9 .any (fun w args => (Rows.indexesCountsSpec.pre enc Tryd.prog Tryd.f9 Rows.indexesCountsRow.domain false w args ∧ laidMetH Tryd.prog laid6 w) ∧ sizedMet enc Tryd.prog Tryd.f9 (OpenSpec.ofChange Rows.indexesCountsSpec) false w args) (Rows.indexesCountsSpec.post enc Tryd.prog Tryd.f9 false true false false) := by
  refine laid_lift (C := Tryd.checked) (X := fun w _ => laidMetH Tryd.prog laid6 w) (fun _ _ _ hh h => h.of_heap hh) own started (by kernel_rfl) Tryd.func9
    (ChangeSpec.witness_shaped (enc := enc) (C := Tryd.checked) (os := os) (X := fun w _ => laidMetH Tryd.prog laid6 w) false (World.laidAll Tryd.prog os laid6) #[.int .u8 0, .int .u8 0, .int .u8 0, .int .i64 0] 8 (World.laidAll_os _ _ _)
      (World.shaped_of_ZipB (by kernel_rfl) (by kernel_rfl)) (by kernel_rfl) (by kernel_rfl) (by kernel_rfl)
      (by rw [MakeChecks.laidMetH_plain _ _ _ (by kernel_rfl)]; exact laidMet_laidAll _ (by kernel_rfl) (by kernel_rfl))) ?_
  intro W base args ds gs before hval0 hW hsz0 hL hS
  have hE := env6_of hL hS
  have hval : ∀ (j : Nat) t v, Tryd.f9.params[j]? = some t → args[j]? = some v → Value.okWide Tryd.prog W .any base t v := hval0
  have hW' := hW
  obtain ⟨p, q, hA0, hV, rfl, hfz, hnd⟩ := hW
  have hA : DataW.TrodAll enc Tryd.prog W 0 (fun _ => true) true Tryd.f9.params.toList args.toList ds p := hA0
  rw [Tryd.params9] at hA hval
  obtain ⟨v0, vs0, d0, ds0, p0, q0, hargs, rfl, rfl, h0, r0⟩ := trodAll_cons hA
  obtain ⟨v1, vs1, d1, ds1, p1, q1, rfl, rfl, rfl, h1, r1⟩ := trodAll_cons r0
  obtain ⟨v2, vs2, d2, ds2, p2, q2, rfl, rfl, rfl, h2, r2⟩ := trodAll_cons r1
  obtain ⟨v3, vs3, d3, ds3, p3, q3, rfl, rfl, rfl, h3, r3⟩ := trodAll_cons r2
  obtain ⟨rfl, rfl, rfl⟩ := trodAll_nil r3
  obtain rfl : args = #[v0, v1, v2, v3] := by cases args; simp_all
  obtain ⟨xa, rfl, rfl, rfl, w0⟩ := open_int Tryd.underlying5 (hval 0 5 v0 rfl rfl) h0
  obtain ⟨xl, rfl, rfl, rfl, w1⟩ := open_int Tryd.underlying5 (hval 1 5 v1 rfl rfl) h1
  obtain ⟨xs, rfl, rfl, rfl, w2⟩ := open_int Tryd.underlying5 (hval 2 5 v2 rfl rfl) h2
  obtain ⟨turn, rfl, rfl, rfl, w3⟩ := open_int Tryd.underlying3 (hval 3 3 v3 rfl rfl) h3
  clear hA0 hval0
  refine (walk xa xl xs turn W hE w0 w1 w2 w3).mono fun e W' ⟨he, hb⟩ => ?_
  subst he
  exact ⟨_, rfl, law_post (by kernel_rfl) (by kernel_rfl) rfl Tryd.underlying4 rfl hW' rfl hb⟩

theorem over : Rows.indexesCountsRow.holds Tryd.pinned (OpenSpec.ofChange Rows.indexesCountsSpec) :=
  OpenClaim.holds_of_wide 9 Tryd.f9 rfl rfl rfl rfl rfl rfl rfl ⟨rfl, rfl, rfl, rfl, rfl⟩ rfl rfl rfl rfl rfl (by kernel_rfl) Tryd.func9 (by kernel_rfl)
    (of_decide_eq_true (by kernel_rfl)) (by unfold Func.isWrapper; first | (rw [if_pos (by decide +kernel)]; kernel_rfl) | (rw [if_neg (by decide +kernel)]; exact ⟨rfl, rfl⟩))
    (fun os started H enc _ => lifted os started H enc)

theorem proved : Rows.IndexesCountsCardSaid :=
  Claim7.holds_tied_plain_at .later [] _ true _ false over (fun _ h => by cases h) (by kernel_rfl) (fun _ h => by cases h) indexesCounts_row_tie rfl ⟨rfl, rfl⟩ (by kernel_rfl) rfl
    (fun f fn hf hfn => by
      obtain rfl : f = 9 := Option.some.inj ((show Tryd.prog.funcNamed "ganger/gangerlaw06.IndexesCounts" = some 9 by kernel_rfl).symm.trans hf) |>.symm
      obtain rfl : fn = Tryd.f9 := (Option.some.inj (Tryd.func9.symm.trans hfn)).symm
      exact ⟨by kernel_rfl, fun j t ht => by
        rw [Tryd.params9] at ht
        have hm : t ∈ [5, 5, 5, 3] := by simpa using Array.mem_of_getElem? ht
        have hall : ([5, 5, 5, 3].all fun u => !Tryd.prog.wantsStandIn u) = true := by kernel_rfl
        exact (show Tryd.prog.wantsStandIn t = false by simpa using List.all_eq_true.1 hall t hm)⟩)
    (by kernel_rfl)
#print axioms proved
end Go.Proofs.YtdhkinknhjpjmaaDoor.indexesCounts
