/-
  IndexesParses: any text says what the chapter says, or is refused where it says: so the law returns true for every input, the listed tables of Go's library reading as the program's text lays them.
-/
import Derived.Test.YtdhkinknhjpjmaaDoorIxX
import Derived.Test.YtdhkinknhjpjmaaDoorRows
import Derived.Test.YtdhkinknhjpjmaaDoorArgs2
import Derived.Test.YtdhkinknhjpjmaaDoorLaid
import Derived.Test.YtdhkinknhjpjmaaDoorCards
import Derived.Test.YtdhkinknhjpjmaaDoorTie
import Derived.MakeChecks
import Derived.SevenTiedAt
namespace Go.Proofs.YtdhkinknhjpjmaaDoor.indexesParses
open Go.ChangeShapes Go.WideShapes Go.ChangeAt Go.RowKit
set_option linter.unusedVariables false

theorem own : ownKnob Tryd.prog.godebug = none := by kernel_rfl

open Go Go.RowKit Go.Lib in
set_option maxRecDepth 100000 in
set_option maxHeartbeats 4000000 in
theorem walk (s : ByteArray) (w : World) (hE : TabW w) (hs : s.size ≤ 9223372036854775807) :
    Calls Tryd.prog 3 #[.string s] w fun e w' => e = .returned (.bool true) ∧ Below w.heap.size w w' := by
  have K : Hid (∀ w1, Below w.heap.size w w1 → Calls Tryd.prog 10 #[] w1 fun e w' => e = .returned (.bool true) ∧ Below w1.heap.size w1 w') := fun w1 hb => known_any w1 (hE.next hb)
  by_cases h3 : 600 < s.size
  · have t : decide (600 < s.size) = true := decide_eq_true h3
    have t2 : decide (600 < (s.size : Int)) = true := decide_eq_true (by omega)
    go_enter Tryd.func3, Tryd.ntmps3
    go_wp2_with fail
    refine (K.out _ (Below.refl _ _)).mono ?_; rintro e w1 ⟨rfl, b1⟩
    go_wp2_with fail
    go_ret
    exact ⟨rfl, b1⟩
  · have t : decide (600 < s.size) = false := decide_eq_false h3
    have t2 : decide (600 < (s.size : Int)) = false := decide_eq_false (by omega)
    obtain ⟨L, hL⟩ : ∃ L, L = listO (parseM s.data.toList) := ⟨_, rfl⟩
    obtain ⟨M, hM⟩ : ∃ M, M = mostO (parseM s.data.toList) := ⟨_, rfl⟩
    obtain ⟨P, hP⟩ : ∃ P, P = posO (parseM s.data.toList) := ⟨_, rfl⟩
    obtain ⟨E, hEE⟩ : ∃ E, E = errO (parseM s.data.toList) := ⟨_, rfl⟩
    have hLl : L.length ≤ 1001 := by rw [hL]; exact listO_len _
    have PA : Hid (∀ w, Calls Tryd.prog 11 #[.string s] w fun e w' => (∃ a c, e = .returned (.tuple #[.agg #[.slice a L.length c, .int .i64 M], .int .i64 P, .int .i64 E]) ∧ NOwn w' w.heap.size (.slice a L.length c) (ofN L)) ∧ Below w.heap.size w w') := fun w => parse_at s w (by omega) L M P E ⟨hM.symm, hP.symm, hEE.symm, hL.symm⟩
    have PB : Hid (∀ w, Calls Tryd.prog 12 #[.string s] w fun e w' => (∃ a c, e = .returned (.tuple #[.agg #[.slice a L.length c, .int .i64 M], .int .i64 P, .int .i64 E]) ∧ NOwn w' w.heap.size (.slice a L.length c) (ofN L)) ∧ Below w.heap.size w w') := fun w => refParse_at s w (by omega) L M P E ⟨hM.symm, hP.symm, hEE.symm, hL.symm⟩
    have SM : Hid (∀ (w : World) (a a' : Option Addr) (c c' : Nat) {b b' : Nat}, NOwn w b (.slice a L.length c) (ofN L) → NOwn w b' (.slice a' L.length c') (ofN L) → Calls Tryd.prog 13 #[.agg #[.slice a L.length c, .int .i64 M], .agg #[.slice a' L.length c', .int .i64 M]] w fun e w' => e = .returned (.bool true) ∧ Below w.heap.size w w') := fun w a a' c c' b b' h h' => by
      have := same_any _ _ (ofN L) (ofN L) M M w (by rw [ofN_len]; omega) (by rw [ofN_len]; omega) (nrow_of_own h) (nrow_of_own h')
      simpa using this
    have q1 : ((P : Int) != P) = false := by simp
    have q1n : (P != P) = false := by simp
    have q2 : (E != E) = false := by simp
    clear hL hM hP hEE hE
    go_enter Tryd.func3, Tryd.ntmps3
    go_wp2_with fail
    refine (PA.out w).mono ?_; rintro e w1 ⟨⟨a1, c1, rfl, o1⟩, b1⟩
    have z1 : w.heap.size ≤ w1.heap.size := b1.size
    have hA := Lib.hid (Blk.new w1 #[.slice a1 L.length c1, .int .i64 M] 25)
    have x1 := (Below.refl w1.heap.size w1).alloc (Nat.le_refl _) (.cells #[.slice a1 L.length c1, .int .i64 M] 25)
    have O1 := Lib.hid (own_older o1 x1)
    have B1 := Lib.hid (below_next x1 b1)
    have OLT := Lib.hid (fun q hq => o1.lt q hq)
    have zz : (w1.alloc (.cells #[.slice a1 L.length c1, .int .i64 M] 25)).heap.size = w1.heap.size + 1 := by simp
    obtain ⟨g1, hg1⟩ : ∃ g1, g1 = w1.heap.size := ⟨_, rfl⟩
    rw [← hg1] at hA OLT zz z1
    clear o1 b1 x1
    go_wp2_with fail
    rw [← hg1]
    generalize w1.alloc (.cells #[.slice a1 L.length c1, .int .i64 M] 25) = W1 at *
    clear hg1
    refine (PB.out W1).mono ?_; rintro e w2 ⟨⟨a2, c2, rfl, o2⟩, b2⟩
    have z2 : W1.heap.size ≤ w2.heap.size := b2.size
    have x2 := (Below.refl w2.heap.size w2).alloc (Nat.le_refl _) (.cells #[.slice a2 L.length c2, .int .i64 M] 25)
    have y2 := below_next x2 b2
    have hB := Lib.hid (Blk.new w2 #[.slice a2 L.length c2, .int .i64 M] 25)
    have A2 := Lib.hid (hA.out.kept y2)
    have O1b := Lib.hid (own_older O1.out y2)
    have O2 := Lib.hid (own_older o2 x2)
    have B2 := Lib.hid (below_next y2 B1.out)
    obtain ⟨g2, hg2⟩ : ∃ g2, g2 = w2.heap.size := ⟨_, rfl⟩
    rw [← hg2] at hB z2
    have HS := Lib.hid (SM.out _ _ _ _ _ O1b.out O2.out)
    have k0 := A2.out.cell 0
    have k1 := A2.out.cell 1
    have j0 := hB.out.cell 0
    have j1 := hB.out.cell 1
    simp only [List.getElem?_toArray, List.getElem?_cons_zero, List.getElem?_cons_succ] at k0 k1 j0 j1
    clear o2 b2 x2 y2 hA O1 B1
    go_upto_region 5 with fail
    rw [← hg2]
    generalize w2.alloc (.cells #[.slice a2 L.length c2, .int .i64 M] 25) = W2 at *
    clear hg2
    go_wp2_with fail
    refine HS.out.mono ?_; rintro e w3 ⟨rfl, b3⟩
    have A3 := Lib.hid (A2.out.kept b3)
    have BX3 := Lib.hid (hB.out.kept b3)
    have O13 := Lib.hid (own_older O1b.out b3)
    have O23 := Lib.hid (own_older O2.out b3)
    have B3 := Lib.hid (below_next b3 B2.out)
    clear b3 HS k0 k1 j0 j1 A2 hB O1b O2 B2 PB
    go_wp2_with fail
    go_loopw [9] (fun i wr => ∃ (k : Nat), k ≤ L.length ∧ i = .int .i64 k ∧ (a1 = none ∧ L.length = 0 ∨ ∃ g cur, a1 = some ⟨g, 0, none⟩ ∧ w.heap.size ≤ g ∧ g < g1 ∧ Hid (Blk wr g cur 3) ∧ L.length ≤ cur.size) ∧ Hid (Blk wr g1 #[.slice a1 L.length c1, .int .i64 M] 25) ∧ Hid (Blk wr g2 #[.slice a2 L.length c2, .int .i64 M] 25) ∧ Hid (NOwn wr W1.heap.size (.slice a2 L.length c2) (ofN L)) ∧ Below w.heap.size w wr) (fun i _ => L.length - (RowKit.intOf i).toNat)
    case atStart =>
      refine ⟨0, Nat.zero_le _, rfl, ?_, A3.out, BX3.out, O23.out, B3.out⟩
      obtain ⟨_, ⟨e, e2⟩ | ⟨g, cap, cur, e, hb, hg, h1, h2, h3', h4⟩⟩ := O13.out
      · injection e with e1; exact .inl ⟨e1, by rw [← ofN_len]; exact e2⟩
      · injection e with e1
        rw [ofN_len] at h1
        exact .inr ⟨g, cur, e1, hb, (OLT.out g (by rw [e1]; rfl)).2, hg, by omega⟩
    case round =>
      obtain ⟨k, hk, rfl, hrow, hbA, hbB, hown, hBW⟩ := hrel
      have k0 := hbA.out.cell 0
      have kf := hbA.out.free 0
      simp only [List.getElem?_toArray, List.getElem?_cons_zero] at k0
      have BW := Lib.hid hBW
      by_cases hlt : k < L.length
      · rcases hrow with ⟨_, h0⟩ | ⟨g, cur, rfl, hg0, hg1, hcur, hcl⟩
        · omega
        · have hlt' : decide (k < L.length) = true := decide_eq_true hlt
          have hlti : decide ((k : Int) < L.length) = true := decide_eq_true (by omega)
          have hlt2 : (k : Int) < L.length := by omega
          have cx : wr.cell? ⟨g, k, none⟩ = some (cur[k]'(by omega)) := by
            rw [hcur.out.cell k]; simp [Array.getElem?_eq_getElem (show k < cur.size by omega)]
          have fx := hcur.out.free k
          have n1 := Lib.hid (hcur.out.set k (.int .i64 (-7)))
          have n2 := Lib.hid (hbA.out.other (a := ⟨g, k, none⟩) (by show g1 ≠ g; omega) (.int .i64 (-7)))
          have n3 := Lib.hid (hbB.out.other (a := ⟨g, k, none⟩) (by show g2 ≠ g; omega) (.int .i64 (-7)))
          have n4 := Lib.hid (own_set hown.out (b := g) (o := k) (by omega) (.int .i64 (-7)))
          have n5 := Lib.hid (BW.out.setCell (p := ⟨g, k, none⟩) (by show w.heap.size ≤ g; omega) (.int .i64 (-7)))
          have hsz : Hid (L.length ≤ (cur.setIfInBounds k (.int .i64 (-7))).size) := by unfold Hid; simpa using hcl
          clear hbA hbB hown hBW BW hcur
          generalize cur[k]'(by omega) = old at *
          go_wp2_with fail
          go_roundw
          case rel => exact ⟨k + 1, hlt, by go_num, .inr ⟨g, _, rfl, hg0, hg1, n1.out, hsz.out⟩, n2.out, n3.out, n4.out, n5.out⟩
          case measure => simp [RowKit.intOf]; omega
      · obtain rfl : k = L.length := by omega
        have hlt' : decide (L.length < L.length) = false := decide_eq_false hlt
        have hlti : decide ((L.length : Int) < L.length) = false := decide_eq_false (by omega)
        have OB := hown
        have BX := hbB
        clear hrow hbA hown hBW hbB
        go_wp2_with fail
        refine (PA.out _).mono ?_; rintro e w5 ⟨⟨a5, c5, rfl, o5⟩, b5⟩
        have x5 := (Below.refl w5.heap.size w5).alloc (Nat.le_refl _) (.cells #[.slice a5 L.length c5, .int .i64 M] 25)
        have y5 := below_next x5 b5
        have O5 := Lib.hid (own_older o5 x5)
        have O6 := Lib.hid (own_older OB.out y5)
        have BX5 := Lib.hid (BX.out.kept y5)
        have B5 := Lib.hid (below_next y5 BW.out)
        have hs5 := Lib.hid ((SM.out _ _ _ _ _ O5.out O6.out))
        have j0 := BX5.out.cell 0
        have j1 := BX5.out.cell 1
        simp only [List.getElem?_toArray, List.getElem?_cons_zero, List.getElem?_cons_succ] at j0 j1
        clear o5 b5 x5 y5 OB BX BW O5 O6 BX5
        go_wp2_with fail
        refine hs5.out.mono ?_; rintro e w6 ⟨rfl, b6⟩
        have B6 := Lib.hid (below_next b6 B5.out)
        clear b6 B5 hs5 j0 j1
        go_wp2_with fail
        refine (K.out _ B6.out).mono ?_; rintro e w7 ⟨rfl, b7⟩
        have B7 := Lib.hid (below_next b7 B6.out)
        clear b7 B6
        go_wp2_with fail
        go_ret
        exact ⟨rfl, B7.out⟩


set_option maxRecDepth 100000 in
theorem lifted (os : Os) (started : os.Started) (H : Type) (enc : TypeId × Value → H) :
    ReturnsInHanded {} Tryd.checked os 3 .any (fun w args => (Rows.indexesParsesSpec.pre enc Tryd.prog Tryd.f3 Rows.indexesParsesRow.domain false w args ∧ laidMetH Tryd.prog laid6 w) ∧ sizedMet enc Tryd.prog Tryd.f3 (OpenSpec.ofChange Rows.indexesParsesSpec) false w args) (Rows.indexesParsesSpec.post enc Tryd.prog Tryd.f3 false true false false) := by
  refine laid_lift (C := Tryd.checked) (X := fun w _ => laidMetH Tryd.prog laid6 w) (fun _ _ _ hh h => h.of_heap hh) own started (by kernel_rfl) Tryd.func3
    (ChangeSpec.witness_shaped (enc := enc) (C := Tryd.checked) (os := os) (X := fun w _ => laidMetH Tryd.prog laid6 w) false (World.laidAll Tryd.prog os laid6) #[.string ByteArray.empty] 8 (World.laidAll_os _ _ _)
      (World.shaped_of_ZipB (by kernel_rfl) (by kernel_rfl)) (by kernel_rfl) (by kernel_rfl) (by kernel_rfl)
      (by rw [MakeChecks.laidMetH_plain _ _ _ (by kernel_rfl)]; exact laidMet_laidAll _ (by kernel_rfl) (by kernel_rfl))) ?_
  intro W base args ds gs before hval0 hW hsz0 hL hS
  have hE := env6_of hL hS
  have hval : ∀ (j : Nat) t v, Tryd.f3.params[j]? = some t → args[j]? = some v → Value.okWide Tryd.prog W .any base t v := hval0
  have hW' := hW
  obtain ⟨p, q, hA0, hV, rfl, hfz, hnd⟩ := hW
  have hA : DataW.TrodAll enc Tryd.prog W 0 (fun _ => true) true Tryd.f3.params.toList args.toList ds p := hA0
  rw [Tryd.params3] at hA hval
  obtain ⟨v0, vs0, d0, ds0, p0, q0, hargs, rfl, rfl, h0, r0⟩ := trodAll_cons hA
  obtain ⟨rfl, rfl, rfl⟩ := trodAll_nil r0
  obtain rfl : args = #[v0] := by cases args; simp_all
  obtain ⟨s, rfl, w0⟩ := open_string_arg Tryd.underlying9 (hval 0 9 v0 rfl rfl) h0
  clear hA0 hval0
  refine (walk s W hE w0).mono fun e W' ⟨he, hb⟩ => ?_
  subst he
  exact ⟨_, rfl, law_post (by kernel_rfl) (by kernel_rfl) rfl Tryd.underlying4 rfl hW' rfl hb⟩

theorem over : Rows.indexesParsesRow.holds Tryd.pinned (OpenSpec.ofChange Rows.indexesParsesSpec) :=
  OpenClaim.holds_of_wide 3 Tryd.f3 rfl rfl rfl rfl rfl rfl rfl ⟨rfl, rfl, rfl, rfl, rfl⟩ rfl rfl rfl rfl rfl (by kernel_rfl) Tryd.func3 (by kernel_rfl)
    (of_decide_eq_true (by kernel_rfl)) (by unfold Func.isWrapper; first | (rw [if_pos (by decide +kernel)]; kernel_rfl) | (rw [if_neg (by decide +kernel)]; exact ⟨rfl, rfl⟩))
    (fun os started H enc _ => lifted os started H enc)

theorem proved : Rows.IndexesParsesCardSaid :=
  Claim7.holds_tied_plain_at .later [] _ true _ false over (fun _ h => by cases h) (by kernel_rfl) (fun _ h => by cases h) indexesParses_row_tie rfl ⟨rfl, rfl⟩ (by kernel_rfl) rfl
    (fun f fn hf hfn => by
      obtain rfl : f = 3 := Option.some.inj ((show Tryd.prog.funcNamed "ganger/gangerlaw06.IndexesParses" = some 3 by kernel_rfl).symm.trans hf) |>.symm
      obtain rfl : fn = Tryd.f3 := (Option.some.inj (Tryd.func3.symm.trans hfn)).symm
      exact ⟨by kernel_rfl, fun j t ht => by
        rw [Tryd.params3] at ht
        have hm : t ∈ [9] := by simpa using Array.mem_of_getElem? ht
        have hall : ([9].all fun u => !Tryd.prog.wantsStandIn u) = true := by kernel_rfl
        exact (show Tryd.prog.wantsStandIn t = false by simpa using List.all_eq_true.1 hall t hm)⟩)
    (by kernel_rfl)
#print axioms proved
end Go.Proofs.YtdhkinknhjpjmaaDoor.indexesParses
