/-
  DependParses: any text is the dependency that the chapter says, or is refused as it says: so the law returns true for every input, the listed tables of Go's library reading as the program's text lays them.
-/
import Derived.Test.YtpobghdiecfoaaaDoorDeW8
import Derived.Test.YtpobghdiecfoaaaDoorDeAr
import Derived.Test.YtpobghdiecfoaaaDoorLaw
import Derived.Test.YtpobghdiecfoaaaDoorDeRqr
import Derived.Test.YtpobghdiecfoaaaDoorDeSm
import Derived.Test.YtpobghdiecfoaaaDoorDeSp
import Derived.Test.YtpobghdiecfoaaaDoorRows
import Derived.Test.YtpobghdiecfoaaaDoorArgs2
import Derived.Test.YtpobghdiecfoaaaDoorLaid
import Derived.Test.YtpobghdiecfoaaaDoorCards
import Derived.Test.YtpobghdiecfoaaaDoorTie
import Derived.MakeChecks
import Derived.SevenTiedAt
namespace Go.Proofs.YtpobghdiecfoaaaDoor.dependParses
open Go.ChangeShapes Go.WideShapes Go.ChangeAt Go.RowKit
set_option linter.unusedVariables false

theorem own : ownKnob Tryd.prog.godebug = none := by kernel_rfl

open Go Go.RowKit Go.Lib
set_option maxRecDepth 100000 in
set_option maxHeartbeats 8000000 in
theorem walk (s : ByteArray) (w : World) (hE : Env8 w) (hs : s.size ≤ maxLen) :
    Calls Tryd.prog 4 #[.string s] w fun e w' => e = .returned (.bool true) ∧ Below w.heap.size w w' := by
  have K : Hid (∀ w1, Below w.heap.size w w1 → Calls Tryd.prog 11 #[] w1 fun e w' => e = .returned (.bool true) ∧ Below w1.heap.size w1 w') := fun w1 hb => known8_any w1 (hE.next hb)
  have HE : Hid (∀ w1, Below w.heap.size w w1 → Env8 w1) := fun w1 hb => hE.next hb
  by_cases hbig : 2000 < s.size
  · have q1 : decide (2000 < s.size) = true := decide_eq_true hbig
    have q2 : decide ((s.size : Int) > 2000) = true := decide_eq_true (by omega)
    clear hE hs
    go_enter Tryd.func4, Tryd.ntmps4
    go_wp2_with fail
    refine (K.out w (Below.refl _ _)).mono ?_; rintro e w2 ⟨rfl, b2⟩
    have HB2 := Lib.hid b2
    clear b2
    go_wp2_with fail
    go_returns
    exact ⟨rfl, HB2.out⟩
  have q1 : decide (2000 < s.size) = false := decide_eq_false hbig
  have q2 : decide ((s.size : Int) > 2000) = false := decide_eq_false (by omega)
  obtain ⟨t, ht⟩ : ∃ t, t = s.data.toList := ⟨_, rfl⟩
  have hst : s = strB t := by rw [ht]; rfl
  have htl : t.length ≤ 1000000 := by
    have : t.length = s.size := by rw [ht]; exact Array.length_toList
    omega
  obtain ⟨pa, pl, px, hpe⟩ : ∃ pa pl px, parseA8 t = (pa, pl, px) := ⟨_, _, _, rfl⟩
  have PT : Hid (∀ w1, Below w.heap.size w w1 → Calls Tryd.prog 21 #[.string s] w1 fun e w2 => DepTo (pa, pl, px) w1.heap.size e w2 ∧ Below w1.heap.size w1 w2) := fun w1 hb => by
    obtain ⟨m, hm⟩ := (HE.out w1 hb).1
    rw [hst, ← hpe]
    exact parse8_any t m w1 htl hm
  have PR : Hid (∀ w1, Below w.heap.size w w1 → Calls Tryd.prog 22 #[.string s] w1 fun e w2 => DepTo (pa, pl, px) w1.heap.size e w2 ∧ Below w1.heap.size w1 w2) := fun w1 hb => by
    rw [hst, ← hpe, parse_eq8]
    exact rparse8_any t w1 htl
  obtain ⟨LA, hLA⟩ : ∃ n, n = pl.length := ⟨_, rfl⟩
  have HLA := Lib.hid hLA
  clear hE hs ht hst htl hpe hbig
  go_enter Tryd.func4, Tryd.ntmps4
  go_wp2_with fail
  refine (PT.out w (Below.refl _ _)).mono ?_; rintro e w3 ⟨hd3, b3⟩
  obtain ⟨va, vc, l3, rfl, ho3, hr3, hn3⟩ := hd3.out
  rw [← hLA] at ho3 hr3 ⊢
  have HN3 := Lib.hid hn3
  have HL3 : Hid (l3.length = LA) := by unfold Hid; rw [hLA, ← hn3, ndsOf_len]
  obtain ⟨g3, hg3⟩ : ∃ g, g = w3.heap.size := ⟨_, rfl⟩
  obtain ⟨W3, hW3⟩ : ∃ x, x = w3.alloc (.cells #[.bool pa, .slice va LA vc] 24) := ⟨_, rfl⟩
  have hbW3 : Below w3.heap.size w3 W3 := by rw [hW3]; exact (Below.refl _ _).alloc (Nat.le_refl _) _
  have HK3 : Hid (Blk W3 g3 #[.bool pa, .slice va LA vc] 24) := by unfold Hid; rw [hW3, hg3]; exact Blk.new _ _ _
  have HB3 := Lib.hid (below_next hbW3 b3)
  have HO3 := Lib.hid (ho3.older hbW3)
  have HJL : Hid (∀ p ∈ l3, ∀ g, p.2.1.ownBlock = some g → g < g3) := fun p hp g hg => by rw [hg3]; exact ((ho3.jobs p hp).lt g hg).2
  have HSM3 : Hid (NRw W3 (.slice va LA vc) l3) := hr3.kept hbW3
  have HG3W : Hid (w.heap.size ≤ g3) := by unfold Hid; rw [hg3]; exact b3.size
  have HW3 := Lib.hid hW3
  have HG3 := Lib.hid hg3
  clear hd3 b3 ho3 hr3 hn3 hg3 hW3 hbW3 hLA
  go_upto_region 4 with fail
  rw [← HW3.out, ← HG3.out]
  clear HW3
  go_wp2_with fail
  refine (PR.out W3 HB3.out).mono ?_; rintro e w5 ⟨hd5, b5⟩
  obtain ⟨vb, vd, l5, rfl, ho5, hr5, hn5⟩ := hd5.out
  rw [← HLA.out] at ho5 hr5 ⊢
  have HN5 := Lib.hid hn5
  have HL5 : Hid (l5.length = LA) := by unfold Hid; rw [HLA.out, ← hn5, ndsOf_len]
  obtain ⟨g5, hg5⟩ : ∃ g, g = w5.heap.size := ⟨_, rfl⟩
  obtain ⟨W5, hW5⟩ : ∃ x, x = w5.alloc (.cells #[.bool pa, .slice vb LA vd] 24) := ⟨_, rfl⟩
  have hbW5 : Below w5.heap.size w5 W5 := by rw [hW5]; exact (Below.refl _ _).alloc (Nat.le_refl _) _
  have HK5 : Hid (Blk W5 g5 #[.bool pa, .slice vb LA vd] 24) := by unfold Hid; rw [hW5, hg5]; exact Blk.new _ _ _
  have HB35 := Lib.hid (below_next hbW5 b5)
  have HO5 := Lib.hid (ho5.older hbW5)
  have HR5 := Lib.hid (hr5.kept hbW5)
  have HB5 := Lib.hid (below_next HB35.out HB3.out)
  have HK35 := Lib.hid (HK3.out.kept HB35.out)
  have HO35 := Lib.hid (SpA.of (HO3.out.older HB35.out))
  have HR35 := Lib.hid (HSM3.out.kept HB35.out)
  have HGG : Hid (w.heap.size ≤ g3 ∧ g3 < W3.heap.size ∧ W3.heap.size ≤ g5) := by
    refine ⟨HG3W.out, HK3.out.lt, ?_⟩
    rw [hg5]; exact b5.size
  have HW5 := Lib.hid hW5
  have HG5 := Lib.hid hg5
  clear hd5 b5 ho5 hr5 hn5 hg5 hW5 hbW5 HK3 HO3 HSM3 HB3
  go_upto_region 5 with fail
  rw [← HW5.out, ← HG5.out]
  clear HW5 HG5
  have x0 := HK35.out.cell 0
  have x1 := HK35.out.cell 1
  have y0 := HK5.out.cell 0
  have y1 := HK5.out.cell 1
  simp at x0 x1 y0 y1
  have SM : Hid (Calls Tryd.prog 20 #[.agg #[.bool pa, .slice va LA vc], .agg #[.bool pa, .slice vb LA vd]] W5 fun e w' => e = .returned (.bool true) ∧ Below W5.heap.size W5 w') := by
    have h := same8_any pa pa (.slice va LA vc) (.slice vb LA vd) l3 l5 W5 HR35.out HR5.out
    have hb : decide (pa = pa ∧ ndsOf l3 = ndsOf l5) = true := decide_eq_true ⟨rfl, HN3.out.trans HN5.out.symm⟩
    rw [hb] at h
    exact h
  have q3 : (px != px) = false := by simp
  go_wp2_with fail
  refine SM.out.mono ?_; rintro e w6 ⟨rfl, b6⟩
  have HB6 := Lib.hid (below_next b6 HB5.out)
  have HK36 := Lib.hid (HK35.out.kept b6)
  have HK56 := Lib.hid (HK5.out.kept b6)
  have HA6 := Lib.hid (HO35.out.older b6)
  have HO56 := Lib.hid (HO5.out.older b6)
  have HR56 := Lib.hid (HR5.out.kept b6)
  have HLEN : Hid (∀ p ∈ l3, p.2.2.length ≤ 1048576) := HR35.out.lens
  have hLAb : LA ≤ 1048576 := by have := HR35.out.len; have := HL3.out; omega
  clear b6 SM x0 x1 y0 y1 HB5 HK35 HK5 HO35 HO5 HR5 HR35 HB35 HG3
  obtain ⟨OW, hOW⟩ : ∃ O : Nat → Prop, O = fun q => w.heap.size ≤ q ∧ q < g3 := ⟨_, rfl⟩
  have HOW : Hid (∀ q, OW q ↔ w.heap.size ≤ q ∧ q < g3) := fun q => by rw [hOW]
  clear hOW
  have HKX : Hid (∀ w1, Chg OW w6 w1 → Blk w1 g3 #[.bool pa, .slice va LA vc] 24 ∧ Blk w1 g5 #[.bool pa, .slice vb LA vd] 24 ∧ NdOwn w1 W3.heap.size (.slice vb LA vd) l5 ∧ Below w.heap.size w w1) := fun w1 hc => by
    refine ⟨?_, ?_, ?_, ?_⟩
    · unfold Blk; rw [hc.block g3 HK36.out.lt (fun h => by have := (HOW.out g3).1 h; omega)]; exact HK36.out
    · unfold Blk; rw [hc.block g5 HK56.out.lt (fun h => by have := (HOW.out g5).1 h; have := HGG.out; omega)]; exact HK56.out
    · exact HO56.out.chg hc fun q h1 _ h => by have := (HOW.out q).1 h; have := HGG.out; omega
    · exact HB6.out.trans (hc.to_below HB6.out.size fun q hq h => by have := (HOW.out q).1 h; omega)
  go_wp2_with fail
  go_loopw [7] (fun iv wr => ∃ i : Nat, iv = .int .i64 (i : Nat) ∧ i ≤ LA ∧ Hid (SpA wr w.heap.size (.slice va LA vc) l3) ∧ Hid (Chg OW w6 wr)) (fun iv _ => LA - (RowKit.intOf iv).toNat)
  case atStart => exact ⟨0, rfl, Nat.zero_le _, HA6.out, Chg.refl _ _⟩
  case round =>
    clear HA6 HK36 HK56
    obtain ⟨i, rfl, hi, HSP, HC⟩ := hrel
    obtain ⟨hk3, hk5, _, _⟩ := HKX.out wr HC.out
    have x1 := hk3.cell 1
    simp at x1
    by_cases hlt : i < LA
    · have d1 : decide ((i : Int) < (LA : Int)) = true := decide_eq_true (by omega)
      have d1' : decide (i < LA) = true := decide_eq_true hlt
      have hii : (i : Int) < (LA : Int) := by omega
      have hil : i < l3.length := by rw [HL3.out]; exact hlt
      obtain ⟨g, rfl, c1⟩ := HSP.out.at hil
      have HMEM : Hid (l3[i] ∈ l3) := List.getElem_mem hil
      obtain ⟨p, hp⟩ : ∃ p, p = l3[i] := ⟨_, rfl⟩
      rw [← hp] at c1 HMEM
      obtain ⟨ja, jc, hpe, _⟩ := HSP.out.job HMEM.out
      obtain ⟨M, hM⟩ : ∃ M, M = p.2.2.length := ⟨_, rfl⟩
      have hMb : M ≤ 1048576 := by rw [hM]; exact HLEN.out p HMEM.out
      rw [hpe, ← hM] at c1
      have HAT : Hid (∀ w1, SpA w1 w.heap.size (.slice (some ⟨g, 0, none⟩) LA vc) l3 → w1.cell? ⟨g, i * 2 + 1, none⟩ = some (.slice ja M jc) ∧ ∀ k, k < M → ∃ gj, ja = some ⟨gj, 0, none⟩ ∧ OW gj ∧ (∃ x, w1.cell? ⟨gj, k, none⟩ = some x) ∧ w1.frozen? ⟨gj, k, none⟩ = false ∧ SpA (w1.setCell ⟨gj, k, none⟩ (.int .u32 0)) w.heap.size (.slice (some ⟨g, 0, none⟩) LA vc) l3) := fun w1 h => by
        obtain ⟨g', e, c⟩ := h.at hil
        injection e with e; injection e with e _ _; subst e
        rw [← hp, hpe, ← hM] at c
        refine ⟨c, fun k hk => ?_⟩
        obtain ⟨a, c', e1, h2⟩ := h.job HMEM.out
        rw [hpe] at e1
        injection e1 with e1 _ _
        obtain ⟨gj, e3, e4, e5, e6, e7, e8⟩ := h2 k (by rw [← hM]; exact hk)
        refine ⟨gj, by rw [e1, e3], (HOW.out gj).2 ⟨e5, HJL.out p HMEM.out gj e4⟩, e7, e8, h.put HMEM.out e4 k⟩
      clear hp hpe hM hk3 hk5
      obtain ⟨w9, hw9⟩ : ∃ x, x = wr := ⟨_, rfl⟩
      subst hw9
      go_wp2_with fail
      go_loopw [8] (fun kv wr => ∃ k : Nat, kv = .int .i64 (k : Nat) ∧ k ≤ M ∧ Hid (SpA wr w.heap.size (.slice (some ⟨g, 0, none⟩) LA vc) l3) ∧ Hid (Chg OW w6 wr)) (fun kv _ => M - (RowKit.intOf kv).toNat)
      case atStart => exact ⟨0, rfl, Nat.zero_le _, HSP.out, HC.out⟩
      case round =>
        clear HSP HC x1 c1
        obtain ⟨k, rfl, hk, HSP, HC⟩ := hrel
        obtain ⟨hk3, _, _, _⟩ := HKX.out wr HC.out
        have x1 := hk3.cell 1
        simp at x1
        obtain ⟨c1, hjb⟩ := HAT.out wr HSP.out
        by_cases hkm : k < M
        · have e1 : decide ((k : Int) < (M : Int)) = true := decide_eq_true (by omega)
          have e1' : decide (k < M) = true := decide_eq_true hkm
          have hkk : (k : Int) < (M : Int) := by omega
          obtain ⟨gj, rfl, hOg, ⟨x, hx⟩, hf, hput⟩ := hjb k hkm
          have HPUT := Lib.hid hput
          have HCN : Hid (Chg OW w6 (wr.setCell ⟨gj, k, none⟩ (.int .u32 0))) := HC.out.trans (Chg.setCell k _ hOg)
          clear hk3 hput hOg hjb
          go_wp2_with fail
          go_roundw
          case rel => exact ⟨k + 1, by go_num, hkm, HPUT.out, HCN.out⟩
          case measure => simp [RowKit.intOf]; omega
        · have e1 : decide ((k : Int) < (M : Int)) = false := decide_eq_false (by omega)
          have e1' : decide (k < M) = false := decide_eq_false hkm
          clear hk3 hjb
          go_wp2_with fail
          go_roundw
          case rel => exact ⟨i + 1, by go_num, hlt, HSP.out, HC.out⟩
          case measure => simp [RowKit.intOf]; omega
    · have d1 : decide ((i : Int) < (LA : Int)) = false := decide_eq_false (by omega)
      have d1' : decide (i < LA) = false := decide_eq_false hlt
      obtain ⟨hk3', hk5', ho5', hbw'⟩ := HKX.out wr HC.out
      have HBW := Lib.hid hbw'
      have HO5 := Lib.hid ho5'
      have HK5 := Lib.hid hk5'
      have HR5 : Hid (NRw wr (.slice vb LA vd) l5) := HO5.out.nrw HR56.out.len HR56.out.lens HR56.out.small
      have P3 := Lib.hid (PT.out wr HBW.out)
      clear hk3 hk5 hk3' hk5' ho5' hbw' HKX HSP HC HO56
      go_wp2_with fail
      refine P3.out.mono ?_; rintro e w7 ⟨hd7, b7⟩
      obtain ⟨vx, vy, l7, rfl, ho7, hr7, hn7⟩ := hd7.out
      rw [← HLA.out] at ho7 hr7 ⊢
      obtain ⟨g9, hg9⟩ : ∃ g, g = w7.heap.size := ⟨_, rfl⟩
      obtain ⟨W7, hW7⟩ : ∃ x, x = w7.alloc (.cells #[.bool pa, .slice vx LA vy] 24) := ⟨_, rfl⟩
      have hbW7 : Below w7.heap.size w7 W7 := by rw [hW7]; exact (Below.refl _ _).alloc (Nat.le_refl _) _
      have HK9 : Hid (Blk W7 g9 #[.bool pa, .slice vx LA vy] 24) := by unfold Hid; rw [hW7, hg9]; exact Blk.new _ _ _
      have HBr7 := Lib.hid (below_next hbW7 b7)
      have HB7 := Lib.hid (below_next HBr7.out HBW.out)
      have HK57 := Lib.hid (HK5.out.kept HBr7.out)
      have SM : Hid (Calls Tryd.prog 20 #[.agg #[.bool pa, .slice vx LA vy], .agg #[.bool pa, .slice vb LA vd]] W7 fun e w' => e = .returned (.bool true) ∧ Below W7.heap.size W7 w') := by
        have h := same8_any pa pa (.slice vx LA vy) (.slice vb LA vd) l7 l5 W7 (hr7.kept hbW7) (HR5.out.kept HBr7.out)
        have hb : decide (pa = pa ∧ ndsOf l7 = ndsOf l5) = true := decide_eq_true ⟨rfl, hn7.trans HN5.out.symm⟩
        rw [hb] at h
        exact h
      have z0 := HK9.out.cell 0
      have z1 := HK9.out.cell 1
      have y0 := HK57.out.cell 0
      have y1 := HK57.out.cell 1
      simp at z0 z1 y0 y1
      have HW7 := Lib.hid hW7
      have HG9 := Lib.hid hg9
      clear hd7 b7 ho7 hr7 hn7 hg9 hW7 hbW7 P3 HBr7 HBW x1
      go_upto_region 15 with fail
      rw [← HW7.out, ← HG9.out]
      clear HW7 HG9
      go_wp2_with fail
      refine SM.out.mono ?_; rintro e w8 ⟨rfl, b8⟩
      have HB8 := Lib.hid (below_next b8 HB7.out)
      clear b8 SM
      go_wp2_with fail
      refine (K.out w8 HB8.out).mono ?_; rintro e w9 ⟨rfl, b9⟩
      have HB9 := Lib.hid (below_next b9 HB8.out)
      clear b9
      go_wp2_with fail
      go_returns
      exact ⟨rfl, HB9.out⟩


set_option maxRecDepth 100000 in
theorem lifted (os : Os) (started : os.Started) (H : Type) (enc : TypeId × Value → H) :
    ReturnsInHanded {} Tryd.checked os 4 .any (fun w args => (Rows.dependParsesSpec.pre enc Tryd.prog Tryd.f4 Rows.dependParsesRow.domain false w args ∧ laidMetH Tryd.prog laid8 w) ∧ sizedMet enc Tryd.prog Tryd.f4 (OpenSpec.ofChange Rows.dependParsesSpec) false w args) (Rows.dependParsesSpec.post enc Tryd.prog Tryd.f4 false true false false) := by
  refine laid_lift (C := Tryd.checked) (X := fun w _ => laidMetH Tryd.prog laid8 w) (fun _ _ _ hh h => h.of_heap hh) own started (by kernel_rfl) Tryd.func4
    (ChangeSpec.witness_shaped (enc := enc) (C := Tryd.checked) (os := os) (X := fun w _ => laidMetH Tryd.prog laid8 w) false (World.laidAll Tryd.prog os laid8) #[.string ByteArray.empty] 8 (World.laidAll_os _ _ _)
      (World.shaped_of_ZipB (by kernel_rfl) (by kernel_rfl)) (by kernel_rfl) (by kernel_rfl) (by kernel_rfl)
      (by rw [MakeChecks.laidMetH_plain _ _ _ (by kernel_rfl)]; exact laidMet_laidAll _ (by kernel_rfl) (by kernel_rfl))) ?_
  intro W base args ds gs before hval0 hW hsz0 hL hS
  have hE := env8_of hL hS
  have hval : ∀ (j : Nat) t v, Tryd.f4.params[j]? = some t → args[j]? = some v → Value.okWide Tryd.prog W .any base t v := hval0
  have hW' := hW
  obtain ⟨p, q, hA0, hV, rfl, hfz, hnd⟩ := hW
  have hA : DataW.TrodAll enc Tryd.prog W 0 (fun _ => true) true Tryd.f4.params.toList args.toList ds p := hA0
  rw [Tryd.params4] at hA hval
  obtain ⟨v0, vs0, d0, ds0, p0, q0, hargs, rfl, rfl, h0, r0⟩ := trodAll_cons hA
  obtain ⟨rfl, rfl, rfl⟩ := trodAll_nil r0
  obtain rfl : args = #[v0] := by cases args; simp_all
  obtain ⟨s, rfl, w0⟩ := open_string_arg Tryd.underlying9 (hval 0 9 v0 rfl rfl) h0
  clear hA0 hval0
  refine (walk s W hE w0).mono fun e W' ⟨he, hb⟩ => ?_
  subst he
  exact ⟨_, rfl, law_post (by kernel_rfl) (by kernel_rfl) rfl Tryd.underlying4 rfl hW' rfl hb⟩

theorem over : Rows.dependParsesRow.holds Tryd.pinned (OpenSpec.ofChange Rows.dependParsesSpec) :=
  OpenClaim.holds_of_wide 4 Tryd.f4 rfl rfl rfl rfl rfl rfl rfl ⟨rfl, rfl, rfl, rfl, rfl⟩ rfl rfl rfl rfl rfl (by kernel_rfl) Tryd.func4 (by kernel_rfl)
    (of_decide_eq_true (by kernel_rfl)) (by unfold Func.isWrapper; first | (rw [if_pos (by decide +kernel)]; kernel_rfl) | (rw [if_neg (by decide +kernel)]; exact ⟨rfl, rfl⟩))
    (fun os started H enc _ => lifted os started H enc)

theorem proved : Rows.DependParsesCardSaid :=
  Claim7.holds_tied_plain_at .later [] _ true _ false over (fun _ h => by cases h) (by kernel_rfl) (fun _ h => by cases h) dependParses_row_tie rfl ⟨rfl, rfl⟩ (by kernel_rfl) rfl
    (fun f fn hf hfn => by
      obtain rfl : f = 4 := Option.some.inj ((show Tryd.prog.funcNamed "ganger/gangerlaw08.DependParses" = some 4 by kernel_rfl).symm.trans hf) |>.symm
      obtain rfl : fn = Tryd.f4 := (Option.some.inj (Tryd.func4.symm.trans hfn)).symm
      exact ⟨by kernel_rfl, fun j t ht => by
        rw [Tryd.params4] at ht
        have hm : t ∈ [9] := by simpa using Array.mem_of_getElem? ht
        have hall : ([9].all fun u => !Tryd.prog.wantsStandIn u) = true := by kernel_rfl
        exact (show Tryd.prog.wantsStandIn t = false by simpa using List.all_eq_true.1 hall t hm)⟩)
    (by kernel_rfl)
#print axioms proved
end Go.Proofs.YtpobghdiecfoaaaDoor.dependParses
