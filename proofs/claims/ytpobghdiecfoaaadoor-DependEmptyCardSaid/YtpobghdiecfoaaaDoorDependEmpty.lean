/-
  DependEmpty: a dependency without needs is the empty text, and ready; one that may not be says nothing: so the law returns true for every input, the listed tables of Go's library reading as the program's text lays them.
-/
import Derived.Test.YtpobghdiecfoaaaDoorDeW8
import Derived.Test.YtpobghdiecfoaaaDoorDeAr
import Derived.Test.YtpobghdiecfoaaaDoorLaw
import Derived.Test.YtpobghdiecfoaaaDoorRows
import Derived.Test.YtpobghdiecfoaaaDoorArgs2
import Derived.Test.YtpobghdiecfoaaaDoorLaid
import Derived.Test.YtpobghdiecfoaaaDoorCards
import Derived.Test.YtpobghdiecfoaaaDoorTie
import Derived.MakeChecks
import Derived.SevenTiedAt
namespace Go.Proofs.YtpobghdiecfoaaaDoor.dependEmpty
open Go.ChangeShapes Go.WideShapes Go.ChangeAt Go.RowKit
set_option linter.unusedVariables false

theorem own : ownKnob Tryd.prog.godebug = none := by kernel_rfl

open Go Go.RowKit Go.Lib in
set_option maxRecDepth 100000 in
set_option maxHeartbeats 4000000 in
theorem walk (any : Bool) (dv : Value) (dl : List NdM) (wv : Value) (wl : List Wh) (alone : Bool) (w : World) (hE : Env8 w) (hd : NRx w dv dl) (hw : WhArg w wv wl) :
    Calls Tryd.prog 9 #[.agg #[.bool any, dv], wv, .bool alone] w fun e w' => e = .returned (.bool true) ∧ Below w.heap.size w w' := by
  have K : Hid (∀ w1, Below w.heap.size w w1 → Calls Tryd.prog 11 #[] w1 fun e w' => e = .returned (.bool true) ∧ Below w1.heap.size w1 w') := fun w1 hb => known8_any w1 (hE.next hb)
  have HE : Hid (∀ w1, Below w.heap.size w w1 → Env8 w1) := fun w1 hb => hE.next hb
  have HD := Lib.hid hd
  have HW := Lib.hid hw
  obtain ⟨da, dc, rfl⟩ := hd.row.slice
  obtain ⟨la, lc, rfl⟩ := hw.1.slice
  obtain ⟨LD, hLD⟩ : ∃ n, n = dl.length := ⟨_, rfl⟩
  obtain ⟨LW, hLW⟩ : ∃ n, n = wl.length := ⟨_, rfl⟩
  have HLE : Hid (LD = dl.length ∧ LW = wl.length) := ⟨hLD, hLW⟩
  rw [← hLD] at HD ⊢
  rw [← hLW] at HW ⊢
  have MN : Hid (∀ w1, Below w.heap.size w w1 → Calls Tryd.prog 10 #[.agg #[.bool any, .slice da LD dc], .slice la LW lc] w1 fun e w' => ManyTo (dl.length + LW + lensOf dl) e ∧ Below w1.heap.size w1 w') := fun w1 hb => many_any any (.slice da LD dc) dl la LW lc w1 (HD.out.kept hb) (by rw [hLW]; exact HW.out.2.1)
  obtain ⟨g3, hg3⟩ : ∃ g, g = w.heap.size := ⟨_, rfl⟩
  obtain ⟨X, hX⟩ : ∃ X, X = w.alloc (.cells #[.bool any, .slice da LD dc] 24) := ⟨_, rfl⟩
  have HBX : Hid (Below w.heap.size w X) := by unfold Hid; rw [hX]; exact (Below.refl _ _).alloc (Nat.le_refl _) _
  have hbk : Blk X g3 #[.bool any, .slice da LD dc] 24 := by rw [hX, hg3]; exact Blk.new w _ _
  have x0 := hbk.cell 0
  have x1 := hbk.cell 1
  simp at x0 x1
  have HXX := Lib.hid hX
  have HG3 := Lib.hid hg3
  clear hE hd hw hLD hLW hX hg3 hbk
  go_enter Tryd.func9, Tryd.ntmps9
  go_upto_region 1 with fail
  rw [← HG3.out, ← HXX.out]
  go_wp2_with fail
  refine (MN.out X HBX.out).mono ?_; rintro e w1 ⟨⟨β, rfl, hβ⟩, b1⟩
  have HB1 := Lib.hid (below_next b1 HBX.out)
  have c0 := cell_next b1 x0
  have c1 := cell_next b1 x1
  have HBB := Lib.hid hβ
  clear b1 MN hβ x0 x1
  cases β with
  | true =>
    go_wp2_with fail
    refine (K.out w1 HB1.out).mono ?_; rintro e w2 ⟨rfl, b2⟩
    have HB2 := below_next b2 HB1.out
    clear b2
    go_wp2_with fail
    go_returns
    exact ⟨rfl, HB2⟩
  | false =>
    have hsm := HBB.out rfl
    have HN : Hid (NRw w (.slice da LD dc) dl) := HD.out.few (by omega)
    have hwn : wl.length ≤ 1048576 := by have := HLE.out.2; omega
    have HWN := Lib.hid hwn
    have P0 : Hid (∀ w1, Below w.heap.size w w1 → Calls Tryd.prog 14 #[.agg #[.bool false, .slice none 0 0]] w1 fun e w' => e = .returned (.tuple #[.string ⟨#[]⟩, .int .i64 0]) ∧ Below w1.heap.size w1 w') := fun w1 hb => by
      have h := print8_any false (.slice none 0 0) [] w1 ((NdOwn.nil w1 0).nrw (by simp) (fun p hp => nomatch hp) (fun p hp => nomatch hp)) (HE.out w1 hb).2
      exact h
    have Q0 : Hid (∀ w1, Below w.heap.size w w1 → Calls Tryd.prog 21 #[.string ⟨#[]⟩] w1 fun e w2 => DepTo (false, [], 0) w1.heap.size e w2 ∧ Below w1.heap.size w1 w2) := fun w1 hb => by
      obtain ⟨m, hm⟩ := (HE.out w1 hb).1
      exact parse8_any [] m w1 (by decide) hm
    clear HBB hsm HLE hwn
    go_wp2_with fail
    refine (P0.out w1 HB1.out).mono ?_; rintro e w2 ⟨rfl, b2⟩
    have HB2 := Lib.hid (below_next b2 HB1.out)
    have HB12 := Lib.hid b2
    clear b2 P0
    go_wp2_with fail
    refine (Q0.out w2 HB2.out).mono ?_; rintro e w3 ⟨hd3, b3⟩
    obtain ⟨vx, vy, l3, rfl, -, hr3, hn3⟩ := hd3.out
    have HB3 := Lib.hid (below_next b3 HB2.out)
    have HB13 := Lib.hid (below_next b3 HB12.out)
    obtain ⟨g9, hg9⟩ : ∃ g, g = w3.heap.size := ⟨_, rfl⟩
    obtain ⟨W3, hW3⟩ : ∃ x, x = w3.alloc (.cells #[.bool false, .slice vx 0 vy] 24) := ⟨_, rfl⟩
    have hbW3 : Below w3.heap.size w3 W3 := by rw [hW3]; exact (Below.refl _ _).alloc (Nat.le_refl _) _
    have hbk9 : Blk W3 g9 #[.bool false, .slice vx 0 vy] 24 := by rw [hW3, hg9]; exact Blk.new _ _ _
    have HB4 := Lib.hid (below_next hbW3 HB3.out)
    have HB14 := Lib.hid (below_next hbW3 HB13.out)
    have e0 := hbk9.cell 0
    have e1 := hbk9.cell 1
    simp at e0 e1
    have hlen3 : ([] : List Nd).length = 0 := rfl
    have SX : Hid (Calls Tryd.prog 23 #[.agg #[.bool false, .slice vx 0 vy], .slice la LW lc, .bool alone] W3 fun e w' => e = .returned (.int .i64 2) ∧ Below W3.heap.size W3 w') := by
      have h := say_any false _ l3 _ wl alone W3 (hr3.kept hbW3) (HW.out.1.kept HB4.out) HWN.out
      rw [hn3] at h
      have e : sayB false alone wl [] = 2 := by
        unfold sayB
        rw [if_pos (by decide)]; rfl
      rw [e] at h
      exact h
    have HW3 := Lib.hid hW3
    have HG9 := Lib.hid hg9
    clear hd3 b3 hr3 hn3 hg9 hW3 hbW3 hbk9 Q0 HB2 HB12 HB3 HB13
    go_upto_region 5 with fail
    rw [← HW3.out, ← HG9.out]
    clear HW3 HG9
    go_wp2_with fail
    refine SX.out.mono ?_; rintro e w5 ⟨rfl, b5⟩
    have HB5 := Lib.hid (below_next b5 HB4.out)
    have HB15 := Lib.hid (below_next b5 HB14.out)
    have f0 := cell_next HB15.out c0
    have f1 := cell_next HB15.out c1
    have CK := Lib.hid (check_any any (.slice da LD dc) dl w5 (HN.out.kept HB5.out))
    clear b5 SX HB4 HB14 e0 e1
    by_cases hok : okD any (ndsOf dl)
    · have hc : chkD any (ndsOf dl) = 0 := if_pos hok
      rw [hc] at CK
      have hsl := sayD_le any alone wl (ndsOf dl)
      have hsb : sayB any alone wl (ndsOf dl) = sayD any alone wl (ndsOf dl) := if_pos hok
      obtain ⟨S, hS⟩ : ∃ S, S = sayD any alone wl (ndsOf dl) := ⟨_, rfl⟩
      rw [← hS] at hsl hsb
      have SA : Hid (∀ w1, Below w.heap.size w w1 → Calls Tryd.prog 23 #[.agg #[.bool any, .slice da LD dc], .slice la LW lc, .bool alone] w1 fun e w' => e = .returned (.int .i64 S) ∧ Below w1.heap.size w1 w') := fun w1 hb => by
        rw [← hsb]; exact say_any any _ dl _ wl alone w1 (HN.out.kept hb) (HW.out.1.kept hb) HWN.out
      have q1 : decide (S ≥ 1) = true := decide_eq_true hsl.1
      have q2 : decide (S ≤ 3) = true := decide_eq_true hsl.2
      have q3 : decide (1 ≤ S) = true := decide_eq_true hsl.1
      clear hc hok hS hsb
      go_wp2_with fail
      refine CK.out.mono ?_; rintro e w6 ⟨rfl, b6⟩
      have HB6 := Lib.hid (below_next b6 HB5.out)
      have HB16 := Lib.hid (below_next b6 HB15.out)
      have k0 := cell_next HB16.out c0
      have k1 := cell_next HB16.out c1
      clear b6 CK HB5 HB15 f0 f1
      go_wp2_with fail
      refine (SA.out w6 HB6.out).mono ?_; rintro e w7 ⟨rfl, b7⟩
      have HB7 := Lib.hid (below_next b7 HB6.out)
      clear b7 SA HB6 HB16 k0 k1
      go_wp2_with fail
      refine (K.out w7 HB7.out).mono ?_; rintro e w8 ⟨rfl, b8⟩
      have HB8 := Lib.hid (below_next b8 HB7.out)
      clear b8
      go_wp2_with fail
      go_returns
      exact ⟨rfl, HB8.out⟩
    · have hc : chkD any (ndsOf dl) = 2 := if_neg hok
      rw [hc] at CK
      have hsb : sayB any alone wl (ndsOf dl) = 0 := if_neg hok
      have SA : Hid (∀ w1, Below w.heap.size w w1 → Calls Tryd.prog 23 #[.agg #[.bool any, .slice da LD dc], .slice la LW lc, .bool alone] w1 fun e w' => e = .returned (.int .i64 0) ∧ Below w1.heap.size w1 w') := fun w1 hb => by
        rw [← hsb]; exact say_any any _ dl _ wl alone w1 (HN.out.kept hb) (HW.out.1.kept hb) HWN.out
      have JA : Hid (∀ w1, Below w.heap.size w w1 → Calls Tryd.prog 16 #[.agg #[.bool any, .slice da LD dc]] w1 fun e w' => (∃ aj cj, e = .returned (.slice aj 0 cj)) ∧ Below w1.heap.size w1 w') := fun w1 hb => by
        refine (jobs_any sortU8 any _ dl w1 (HN.out.kept hb)).mono ?_
        rintro e w' ⟨⟨v', os, rfl, ho, hJ⟩, b⟩
        have hos : os = [] := hJ.len List.Pairwise.nil (fun x => by simp [hok])
        subst hos
        obtain ⟨aj, cj, rfl⟩ := own_slice ho
        exact ⟨⟨aj, cj, rfl⟩, b⟩
      clear hc hok hsb
      go_wp2_with fail
      refine CK.out.mono ?_; rintro e w6 ⟨rfl, b6⟩
      have HB6 := Lib.hid (below_next b6 HB5.out)
      have HB16 := Lib.hid (below_next b6 HB15.out)
      have k0 := cell_next HB16.out c0
      have k1 := cell_next HB16.out c1
      clear b6 CK HB5 HB15 f0 f1
      go_wp2_with fail
      refine (SA.out w6 HB6.out).mono ?_; rintro e w7 ⟨rfl, b7⟩
      have HB7 := Lib.hid (below_next b7 HB6.out)
      have HB17 := Lib.hid (below_next b7 HB16.out)
      have m0 := cell_next HB17.out c0
      have m1 := cell_next HB17.out c1
      clear b7 SA HB6 HB16 k0 k1
      go_wp2_with fail
      refine (JA.out w7 HB7.out).mono ?_; rintro e w8 ⟨⟨aj, cj, rfl⟩, b8⟩
      have HB8 := Lib.hid (below_next b8 HB7.out)
      clear b8 JA
      go_wp2_with fail
      refine (K.out w8 HB8.out).mono ?_; rintro e w9 ⟨rfl, b9⟩
      have HB9 := Lib.hid (below_next b9 HB8.out)
      clear b9
      go_wp2_with fail
      go_returns
      exact ⟨rfl, HB9.out⟩


set_option maxRecDepth 100000 in
theorem lifted (os : Os) (started : os.Started) (H : Type) (enc : TypeId × Value → H) :
    ReturnsInHanded {} Tryd.checked os 9 .any (fun w args => (Rows.dependEmptySpec.pre enc Tryd.prog Tryd.f9 Rows.dependEmptyRow.domain false w args ∧ laidMetH Tryd.prog laid8 w) ∧ sizedMet enc Tryd.prog Tryd.f9 (OpenSpec.ofChange Rows.dependEmptySpec) false w args) (Rows.dependEmptySpec.post enc Tryd.prog Tryd.f9 false true false false) := by
  refine laid_lift (C := Tryd.checked) (X := fun w _ => laidMetH Tryd.prog laid8 w) (fun _ _ _ hh h => h.of_heap hh) own started (by kernel_rfl) Tryd.func9
    (ChangeSpec.witness_shaped (enc := enc) (C := Tryd.checked) (os := os) (X := fun w _ => laidMetH Tryd.prog laid8 w) false (World.laidAll Tryd.prog os laid8) #[.agg #[.bool false, .slice none 0 0], .slice none 0 0, .bool false] 8 (World.laidAll_os _ _ _)
      (World.shaped_of_ZipB (by kernel_rfl) (by kernel_rfl)) (by kernel_rfl) (by kernel_rfl) (by kernel_rfl)
      (by rw [MakeChecks.laidMetH_plain _ _ _ (by kernel_rfl)]; exact laidMet_laidAll _ (by kernel_rfl) (by kernel_rfl))) ?_
  intro W base args ds gs before hval0 hW hsz0 hL hS
  have hE := env8_of hL hS
  have hval : ∀ (j : Nat) t v, Tryd.f9.params[j]? = some t → args[j]? = some v → Value.okWide Tryd.prog W .any base t v := hval0
  have hW' := hW
  obtain ⟨p, q, hA0, hV, rfl, hfz, hnd⟩ := hW
  have hA : DataW.TrodAll enc Tryd.prog W 0 (fun _ => true) true Tryd.f9.params.toList args.toList ds p := hA0
  rw [Tryd.params9] at hA hval
  obtain ⟨v0, vs0, d0, ds0, p0, q0, hargs, rfl, rfl, h0, r0⟩ := trodAll_cons hA
  obtain ⟨v1, vs1, d1, ds1, p1, q1, rfl, rfl, rfl, h1, r1⟩ := trodAll_cons r0
  obtain ⟨v2, vs2, d2, ds2, p2, q2, rfl, rfl, rfl, h2, r2⟩ := trodAll_cons r1
  obtain ⟨rfl, rfl, rfl⟩ := trodAll_nil r2
  obtain rfl : args = #[v0, v1, v2] := by cases args; simp_all
  have hz0 : ∀ k ∈ d0.weights Tryd.prog 24, k ≤ reachBytes := fun k hk => by
    have := List.all_eq_true.1 hsz0 k (DataW.weights_mem_each (j := 0) (t := 24) (d := d0) rfl rfl k hk)
    simpa using this
  obtain ⟨cs0, rfl, hs0, hf0⟩ := open_structZ Tryd.underlying24 (by kernel_rfl) (by kernel_rfl) (hval 0 24 v0 rfl rfl) hz0 h0
  obtain ⟨c0_0, y0_0, n0_0, e0_0, t0_0, z0_0⟩ := hf0 0 _ rfl
  obtain ⟨any, rfl⟩ := field_bool Tryd.underlying4 t0_0
  obtain ⟨c0_1, y0_1, n0_1, e0_1, t0_1, z0_1⟩ := hf0 1 _ rfl
  obtain ⟨dl, w0_1⟩ := field_needs t0_1 z0_1
  obtain rfl : cs0 = #[.bool any, c0_1] := arr_of cs0 [.bool any, c0_1] hs0 (fun j hj => by match j, hj with | 0, _ => exact e0_0 | 1, _ => exact e0_1 | j + 2, hj => exact absurd hj (by simp))
  have hz1 : ∀ k ∈ d1.weights Tryd.prog 48, k ≤ reachBytes := fun k hk => by
    have := List.all_eq_true.1 hsz0 k (DataW.weights_mem_each (j := 1) (t := 48) (d := d1) rfl rfl k hk)
    simpa using this
  obtain ⟨wl, w1⟩ := open_wheres hz1 h1 (okWide_slice Tryd.underlying48 (hval 1 48 v1 rfl rfl))
  obtain ⟨alone, rfl, rfl, rfl⟩ := open_bool Tryd.underlying4 (hval 2 4 v2 rfl rfl) h2
  clear hA0 hval0
  refine (walk any c0_1 dl v1 wl alone W hE w0_1 w1).mono fun e W' ⟨he, hb⟩ => ?_
  subst he
  exact ⟨_, rfl, law_post (by kernel_rfl) (by kernel_rfl) rfl Tryd.underlying4 rfl hW' rfl hb⟩

theorem over : Rows.dependEmptyRow.holds Tryd.pinned (OpenSpec.ofChange Rows.dependEmptySpec) :=
  OpenClaim.holds_of_wide 9 Tryd.f9 rfl rfl rfl rfl rfl rfl rfl ⟨rfl, rfl, rfl, rfl, rfl⟩ rfl rfl rfl rfl rfl (by kernel_rfl) Tryd.func9 (by kernel_rfl)
    (of_decide_eq_true (by kernel_rfl)) (by unfold Func.isWrapper; first | (rw [if_pos (by decide +kernel)]; kernel_rfl) | (rw [if_neg (by decide +kernel)]; exact ⟨rfl, rfl⟩))
    (fun os started H enc _ => lifted os started H enc)

theorem proved : Rows.DependEmptyCardSaid :=
  Claim7.holds_tied_plain_at .later [] _ true _ false over (fun _ h => by cases h) (by kernel_rfl) (fun _ h => by cases h) dependEmpty_row_tie rfl ⟨rfl, rfl⟩ (by kernel_rfl) rfl
    (fun f fn hf hfn => by
      obtain rfl : f = 9 := Option.some.inj ((show Tryd.prog.funcNamed "ganger/gangerlaw08.DependEmpty" = some 9 by kernel_rfl).symm.trans hf) |>.symm
      obtain rfl : fn = Tryd.f9 := (Option.some.inj (Tryd.func9.symm.trans hfn)).symm
      exact ⟨by kernel_rfl, fun j t ht => by
        rw [Tryd.params9] at ht
        have hm : t ∈ [24, 48, 4] := by simpa using Array.mem_of_getElem? ht
        have hall : ([24, 48, 4].all fun u => !Tryd.prog.wantsStandIn u) = true := by kernel_rfl
        exact (show Tryd.prog.wantsStandIn t = false by simpa using List.all_eq_true.1 hall t hm)⟩)
    (by kernel_rfl)
#print axioms proved
end Go.Proofs.YtpobghdiecfoaaaDoor.dependEmpty
