/-
  DependSays: what any dependency says, however its jobs are, is what the chapter says: so the law returns true for every input, the listed tables of Go's library reading as the program's text lays them.
-/
import Derived.Test.YtpobghdiecfoaaaDoorDeW8
import Derived.Test.YtpobghdiecfoaaaDoorDeAr
import Derived.Test.YtpobghdiecfoaaaDoorLaw
import Derived.Test.YtpobghdiecfoaaaDoorDeR
import Derived.Test.YtpobghdiecfoaaaDoorRows
import Derived.Test.YtpobghdiecfoaaaDoorArgs2
import Derived.Test.YtpobghdiecfoaaaDoorLaid
import Derived.Test.YtpobghdiecfoaaaDoorCards
import Derived.Test.YtpobghdiecfoaaaDoorTie
import Derived.MakeChecks
import Derived.SevenTiedAt
namespace Go.Proofs.YtpobghdiecfoaaaDoor.dependSays
open Go.ChangeShapes Go.WideShapes Go.ChangeAt Go.RowKit
set_option linter.unusedVariables false

theorem own : ownKnob Tryd.prog.godebug = none := by kernel_rfl

open Go Go.RowKit Go.Lib in
set_option maxRecDepth 100000 in
set_option maxHeartbeats 4000000 in
theorem walk (any : Bool) (dv : Value) (dl : List NdM) (wv : Value) (wl : List Wh) (alone : Bool) (w : World) (hE : Env8 w) (hd : NRx w dv dl) (hw : WhArg w wv wl) :
    Calls Tryd.prog 5 #[.agg #[.bool any, dv], wv, .bool alone] w fun e w' => e = .returned (.bool true) ∧ Below w.heap.size w w' := by
  have K : Hid (∀ w1, Below w.heap.size w w1 → Calls Tryd.prog 11 #[] w1 fun e w' => e = .returned (.bool true) ∧ Below w1.heap.size w1 w') := fun w1 hb => known8_any w1 (hE.next hb)
  have HD := Lib.hid hd
  have HW := Lib.hid hw
  obtain ⟨da, dc, rfl⟩ := hd.row.slice
  obtain ⟨la, lc, rfl⟩ := hw.1.slice
  obtain ⟨LD, hLD⟩ : ∃ n, n = dl.length := ⟨_, rfl⟩
  obtain ⟨LW, hLW⟩ : ∃ n, n = wl.length := ⟨_, rfl⟩
  have HLE : Hid (LD = dl.length ∧ LW = wl.length) := ⟨hLD, hLW⟩
  rw [← hLD] at HD ⊢
  rw [← hLW] at HW ⊢
  have MN : Hid (∀ w1, Below w.heap.size w w1 → Calls Tryd.prog 10 #[.agg #[.bool any, .slice da LD dc], .slice la LW lc] w1 fun e w' => ManyTo (dl.length + LW + lensOf dl) e ∧ Below w1.heap.size w1 w') := fun w1 hb => many_any any (.slice da LD dc) dl la LW lc w1 (HD.out.kept hb) (by rw [hLW]; exact HW.out.2.1)
  obtain ⟨g3, hg3⟩ : ∃ g, g = w.heap.size := ⟨_, rfl⟩
  obtain ⟨X, hX⟩ : ∃ X, X = w.alloc (.cells #[.bool any, .slice da LD dc] 24) := ⟨_, rfl⟩
  have HBX : Hid (Below w.heap.size w X) := by unfold Hid; rw [hX]; exact (Below.refl _ _).alloc (Nat.le_refl _) _
  have hbk : Blk X g3 #[.bool any, .slice da LD dc] 24 := by rw [hX, hg3]; exact Blk.new w _ _
  have x0 := hbk.cell 0
  have x1 := hbk.cell 1
  simp at x0 x1
  have HXX := Lib.hid hX
  have HG3 := Lib.hid hg3
  clear hE hd hw hLD hLW hX hg3 hbk
  go_enter Tryd.func5, Tryd.ntmps5
  go_upto_region 1 with fail
  rw [← HG3.out, ← HXX.out]
  go_wp2_with fail
  refine (MN.out X HBX.out).mono ?_; rintro e w1 ⟨⟨β, rfl, hβ⟩, b1⟩
  have HB1 := Lib.hid (below_next b1 HBX.out)
  have c0 := cell_next b1 x0
  have c1 := cell_next b1 x1
  have HBB := Lib.hid hβ
  clear b1 MN hβ x0 x1
  cases β with
  | true =>
    go_wp2_with fail
    refine (K.out w1 HB1.out).mono ?_; rintro e w2 ⟨rfl, b2⟩
    have HB2 := below_next b2 HB1.out
    clear b2
    go_wp2_with fail
    go_returns
    exact ⟨rfl, HB2⟩
  | false =>
    have hsm := HBB.out rfl
    have HN : Hid (NRw w (.slice da LD dc) dl) := HD.out.few (by omega)
    have hwn : wl.length ≤ 1048576 := by have := HLE.out.2; omega
    obtain ⟨S, hS⟩ : ∃ S, S = sayB any alone wl (ndsOf dl) := ⟨_, rfl⟩
    have SA : Hid (∀ w1, Below w.heap.size w w1 → Calls Tryd.prog 23 #[.agg #[.bool any, .slice da LD dc], .slice la LW lc, .bool alone] w1 fun e w' => e = .returned (.int .i64 S) ∧ Below w1.heap.size w1 w') := fun w1 hb => by
      rw [hS]; exact say_any any _ dl _ wl alone w1 (HN.out.kept hb) (HW.out.1.kept hb) hwn
    have SB : Hid (∀ w1, Below w.heap.size w w1 → Calls Tryd.prog 24 #[.agg #[.bool any, .slice da LD dc], .slice la LW lc, .bool alone] w1 fun e w' => e = .returned (.int .i64 S) ∧ Below w1.heap.size w1 w') := fun w1 hb => by
      rw [hS]; exact rsay_any any _ dl _ wl alone w1 (HN.out.kept hb) (HW.out.1.kept hb) hwn
    clear hS HBB hsm HLE hwn
    go_wp2_with fail
    go_region_held3 (fun w' => w'.cell? ⟨g3, 0, none⟩ = some (.bool any) ∧ w'.cell? ⟨g3, 1, none⟩ = some (.slice da LD dc) ∧ Below w1.heap.size w1 w')
      (first
        | exact ⟨c0, c1, Below.refl _ _⟩
        | exact ⟨c0, c1, (Below.refl _ _).drew⟩
        | (rcases ‹_ ∧ _ ∧ Below w1.heap.size _ _› with ⟨q0, q1, q5⟩; exact ⟨cell_next (by assumption) q0, cell_next (by assumption) q1, below_next (by assumption) q5⟩))
      (first
        | (go_at_call 23; ((with_reducible refine (SA.out _ (below_next (‹_ ∧ _ ∧ Below w1.heap.size w1 _›).2.2 HB1.out)).mono ?_); rintro e w5 ⟨rfl, b5⟩))
        | (go_at_call 24; ((with_reducible refine (SB.out _ (below_next (‹_ ∧ _ ∧ Below w1.heap.size w1 _›).2.2 HB1.out)).mono ?_); rintro e w5 ⟨rfl, b5⟩))
        | (go_at_call 11; ((with_reducible refine (K.out _ (below_next (‹_ ∧ _ ∧ Below w1.heap.size w1 _›).2.2 HB1.out)).mono ?_); rintro e w5 ⟨rfl, b5⟩)))
    all_goals go_wp2_with fail
    all_goals go_returns
    all_goals exact ⟨rfl, below_next (‹_ ∧ _ ∧ Below w1.heap.size w1 _›).2.2 HB1.out⟩


set_option maxRecDepth 100000 in
theorem lifted (os : Os) (started : os.Started) (H : Type) (enc : TypeId × Value → H) :
    ReturnsInHanded {} Tryd.checked os 5 .any (fun w args => (Rows.dependSaysSpec.pre enc Tryd.prog Tryd.f5 Rows.dependSaysRow.domain false w args ∧ laidMetH Tryd.prog laid8 w) ∧ sizedMet enc Tryd.prog Tryd.f5 (OpenSpec.ofChange Rows.dependSaysSpec) false w args) (Rows.dependSaysSpec.post enc Tryd.prog Tryd.f5 false true false false) := by
  refine laid_lift (C := Tryd.checked) (X := fun w _ => laidMetH Tryd.prog laid8 w) (fun _ _ _ hh h => h.of_heap hh) own started (by kernel_rfl) Tryd.func5
    (ChangeSpec.witness_shaped (enc := enc) (C := Tryd.checked) (os := os) (X := fun w _ => laidMetH Tryd.prog laid8 w) false (World.laidAll Tryd.prog os laid8) #[.agg #[.bool false, .slice none 0 0], .slice none 0 0, .bool false] 8 (World.laidAll_os _ _ _)
      (World.shaped_of_ZipB (by kernel_rfl) (by kernel_rfl)) (by kernel_rfl) (by kernel_rfl) (by kernel_rfl)
      (by rw [MakeChecks.laidMetH_plain _ _ _ (by kernel_rfl)]; exact laidMet_laidAll _ (by kernel_rfl) (by kernel_rfl))) ?_
  intro W base args ds gs before hval0 hW hsz0 hL hS
  have hE := env8_of hL hS
  have hval : ∀ (j : Nat) t v, Tryd.f5.params[j]? = some t → args[j]? = some v → Value.okWide Tryd.prog W .any base t v := hval0
  have hW' := hW
  obtain ⟨p, q, hA0, hV, rfl, hfz, hnd⟩ := hW
  have hA : DataW.TrodAll enc Tryd.prog W 0 (fun _ => true) true Tryd.f5.params.toList args.toList ds p := hA0
  rw [Tryd.params5] at hA hval
  obtain ⟨v0, vs0, d0, ds0, p0, q0, hargs, rfl, rfl, h0, r0⟩ := trodAll_cons hA
  obtain ⟨v1, vs1, d1, ds1, p1, q1, rfl, rfl, rfl, h1, r1⟩ := trodAll_cons r0
  obtain ⟨v2, vs2, d2, ds2, p2, q2, rfl, rfl, rfl, h2, r2⟩ := trodAll_cons r1
  obtain ⟨rfl, rfl, rfl⟩ := trodAll_nil r2
  obtain rfl : args = #[v0, v1, v2] := by cases args; simp_all
  have hz0 : ∀ k ∈ d0.weights Tryd.prog 24, k ≤ reachBytes := fun k hk => by
    have := List.all_eq_true.1 hsz0 k (DataW.weights_mem_each (j := 0) (t := 24) (d := d0) rfl rfl k hk)
    simpa using this
  obtain ⟨cs0, rfl, hs0, hf0⟩ := open_structZ Tryd.underlying24 (by kernel_rfl) (by kernel_rfl) (hval 0 24 v0 rfl rfl) hz0 h0
  obtain ⟨c0_0, y0_0, n0_0, e0_0, t0_0, z0_0⟩ := hf0 0 _ rfl
  obtain ⟨any, rfl⟩ := field_bool Tryd.underlying4 t0_0
  obtain ⟨c0_1, y0_1, n0_1, e0_1, t0_1, z0_1⟩ := hf0 1 _ rfl
  obtain ⟨dl, w0_1⟩ := field_needs t0_1 z0_1
  obtain rfl : cs0 = #[.bool any, c0_1] := arr_of cs0 [.bool any, c0_1] hs0 (fun j hj => by match j, hj with | 0, _ => exact e0_0 | 1, _ => exact e0_1 | j + 2, hj => exact absurd hj (by simp))
  have hz1 : ∀ k ∈ d1.weights Tryd.prog 48, k ≤ reachBytes := fun k hk => by
    have := List.all_eq_true.1 hsz0 k (DataW.weights_mem_each (j := 1) (t := 48) (d := d1) rfl rfl k hk)
    simpa using this
  obtain ⟨wl, w1⟩ := open_wheres hz1 h1 (okWide_slice Tryd.underlying48 (hval 1 48 v1 rfl rfl))
  obtain ⟨alone, rfl, rfl, rfl⟩ := open_bool Tryd.underlying4 (hval 2 4 v2 rfl rfl) h2
  clear hA0 hval0
  refine (walk any c0_1 dl v1 wl alone W hE w0_1 w1).mono fun e W' ⟨he, hb⟩ => ?_
  subst he
  exact ⟨_, rfl, law_post (by kernel_rfl) (by kernel_rfl) rfl Tryd.underlying4 rfl hW' rfl hb⟩

theorem over : Rows.dependSaysRow.holds Tryd.pinned (OpenSpec.ofChange Rows.dependSaysSpec) :=
  OpenClaim.holds_of_wide 5 Tryd.f5 rfl rfl rfl rfl rfl rfl rfl ⟨rfl, rfl, rfl, rfl, rfl⟩ rfl rfl rfl rfl rfl (by kernel_rfl) Tryd.func5 (by kernel_rfl)
    (of_decide_eq_true (by kernel_rfl)) (by unfold Func.isWrapper; first | (rw [if_pos (by decide +kernel)]; kernel_rfl) | (rw [if_neg (by decide +kernel)]; exact ⟨rfl, rfl⟩))
    (fun os started H enc _ => lifted os started H enc)

theorem proved : Rows.DependSaysCardSaid :=
  Claim7.holds_tied_plain_at .later [] _ true _ false over (fun _ h => by cases h) (by kernel_rfl) (fun _ h => by cases h) dependSays_row_tie rfl ⟨rfl, rfl⟩ (by kernel_rfl) rfl
    (fun f fn hf hfn => by
      obtain rfl : f = 5 := Option.some.inj ((show Tryd.prog.funcNamed "ganger/gangerlaw08.DependSays" = some 5 by kernel_rfl).symm.trans hf) |>.symm
      obtain rfl : fn = Tryd.f5 := (Option.some.inj (Tryd.func5.symm.trans hfn)).symm
      exact ⟨by kernel_rfl, fun j t ht => by
        rw [Tryd.params5] at ht
        have hm : t ∈ [24, 48, 4] := by simpa using Array.mem_of_getElem? ht
        have hall : ([24, 48, 4].all fun u => !Tryd.prog.wantsStandIn u) = true := by kernel_rfl
        exact (show Tryd.prog.wantsStandIn t = false by simpa using List.all_eq_true.1 hall t hm)⟩)
    (by kernel_rfl)
#print axioms proved
end Go.Proofs.YtpobghdiecfoaaaDoor.dependSays
