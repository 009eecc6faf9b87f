/-
  WaitsLists: of any jobs who may start, and who never may, is what the chapter says; what comes out is its owner's: so the law returns true for every input.
-/
import Derived.Test.YtfabjlhepadkpaaWtNO
import Derived.Test.YtfabjlhepadkpaaWtP
import Derived.Test.YtfabjlhepadkpaaLaw
import Derived.Test.YtfabjlhepadkpaaSmJ
import Derived.Test.YtfabjlhepadkpaaWtQR
import Derived.Test.YtfabjlhepadkpaaRows
import Derived.Test.YtfabjlhepadkpaaArgs2
namespace Go.Proofs.Ytfabjlhepadkpaa.waitsLists
open Go.ChangeShapes Go.WideShapes Go.ChangeAt Go.RowKit
set_option linter.unusedVariables false

theorem own : ownKnob Try.prog.godebug = none := by kernel_rfl

open Go Go.ChangeShapes Go.WideShapes Go.ChangeAt Go.RowKit Go.Lib
set_option maxRecDepth 100000 in
set_option maxHeartbeats 4000000 in
theorem walk (v : Value) (l : List Jb) (now : Int) (w : World) (h : JArg w v l) (hnow : (Lit.int .i64 now).wf = true) :
    Calls Try.prog 4 #[v, .int .i64 now] w fun e w' => e = .returned (.bool true) ∧ Below w.heap.size w w' := by
  have MN := Lib.hid (many14_any v l w h)
  have K : Hid (∀ w1, Calls Try.prog 11 #[] w1 fun e w' => e = .returned (.bool true) ∧ Below w1.heap.size w1 w') := known14_any
  have HL := Lib.hid h
  obtain ⟨a, c, rfl⟩ := h.row.slice
  obtain ⟨N, hN⟩ : ∃ N, N = l.length := ⟨_, rfl⟩
  rw [← hN] at MN ⊢
  have HN := Lib.hid hN
  clear h hN hnow
  go_enter Try.func4, Try.ntmps4
  go_wp2_with fail
  refine MN.out.mono ?_; rintro e w1 ⟨hm, b1⟩
  have HB1 := Lib.hid b1
  clear b1 MN
  rcases hm with rfl | ⟨rfl, hf⟩
  · go_wp2_with fail
    refine (K.out _).mono ?_; rintro e w2 ⟨rfl, b2⟩
    have HB2 := below_next b2 HB1.out
    clear b2
    go_wp2_with fail
    go_ret
    exact ⟨rfl, HB2⟩
  · have HJ := Lib.hid (HL.out.few hf)
    have hlen : N ≤ 60 := by rw [HN.out]; exact hf.1
    have RD : Hid (∀ w1, Below w.heap.size w w1 → Calls Try.prog 22 #[.slice a N c, .int .i64 now] w1 fun e w' => (∃ v', e = .returned v' ∧ UOwn w' w1.heap.size v' (listJ l now 2)) ∧ Below w1.heap.size w1 w') := fun w1 hb => by rw [HN.out]; exact ready_any _ l now w1 (HJ.out.kept hb)
    have NV : Hid (∀ w1, Below w.heap.size w w1 → Calls Try.prog 23 #[.slice a N c] w1 fun e w' => (∃ v', e = .returned v' ∧ UOwn w' w1.heap.size v' (listJ l 0 3)) ∧ Below w1.heap.size w1 w') := fun w1 hb => by rw [HN.out]; exact never_any _ l w1 (HJ.out.kept hb)
    have LS : Hid (∀ w1 (now what : Int), Below w.heap.size w w1 → Calls Try.prog 25 #[.slice a N c, .int .i64 now, .int .i64 what] w1 fun e w' => (∃ v', e = .returned v' ∧ UOwn w' w1.heap.size v' (listJ l now what)) ∧ Below w1.heap.size w1 w') := fun w1 now what hb => by rw [HN.out]; exact rList_any _ l now what w1 (HJ.out.kept hb)
    have HA : Hid ((listJ l now 2).length ≤ 60) := by rw [HN.out] at hlen; exact Nat.le_trans (listJ_len _ _ _) hlen
    have HC : Hid ((listJ l 0 3).length ≤ 60) := by rw [HN.out] at hlen; exact Nat.le_trans (listJ_len _ _ _) hlen
    obtain ⟨A, hA⟩ : ∃ A, A = listJ l now 2 := ⟨_, rfl⟩
    obtain ⟨C, hC⟩ : ∃ C, C = listJ l 0 3 := ⟨_, rfl⟩
    have LA : Hid (∀ w1, Below w.heap.size w w1 → Calls Try.prog 25 #[.slice a N c, .int .i64 now, .int .i64 2] w1 fun e w' => (∃ v', e = .returned v' ∧ UOwn w' w1.heap.size v' A) ∧ Below w1.heap.size w1 w') := fun w1 hb => by rw [hA]; exact LS.out w1 now 2 hb
    have LC : Hid (∀ w1, Below w.heap.size w w1 → Calls Try.prog 25 #[.slice a N c, .int .i64 0, .int .i64 3] w1 fun e w' => (∃ v', e = .returned v' ∧ UOwn w' w1.heap.size v' C) ∧ Below w1.heap.size w1 w') := fun w1 hb => by rw [hC]; exact LS.out w1 0 3 hb
    rw [← hA] at RD HA
    rw [← hC] at NV HC
    have SJ : Hid (∀ (xs : List Nat) (va vb : Value) (w1 : World), xs.length ≤ 60 → URow w1 va xs → URow w1 vb xs → Calls Try.prog 24 #[va, vb] w1 fun e w' => e = .returned (.bool true) ∧ Below w1.heap.size w1 w') := fun xs va vb w1 hn h1 h2 => by
      refine (samejobs_any va vb xs xs w1 h1 h2 (by omega) (by omega)).mono ?_
      rintro e w' ⟨rfl, hb⟩
      exact ⟨by simp, hb⟩
    clear hA hC LS hf
    go_wp2_with fail
    refine (RD.out _ HB1.out).mono ?_; rintro e w2 ⟨⟨va, rfl, ho2⟩, b2⟩
    have HO2 : Hid (w2.ownsRow w1.heap.size 23 1 va A.length (uL A)) := ho2
    obtain ⟨aa, ac, rfl⟩ := own_slice ho2
    obtain ⟨M, hM⟩ : ∃ M, M = A.length := ⟨_, rfl⟩
    rw [← hM] at HO2
    have HM := Lib.hid hM
    have hM60 : M ≤ 60 := by rw [hM]; exact HA.out
    have HB2 := Lib.hid (below_next b2 HB1.out)
    clear b2 ho2
    rw [← hM]
    clear hM
    go_wp2_with fail
    refine (NV.out _ HB2.out).mono ?_; rintro e w3 ⟨⟨vc, rfl, ho3⟩, b3⟩
    obtain ⟨ca, cc, rfl⟩ := own_slice ho3
    have HB3 := Lib.hid (below_next b3 HB2.out)
    have HO3 := Lib.hid (own_older HO2.out b3)
    have HU3 := Lib.hid (urow_of_own ho3)
    obtain ⟨MC, hMC⟩ : ∃ M, M = C.length := ⟨_, rfl⟩
    rw [← hMC] at HU3 ⊢
    clear b3 ho3 HO2 hMC
    go_wp2_with fail
    refine (LA.out _ HB3.out).mono ?_; rintro e w4 ⟨⟨v4, rfl, ho4⟩, b4⟩
    obtain ⟨a4, c4, rfl⟩ := own_slice ho4
    have HB4 := Lib.hid (below_next b4 HB3.out)
    have HO4 := Lib.hid (own_older HO3.out b4)
    have HU4 := Lib.hid (HU3.out.kept b4)
    have hu4 := urow_of_own ho4
    rw [← HM.out] at hu4 ⊢
    have HV4 := Lib.hid hu4
    clear b4 ho4 HO3 HU3 hu4
    go_wp2_with fail
    refine (SJ.out A _ _ w4 HA.out (urow_len HO4.out HM.out) HV4.out).mono ?_; rintro e w5 ⟨rfl, b5⟩
    have HB5 := Lib.hid (below_next b5 HB4.out)
    have HO5 := Lib.hid (own_older HO4.out b5)
    have HU5 := Lib.hid (HU4.out.kept b5)
    clear b5 HO4 HU4 HV4
    go_wp2_with fail
    refine (LC.out _ HB5.out).mono ?_; rintro e w6 ⟨⟨v6, rfl, ho6⟩, b6⟩
    obtain ⟨a6, c6, rfl⟩ := own_slice ho6
    have HB6 := Lib.hid (below_next b6 HB5.out)
    have HO6 := Lib.hid (own_older HO5.out b6)
    have HU6 := Lib.hid (HU5.out.kept b6)
    have HV6 := Lib.hid (urow_of_own ho6)
    clear b6 ho6 HO5 HU5
    go_wp2_with fail
    refine (SJ.out C _ _ w6 HC.out HU6.out HV6.out).mono ?_; rintro e w7 ⟨rfl, b7⟩
    have HB7 := Lib.hid (below_next b7 HB6.out)
    have HO7 := Lib.hid (own_older HO6.out b7)
    clear b7 HO6 HU6 HV6 LC NV
    go_wp2_with fail
    go_loopw [7] (fun iv wr => ∃ (i : Nat) (xs : List Value), i ≤ M ∧ iv = .int .i64 (i : Nat) ∧ Hid (wr.ownsRow w1.heap.size 23 1 (.slice aa M ac) M xs) ∧ Hid (Below w.heap.size w wr)) (fun iv _ => M - (RowKit.intOf iv).toNat)
    case atStart => exact ⟨0, _, Nat.zero_le _, rfl, HO7.out, HB7.out⟩
    case round =>
      obtain ⟨i, xs, hi, rfl, HO, HB⟩ := hrel
      by_cases hlt : i < M
      · have d1 : decide ((i : Int) < (M : Int)) = true := decide_eq_true (by omega)
        have d1' : decide (i < M) = true := decide_eq_true hlt
        have hii : (i : Int) < (M : Int) := by omega
        obtain ⟨g, rfl, hg1, _⟩ := own_some HO.out (by omega)
        obtain ⟨⟨c0, z0⟩, f0, ho8, hc8⟩ := owns_put HO.out (j := i) (by omega) (.int .u32 0)
        have HO8 := Lib.hid ho8
        have HB8 : Hid (Below w.heap.size w (wr.setCell ⟨g, i, none⟩ (.int .u32 0))) := HB.out.trans (hc8.to_below HB.out.size (fun k hk e => by have := HB1.out.size; omega))
        clear ho8 hc8
        go_wp2_with fail
        go_roundw
        case rel => exact ⟨i + 1, _, hlt, by go_num, HO8.out, HB8.out⟩
        case measure => simp [RowKit.intOf]; omega
      · have d1 : decide ((i : Int) < (M : Int)) = false := decide_eq_false (by omega)
        have d1' : decide (i < M) = false := decide_eq_false hlt
        clear HO
        go_wp2_with fail
        refine (RD.out _ HB.out).mono ?_; rintro e w8 ⟨⟨v8, rfl, ho8⟩, b8⟩
        obtain ⟨a8, c8, rfl⟩ := own_slice ho8
        have HB8 := Lib.hid (below_next b8 HB.out)
        have HU8 := Lib.hid (urow_of_own ho8)
        clear b8 ho8
        go_wp2_with fail
        refine (LA.out _ HB8.out).mono ?_; rintro e w9 ⟨⟨v9, rfl, ho9⟩, b9⟩
        obtain ⟨a9, c9, rfl⟩ := own_slice ho9
        have HB9 := Lib.hid (below_next b9 HB8.out)
        have HU9 := Lib.hid (HU8.out.kept b9)
        have HV9 := Lib.hid (urow_of_own ho9)
        clear b9 ho9 HU8
        go_wp2_with fail
        refine (SJ.out A _ _ w9 HA.out HU9.out HV9.out).mono ?_; rintro e w10 ⟨rfl, b10⟩
        have HB10 := Lib.hid (below_next b10 HB9.out)
        clear b10
        go_wp2_with fail
        refine (K.out _).mono ?_; rintro e w11 ⟨rfl, b11⟩
        have HB11 := below_next b11 HB10.out
        clear b11
        go_wp2_with fail
        go_ret
        exact ⟨by simp, HB11⟩


set_option maxRecDepth 100000 in
theorem lifted (os : Os) (started : os.Started) (H : Type) (enc : TypeId × Value → H) :
    ReturnsInHanded {} Try.checked os 4 .any (Rows.waitsListsSpec.pre6 enc Try.prog Try.f4 Rows.waitsListsRow.domain false) (Rows.waitsListsSpec.post enc Try.prog Try.f4 false true false false) := by
  refine returnsInHanded_of_change (C := Try.checked) own started (by kernel_rfl) Try.func4
    (ChangeSpec.witness6 (enc := enc) (C := Try.checked) false ⟨#[], #[.slice none 0 0, .int .i64 0], []⟩ 8 (by kernel_rfl) (by kernel_rfl) (by kernel_rfl) (by kernel_rfl)) ?_
  intro W base args ds gs before hval0 hW _ _
  have hval : ∀ (j : Nat) t v, Try.f4.params[j]? = some t → args[j]? = some v → Value.okWide Try.prog W .any base t v := hval0
  have hW' := hW
  obtain ⟨p, q, hA0, hV, rfl, hfz, hnd⟩ := hW
  have hA : DataW.TrodAll enc Try.prog W 0 (fun _ => true) true Try.f4.params.toList args.toList ds p := hA0
  rw [Try.params4] at hA hval
  obtain ⟨v0, vs0, d0, ds0, p0, q0, hargs, rfl, rfl, h0, r0⟩ := trodAll_cons hA
  obtain ⟨v1, vs1, d1, ds1, p1, q1, rfl, rfl, rfl, h1, r1⟩ := trodAll_cons r0
  obtain ⟨rfl, rfl, rfl⟩ := trodAll_nil r1
  obtain rfl : args = #[v0, v1] := by cases args; simp_all
  obtain ⟨l, w0⟩ := open_jobs_arg h0 (okWide_slice Try.underlying22 (hval 0 22 v0 rfl rfl))
  obtain ⟨now, rfl, rfl, rfl, w1⟩ := open_int Try.underlying3 (hval 1 3 v1 rfl rfl) h1
  clear hA0 hval0
  refine (walk v0 l now W w0 w1).mono fun e W' ⟨he, hb⟩ => ?_
  subst he
  exact ⟨_, rfl, law_post (by kernel_rfl) (by kernel_rfl) rfl Try.underlying4 rfl hW' rfl hb⟩

theorem over : Rows.waitsListsRow.holds Try.pinned (OpenSpec.ofChange Rows.waitsListsSpec) :=
  OpenClaim.holds_of_wide 4 Try.f4 rfl rfl rfl rfl rfl rfl rfl ⟨rfl, rfl, rfl, rfl, rfl⟩ rfl rfl rfl rfl rfl (by kernel_rfl) Try.func4 (by kernel_rfl)
    (of_decide_eq_true (by kernel_rfl)) (by unfold Func.isWrapper; first | (rw [if_pos (by decide +kernel)]; kernel_rfl) | (rw [if_neg (by decide +kernel)]; exact ⟨rfl, rfl⟩))
    (fun os started H enc _ => lifted os started H enc)

theorem proved : Rows.WaitsListsSaid :=
  over
#print axioms proved
end Go.Proofs.Ytfabjlhepadkpaa.waitsLists
