/-
  WaitsSays: of any jobs how each is, whether it is alone, has room, and may start, is what the chapter says: so the law returns true for every input.
-/
import Derived.Test.YtfabjlhepadkpaaWtNO
import Derived.Test.YtfabjlhepadkpaaWtP
import Derived.Test.YtfabjlhepadkpaaLaw
import Derived.Test.YtfabjlhepadkpaaRows
import Derived.Test.YtfabjlhepadkpaaArgs2
namespace Go.Proofs.Ytfabjlhepadkpaa.waitsSays
open Go.ChangeShapes Go.WideShapes Go.ChangeAt Go.RowKit
set_option linter.unusedVariables false

theorem own : ownKnob Try.prog.godebug = none := by kernel_rfl

open Go Go.ChangeShapes Go.WideShapes Go.ChangeAt Go.RowKit Go.Lib
set_option maxRecDepth 100000 in
set_option maxHeartbeats 4000000 in
theorem walk (v : Value) (l : List Jb) (idz now : Int) (w : World) (h : JArg w v l) (hid : (Lit.int .u32 idz).wf = true) (hnow : (Lit.int .i64 now).wf = true) :
    Calls Try.prog 3 #[v, .int .u32 idz, .int .i64 now] w fun e w' => e = .returned (.bool true) ∧ Below w.heap.size w w' := by
  obtain ⟨u0, u1⟩ := u32_wfJ hid
  obtain ⟨id, rfl⟩ := Int.eq_ofNat_of_zero_le u0
  have hid32 : id < 4294967296 := by omega
  have MN := Lib.hid (many14_any v l w h)
  have K : Hid (∀ w1, Calls Try.prog 11 #[] w1 fun e w' => e = .returned (.bool true) ∧ Below w1.heap.size w1 w') := known14_any
  have HL := Lib.hid h
  obtain ⟨a, c, rfl⟩ := h.row.slice
  obtain ⟨N, hN⟩ : ∃ N, N = l.length := ⟨_, rfl⟩
  rw [← hN] at MN ⊢
  have HN := Lib.hid hN
  clear h hN hid hnow u0 u1
  go_enter Try.func3, Try.ntmps3
  go_wp2_with fail
  refine MN.out.mono ?_; rintro e w1 ⟨hm, b1⟩
  have HB1 := Lib.hid b1
  clear b1 MN
  rcases hm with rfl | ⟨rfl, hf⟩
  · go_wp2_with fail
    refine (K.out _).mono ?_; rintro e w2 ⟨rfl, b2⟩
    have HB2 := below_next b2 HB1.out
    clear b2
    go_wp2_with fail
    go_ret
    exact ⟨rfl, HB2⟩
  · have HJ := Lib.hid (HL.out.few hf)
    have hlen : N ≤ 60 := by rw [HN.out]; exact hf.1
    have CA : Hid (∀ w1, Below w.heap.size w w1 → Calls Try.prog 12 #[.slice a N c] w1 fun e w' => e = .returned (.int .i64 (chkJ l)) ∧ Below w1.heap.size w1 w') := fun w1 hb => by rw [HN.out]; exact wcheck_any _ l w1 (HJ.out.kept hb)
    have CB : Hid (∀ w1, Below w.heap.size w w1 → Calls Try.prog 13 #[.slice a N c] w1 fun e w' => e = .returned (.int .i64 (chkJ l)) ∧ w' = w1) := fun w1 hb => by rw [HN.out]; exact rcheck14_any _ l w1 (HJ.out.kept hb)
    have AA : Hid (∀ w1, Below w.heap.size w w1 → Calls Try.prog 16 #[.slice a N c, .int .u32 (id : Nat)] w1 fun e w' => e = .returned (.bool (AloneJ l id)) ∧ Below w1.heap.size w1 w') := fun w1 hb => by rw [HN.out]; exact Alone_any _ l id w1 (HJ.out.kept hb) hid32
    have AB : Hid (∀ w1, Below w.heap.size w w1 → Calls Try.prog 17 #[.slice a N c, .int .u32 (id : Nat)] w1 fun e w' => e = .returned (.bool (AloneJ l id)) ∧ Below w1.heap.size w1 w') := fun w1 hb => by rw [HN.out]; exact rAlone_any _ l id w1 (HJ.out.kept hb) hid32
    have RA : Hid (∀ w1, Below w.heap.size w w1 → Calls Try.prog 18 #[.slice a N c, .int .u32 (id : Nat)] w1 fun e w' => e = .returned (.bool (RoomJ l id)) ∧ Below w1.heap.size w1 w') := fun w1 hb => by rw [HN.out]; exact Room_any _ l id w1 (HJ.out.kept hb) hid32
    have RB : Hid (∀ w1, Below w.heap.size w w1 → Calls Try.prog 19 #[.slice a N c, .int .u32 (id : Nat)] w1 fun e w' => e = .returned (.bool (RoomJ l id)) ∧ Below w1.heap.size w1 w') := fun w1 hb => by rw [HN.out]; exact rRoom_any _ l id w1 (HJ.out.kept hb) hid32
    have SA : Hid (∀ w1, Below w.heap.size w w1 → Calls Try.prog 20 #[.slice a N c, .int .u32 (id : Nat), .int .i64 now] w1 fun e w' => e = .returned (.int .i64 (SayJ l id now)) ∧ Below w1.heap.size w1 w') := fun w1 hb => by rw [HN.out]; exact Say14_any _ l id now w1 (HJ.out.kept hb) hid32
    have SB : Hid (∀ w1, Below w.heap.size w w1 → Calls Try.prog 21 #[.slice a N c, .int .u32 (id : Nat), .int .i64 now] w1 fun e w' => e = .returned (.int .i64 (SayJ l id now)) ∧ Below w1.heap.size w1 w') := fun w1 hb => by rw [HN.out]; exact rSay_any _ l id now w1 (HJ.out.kept hb) hid32
    obtain ⟨ck, hck⟩ : ∃ x, x = chkJ l := ⟨_, rfl⟩
    obtain ⟨ao, hao⟩ : ∃ x, x = AloneJ l id := ⟨_, rfl⟩
    obtain ⟨ro, hro⟩ : ∃ x, x = RoomJ l id := ⟨_, rfl⟩
    obtain ⟨so, hso⟩ : ∃ x, x = SayJ l id now := ⟨_, rfl⟩
    rw [← hck] at CA CB
    rw [← hao] at AA AB
    rw [← hro] at RA RB
    rw [← hso] at SA SB
    clear hck hao hro hso hf
    go_wp2_with fail
    refine (CA.out _ HB1.out).mono ?_; rintro e w2 ⟨rfl, b2⟩
    have HB2 := Lib.hid (below_next b2 HB1.out)
    clear b2
    go_wp2_with fail
    refine (CB.out _ HB2.out).mono ?_; rintro e w3 ⟨rfl, hw⟩
    replace hw := hw.symm; subst hw
    clear CA CB
    go_wp2_with fail
    go_loopw [7] (fun iv wr => ∃ i : Nat, i ≤ N ∧ iv = .int .i64 (i : Nat) ∧ Hid (Below w.heap.size w wr)) (fun iv _ => N - (RowKit.intOf iv).toNat)
    case atStart => exact ⟨0, Nat.zero_le _, rfl, HB2.out⟩
    case round =>
      obtain ⟨i, hi, rfl, HB⟩ := hrel
      by_cases hlt : i < N
      · have d1 : decide ((i : Int) < (N : Int)) = true := decide_eq_true (by omega)
        have d1' : decide (i < N) = true := decide_eq_true hlt
        have hii : (i : Int) < (N : Int) := by omega
        have hik : i < l.length := by rw [← HN.out]; exact hlt
        have HRG : ∀ w', Below w.heap.size w w' → ∃ b off, a = some ⟨b, off, none⟩ ∧ w'.rangeAt b (off + i * 26) (jbV l[i]) := fun w' hb => JRw.at HJ.out hb hik
        obtain ⟨bb, off, e, hrg⟩ := HRG wr HB.out
        subst e
        have HRN : Hid (∀ w', Below w.heap.size w w' → w'.rangeAt bb (off + i * 26) (jbV l[i])) := fun w' hb => by
          obtain ⟨b', o', e', h'⟩ := HRG w' hb
          injection e' with e'; injection e' with e1 e2; subst e1; subst e2
          exact h'
        obtain ⟨o, ho⟩ : ∃ o, o = l[i] := ⟨_, rfl⟩
        rw [← ho] at HRN
        have HA : Hid (∀ w1, Calls Try.prog 14 #[.agg (jbC o)] w1 fun e w' => e = .returned (.int .i64 (howJ o.how)) ∧ Below w1.heap.size w1 w') := fun w1 => how_any o w1
        have HC : Hid (∀ w1, Calls Try.prog 15 #[.agg (jbC o)] w1 fun e w' => e = .returned (.int .i64 (howJ o.how)) ∧ Below w1.heap.size w1 w') := fun w1 => rhow14_any o w1
        obtain ⟨hv, hhv⟩ : ∃ x, x = howJ o.how := ⟨_, rfl⟩
        rw [← hhv] at HA HC
        clear hrg HRG ho hhv AA AB RA RB SA SB
        go_wp2_with fail
        refine wp_region_held_drew (S := fun w' => Below w.heap.size w w') (by kernel_rfl) (by
          first
            | exact HB.out.drew
          ) (fun hHeld => ?_)
        refine wpAnyH_take (i := 0) (oi := { dst := some 22, op := Op.move (Operand.tmp 0), type := 22, pos := "law.go:58", after := #[], guard := none }) (v := ?_) rfl (by kernel_rfl) (by kernel_rfl) (by kernel_rfl) (fun _ _ _ h => h) (Or.inl ⟨by kernel_rfl, ?_⟩) (by assumption) ?_
        rotate_left
        · (intro w hSw; (try dsimp only at hSw); go_simp; try with_reducible rfl)
        try simp only [Act.put, List.setIfInBounds_toArray, List.set_cons_zero, List.set_cons_succ]
        refine wpAnyH_take (i := 1) (oi := { dst := some 23, op := Op.move (Operand.tmp 7), type := 3, pos := "law.go:58", after := #[], guard := none }) (v := ?_) rfl (by kernel_rfl) (by kernel_rfl) (by kernel_rfl) (fun _ _ _ h => h) (Or.inl ⟨by kernel_rfl, ?_⟩) (by assumption) ?_
        rotate_left
        · (intro w hSw; (try dsimp only at hSw); go_simp; try with_reducible rfl)
        try simp only [Act.put, List.setIfInBounds_toArray, List.set_cons_zero, List.set_cons_succ]
        refine wpAnyH_take (i := 2) (oi := { dst := some 24, op := Op.indexAddr 22 (Operand.tmp 22) (Operand.tmp 23), type := 0, pos := "law.go:58", after := #[{ on := 0, ground := Ground.data }, { on := 1, ground := Ground.data }], guard := none }) (v := ?_) rfl (by kernel_rfl) (by kernel_rfl) (by kernel_rfl) (fun _ _ _ h => h) (Or.inl ⟨by kernel_rfl, ?_⟩) (by assumption) ?_
        rotate_left
        · (intro w hSw; (try dsimp only at hSw); go_simp; try with_reducible rfl)
        try simp only [Act.put, List.setIfInBounds_toArray, List.set_cons_zero, List.set_cons_succ]
        refine wpAnyH_take (i := 3) (oi := { dst := some 25, op := Op.load 41 (Operand.tmp 24), type := 41, pos := "law.go:58", after := #[{ on := 2, ground := Ground.data }], guard := none }) (v := .agg (jbC o)) rfl (by kernel_rfl) (by kernel_rfl) (by kernel_rfl) (fun _ _ _ h => h) (yieldsIf_load_mid (by kernel_rfl) _ _ rfl _ _ rfl (jbV o) _ (fun w hSw => HRN.out w hSw) Try.underlying41 rfl Try.sizeJb) (by assumption) ?_
        try simp only [Act.put, List.setIfInBounds_toArray, List.set_cons_zero, List.set_cons_succ]
        refine wpAnyH_take (i := 5) (oi := { dst := some 27, op := Op.move (Operand.tmp 0), type := 22, pos := "law.go:58", after := #[], guard := none }) (v := ?_) rfl (by kernel_rfl) (by kernel_rfl) (by kernel_rfl) (fun _ _ _ h => h) (Or.inl ⟨by kernel_rfl, ?_⟩) (by assumption) ?_
        rotate_left
        · (intro w hSw; (try dsimp only at hSw); go_simp; try with_reducible rfl)
        try simp only [Act.put, List.setIfInBounds_toArray, List.set_cons_zero, List.set_cons_succ]
        refine wpAnyH_take (i := 6) (oi := { dst := some 28, op := Op.move (Operand.tmp 7), type := 3, pos := "law.go:58", after := #[], guard := none }) (v := ?_) rfl (by kernel_rfl) (by kernel_rfl) (by kernel_rfl) (fun _ _ _ h => h) (Or.inl ⟨by kernel_rfl, ?_⟩) (by assumption) ?_
        rotate_left
        · (intro w hSw; (try dsimp only at hSw); go_simp; try with_reducible rfl)
        try simp only [Act.put, List.setIfInBounds_toArray, List.set_cons_zero, List.set_cons_succ]
        refine wpAnyH_take (i := 7) (oi := { dst := some 29, op := Op.indexAddr 22 (Operand.tmp 27) (Operand.tmp 28), type := 0, pos := "law.go:58", after := #[{ on := 5, ground := Ground.data }, { on := 6, ground := Ground.data }], guard := none }) (v := ?_) rfl (by kernel_rfl) (by kernel_rfl) (by kernel_rfl) (fun _ _ _ h => h) (Or.inl ⟨by kernel_rfl, ?_⟩) (by assumption) ?_
        rotate_left
        · (intro w hSw; (try dsimp only at hSw); go_simp; try with_reducible rfl)
        try simp only [Act.put, List.setIfInBounds_toArray, List.set_cons_zero, List.set_cons_succ]
        refine wpAnyH_take (i := 8) (oi := { dst := some 30, op := Op.load 41 (Operand.tmp 29), type := 41, pos := "law.go:58", after := #[{ on := 7, ground := Ground.data }], guard := none }) (v := .agg (jbC o)) rfl (by kernel_rfl) (by kernel_rfl) (by kernel_rfl) (fun _ _ _ h => h) (yieldsIf_load_mid (by kernel_rfl) _ _ rfl _ _ rfl (jbV o) _ (fun w hSw => HRN.out w hSw) Try.underlying41 rfl Try.sizeJb) (by assumption) ?_
        try simp only [Act.put, List.setIfInBounds_toArray, List.set_cons_zero, List.set_cons_succ]
        refine wpAnyH_ready (rs := [4]) (by kernel_rfl) (by simp) ?_
        refine AllReadyH.cons (o := { dst := some 26, op := Op.call { callee := Callee.value (Operand.func 14), args := #[Operand.tmp 25], argTypes := #[41] }, type := 3, pos := "law.go:58", after := #[{ on := 3, ground := Ground.data }], guard := none }) rfl (fun K hK => ?_) AllReadyH.nil
        go_simp
        (with_reducible refine (HA.out _).mono ?_)
        rintro e w5 ⟨rfl, b5⟩
        try go_wp2_with fail
        refine hK.out _ _ ?_ (fun hHeld => ?_)
        · first
            | exact below_next b5 hHeld
        clear hK K
        try simp only [Act.put, List.setIfInBounds_toArray, List.set_cons_zero, List.set_cons_succ]
        refine wpAnyH_ready (rs := [9]) (by kernel_rfl) (by simp) ?_
        refine AllReadyH.cons (o := { dst := some 31, op := Op.call { callee := Callee.value (Operand.func 15), args := #[Operand.tmp 30], argTypes := #[41] }, type := 3, pos := "law.go:58", after := #[{ on := 8, ground := Ground.data }, { on := 4, ground := Ground.chain }], guard := none }) rfl (fun K hK => ?_) AllReadyH.nil
        go_simp
        (with_reducible refine (HC.out _).mono ?_)
        rintro e w5 ⟨rfl, b5⟩
        try go_wp2_with fail
        refine hK.out _ _ ?_ (fun hHeld => ?_)
        · first
            | exact below_next b5 hHeld
        clear hK K
        try simp only [Act.put, List.setIfInBounds_toArray, List.set_cons_zero, List.set_cons_succ]
        refine wpAnyH_take (i := 10) (oi := { dst := some 32, op := Op.binOp BinOp.neq 3 (Operand.tmp 26) (Operand.tmp 31) 3, type := 4, pos := "law.go:58", after := #[{ on := 4, ground := Ground.data }, { on := 9, ground := Ground.data }], guard := none }) (v := ?_) rfl (by kernel_rfl) (by kernel_rfl) (by kernel_rfl) (fun _ _ _ h => h) (Or.inl ⟨by kernel_rfl, ?_⟩) (by assumption) ?_
        rotate_left
        · (intro w hSw; (try dsimp only at hSw); go_simp; try with_reducible rfl)
        try simp only [Act.put, List.setIfInBounds_toArray, List.set_cons_zero, List.set_cons_succ]
        refine wpAnyH_done (by kernel_rfl) ?_ _
        have HB5 := Lib.hid hHeld
        clear b5 hHeld
        go_wp2_with fail
        go_roundw
        case rel => exact ⟨i + 1, hlt, by go_num, HB5.out⟩
        case measure => simp [RowKit.intOf]; omega
      · have d1 : decide ((i : Int) < (N : Int)) = false := decide_eq_false (by omega)
        have d1' : decide (i < N) = false := decide_eq_false hlt
        go_wp2_with fail
        refine (AA.out _ HB.out).mono ?_; rintro e w10 ⟨rfl, b10⟩
        have Hb10 := Lib.hid (below_next b10 HB.out)
        clear b10 AA
        go_wp2_with fail
        refine (AB.out _ Hb10.out).mono ?_; rintro e w11 ⟨rfl, b11⟩
        have Hb11 := Lib.hid (below_next b11 Hb10.out)
        clear b11 AB
        go_wp2_with fail
        refine (RA.out _ Hb11.out).mono ?_; rintro e w12 ⟨rfl, b12⟩
        have Hb12 := Lib.hid (below_next b12 Hb11.out)
        clear b12 RA
        go_wp2_with fail
        refine (RB.out _ Hb12.out).mono ?_; rintro e w13 ⟨rfl, b13⟩
        have Hb13 := Lib.hid (below_next b13 Hb12.out)
        clear b13 RB
        go_wp2_with fail
        refine (SA.out _ Hb13.out).mono ?_; rintro e w14 ⟨rfl, b14⟩
        have Hb14 := Lib.hid (below_next b14 Hb13.out)
        clear b14 SA
        go_wp2_with fail
        refine (SB.out _ Hb14.out).mono ?_; rintro e w15 ⟨rfl, b15⟩
        have Hb15 := Lib.hid (below_next b15 Hb14.out)
        clear b15 SB
        go_wp2_with fail
        refine (K.out _).mono ?_; rintro e w16 ⟨rfl, b16⟩
        have HB16 := below_next b16 Hb15.out
        clear b16
        go_wp2_with fail
        go_ret
        exact ⟨by simp, HB16⟩


set_option maxRecDepth 100000 in
theorem lifted (os : Os) (started : os.Started) (H : Type) (enc : TypeId × Value → H) :
    ReturnsInHanded {} Try.checked os 3 .any (Rows.waitsSaysSpec.pre6 enc Try.prog Try.f3 Rows.waitsSaysRow.domain false) (Rows.waitsSaysSpec.post enc Try.prog Try.f3 false true false false) := by
  refine returnsInHanded_of_change (C := Try.checked) own started (by kernel_rfl) Try.func3
    (ChangeSpec.witness6 (enc := enc) (C := Try.checked) false ⟨#[], #[.slice none 0 0, .int .u32 0, .int .i64 0], []⟩ 8 (by kernel_rfl) (by kernel_rfl) (by kernel_rfl) (by kernel_rfl)) ?_
  intro W base args ds gs before hval0 hW _ _
  have hval : ∀ (j : Nat) t v, Try.f3.params[j]? = some t → args[j]? = some v → Value.okWide Try.prog W .any base t v := hval0
  have hW' := hW
  obtain ⟨p, q, hA0, hV, rfl, hfz, hnd⟩ := hW
  have hA : DataW.TrodAll enc Try.prog W 0 (fun _ => true) true Try.f3.params.toList args.toList ds p := hA0
  rw [Try.params3] at hA hval
  obtain ⟨v0, vs0, d0, ds0, p0, q0, hargs, rfl, rfl, h0, r0⟩ := trodAll_cons hA
  obtain ⟨v1, vs1, d1, ds1, p1, q1, rfl, rfl, rfl, h1, r1⟩ := trodAll_cons r0
  obtain ⟨v2, vs2, d2, ds2, p2, q2, rfl, rfl, rfl, h2, r2⟩ := trodAll_cons r1
  obtain ⟨rfl, rfl, rfl⟩ := trodAll_nil r2
  obtain rfl : args = #[v0, v1, v2] := by cases args; simp_all
  obtain ⟨l, w0⟩ := open_jobs_arg h0 (okWide_slice Try.underlying22 (hval 0 22 v0 rfl rfl))
  obtain ⟨idz, rfl, rfl, rfl, w1⟩ := open_int Try.underlying23 (hval 1 23 v1 rfl rfl) h1
  obtain ⟨now, rfl, rfl, rfl, w2⟩ := open_int Try.underlying3 (hval 2 3 v2 rfl rfl) h2
  clear hA0 hval0
  refine (walk v0 l idz now W w0 w1 w2).mono fun e W' ⟨he, hb⟩ => ?_
  subst he
  exact ⟨_, rfl, law_post (by kernel_rfl) (by kernel_rfl) rfl Try.underlying4 rfl hW' rfl hb⟩

theorem over : Rows.waitsSaysRow.holds Try.pinned (OpenSpec.ofChange Rows.waitsSaysSpec) :=
  OpenClaim.holds_of_wide 3 Try.f3 rfl rfl rfl rfl rfl rfl rfl ⟨rfl, rfl, rfl, rfl, rfl⟩ rfl rfl rfl rfl rfl (by kernel_rfl) Try.func3 (by kernel_rfl)
    (of_decide_eq_true (by kernel_rfl)) (by unfold Func.isWrapper; first | (rw [if_pos (by decide +kernel)]; kernel_rfl) | (rw [if_neg (by decide +kernel)]; exact ⟨rfl, rfl⟩))
    (fun os started H enc _ => lifted os started H enc)

theorem proved : Rows.WaitsSaysSaid :=
  over
#print axioms proved
end Go.Proofs.Ytfabjlhepadkpaa.waitsSays
