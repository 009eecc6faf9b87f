/-
  BookTells: of any charges whether they are a book, an account's total, a job's seconds and runs, are what the chapter says: so the law returns true for every input, the listed tables of Go's library reading as the program's text lays them.
-/
import Derived.Test.YtlafjjdponeeeaaDoorBkW
import Derived.Test.YtlafjjdponeeeaaDoorBkRt
import Derived.Test.YtlafjjdponeeeaaDoorRows
import Derived.Test.YtlafjjdponeeeaaDoorArgs2
import Derived.Test.YtlafjjdponeeeaaDoorLaid
import Derived.Test.YtlafjjdponeeeaaDoorCards
import Derived.Test.YtlafjjdponeeeaaDoorTie
import Derived.MakeChecks
import Derived.SevenTiedAt
namespace Go.Proofs.YtlafjjdponeeeaaDoor.bookTells
open Go.ChangeShapes Go.WideShapes Go.ChangeAt Go.RowKit
set_option linter.unusedVariables false

theorem own : ownKnob Tryd.prog.godebug = none := by kernel_rfl

theorem many_no {l : List Chg} {account : ByteArray} (h : manyN l account = false) : l.length ≤ 3000 ∧ account.size ≤ 300 ∧ ∀ c ∈ l, c.acct.size ≤ 300 := by
  unfold manyN at h
  simp only [Bool.or_eq_false_iff, decide_eq_false_iff_not, List.any_eq_false, decide_eq_true_eq] at h
  exact ⟨by omega, by omega, fun c hc => by have := h.2 c hc; omega⟩
open Go Go.RowKit Go.Lib in
set_option maxRecDepth 100000 in
set_option maxHeartbeats 8000000 in
theorem walk (v : Value) (l : List Chg) (account : ByteArray) (id : Int) (w : World) (hE : EnvB w) (hl : ChArg w v l) (hac : account.size ≤ maxLen) (wid : (Lit.int .u32 id).wf = true) :
    Calls Tryd.prog 4 #[v, .string account, .int .u32 id] w fun e w' => e = .returned (.bool true) ∧ Below w.heap.size w w' := by
  have K : Hid (∀ w1, Below w.heap.size w w1 → Calls Tryd.prog 8 #[] w1 fun e w' => e = .returned (.bool true) ∧ Below w1.heap.size w1 w') := fun w1 hb => known20_any w1 (hE.next hb)
  obtain ⟨hrow, hok⟩ := hl
  have MN : Hid (Calls Tryd.prog 11 #[v, .string account] w fun e w'' => e = .returned (.bool (manyN l account)) ∧ w'' = w) := many20_any v l account w hrow
  have K0 := Lib.hid (K.out _ (Below.refl _ _))
  cases hm : manyN l account
  case true =>
    rw [hm] at MN
    clear hrow hok hE wid hac
    go_enter Tryd.func4, Tryd.ntmps4
    go_wp2_with fail
    refine MN.out.mono ?_; rintro e w1 ⟨rfl, hw1⟩
    obtain rfl := hw1
    go_wp2_with fail
    refine K0.out.mono ?_; rintro e w2 ⟨rfl, b2⟩
    go_wp2_with fail
    go_ret
    exact ⟨rfl, b2⟩
  rw [hm] at MN
  obtain ⟨_, has, hls⟩ := many_no hm
  have hwf : ∀ c ∈ l, ChWf c := fun c hc => (hok c hc).wf (hls c hc)
  have OF1 := Lib.hid (ofBk_any v l id w hrow hwf hE.u8)
  have OF2 : Hid (∀ w', Below w.heap.size w w' → Calls Tryd.prog 13 #[v, .int .u32 id] w' fun e w'' => e = .returned (.tuple #[.int .i64 (ofCh l id).1, .int .i64 (ofCh l id).2]) ∧ Below w'.heap.size w' w'') := fun w' hb => refOf_any v l id w' (hrow.kept hb) hwf
  have CK1 : Hid (∀ w', Below w.heap.size w w' → Calls Tryd.prog 14 #[v] w' fun e w'' => e = .returned (.int .i64 (chkCh l)) ∧ Below w'.heap.size w' w'') := fun w' hb => check_ch v l w' (hrow.kept hb) hwf (hE.u8.next hb)
  have CK2 : Hid (∀ w', Below w.heap.size w w' → Calls Tryd.prog 15 #[v] w' fun e w'' => e = .returned (.int .i64 (chkCh l)) ∧ Below w'.heap.size w' w'') := fun w' hb => refCheck_ch v l w' (hrow.kept hb) hwf
  have TT1 : Hid (∀ w', Below w.heap.size w w' → Calls Tryd.prog 16 #[v, .string account] w' fun e w'' => e = .returned (.int .i64 (totCh l account)) ∧ Below w'.heap.size w' w'') := fun w' hb => total_any v l account w' (hrow.kept hb) hwf (hE.u8.next hb) (by omega)
  have TT2 : Hid (∀ w', Below w.heap.size w w' → Calls Tryd.prog 17 #[v, .string account] w' fun e w'' => e = .returned (.int .i64 (totCh l account)) ∧ Below w'.heap.size w' w'') := fun w' hb => refTotal_any v l account w' (hrow.kept hb) hwf
  generalize totCh l account = T at *
  generalize chkCh l = E at *
  generalize (ofCh l id).1 = S at *
  generalize (ofCh l id).2 = n at *
  have e1 : (T == T) = true := by simp
  have e2 : (E == E) = true := by simp
  have e3 : (S == S) = true := by simp
  have e4 : (n == n) = true := by simp
  have e5 : ((n : Int) == (n : Int)) = true := by simp
  clear hrow hok hE wid hac hls hwf hm has
  go_enter Tryd.func4, Tryd.ntmps4
  go_wp2_with fail
  refine MN.out.mono ?_; rintro e w1 ⟨rfl, hw1⟩
  obtain rfl := hw1
  go_wp2_with fail
  refine OF1.out.mono ?_; rintro e w2 ⟨rfl, b2⟩
  have B2 := Lib.hid b2
  have OF2' := Lib.hid (OF2.out _ b2)
  clear b2 OF1 OF2 MN K0
  go_wp2_with fail
  refine OF2'.out.mono ?_; rintro e w3 ⟨rfl, b3⟩
  have B3 := Lib.hid (below_next b3 B2.out)
  have C1 := Lib.hid (CK1.out _ B3.out)
  clear b3 OF2' B2 CK1
  go_wp2_with fail
  refine C1.out.mono ?_; rintro e w4 ⟨rfl, b4⟩
  have B4 := Lib.hid (below_next b4 B3.out)
  have C2 := Lib.hid (CK2.out _ B4.out)
  clear b4 C1 B3 CK2
  go_wp2_with fail
  refine C2.out.mono ?_; rintro e w5 ⟨rfl, b5⟩
  have B5 := Lib.hid (below_next b5 B4.out)
  have T1 := Lib.hid (TT1.out _ B5.out)
  clear b5 C2 B4 TT1
  go_wp2_with fail
  refine T1.out.mono ?_; rintro e w6 ⟨rfl, b6⟩
  have B6 := Lib.hid (below_next b6 B5.out)
  have T2 := Lib.hid (TT2.out _ B6.out)
  clear b6 T1 B5 TT2
  go_wp2_with fail
  refine T2.out.mono ?_; rintro e w7 ⟨rfl, b7⟩
  have B7 := Lib.hid (below_next b7 B6.out)
  have K7 := Lib.hid (K.out _ B7.out)
  clear b7 T2 B6 K
  go_wp2_with fail
  refine K7.out.mono ?_; rintro e w8 ⟨rfl, b8⟩
  have B8 := Lib.hid (below_next b8 B7.out)
  clear b8 K7 B7
  go_wp2_with fail
  go_ret
  exact ⟨rfl, B8.out⟩


set_option maxRecDepth 100000 in
theorem lifted (os : Os) (started : os.Started) (H : Type) (enc : TypeId × Value → H) :
    ReturnsInHanded {} Tryd.checked os 4 .any (fun w args => (Rows.bookTellsSpec.pre enc Tryd.prog Tryd.f4 Rows.bookTellsRow.domain false w args ∧ laidMetH Tryd.prog laid20 w) ∧ sizedMet enc Tryd.prog Tryd.f4 (OpenSpec.ofChange Rows.bookTellsSpec) false w args) (Rows.bookTellsSpec.post enc Tryd.prog Tryd.f4 false true false false) := by
  refine laid_lift (C := Tryd.checked) (X := fun w _ => laidMetH Tryd.prog laid20 w) (fun _ _ _ hh h => h.of_heap hh) own started (by kernel_rfl) Tryd.func4
    (ChangeSpec.witness_shaped (enc := enc) (C := Tryd.checked) (os := os) (X := fun w _ => laidMetH Tryd.prog laid20 w) false (World.laidAll Tryd.prog os laid20) #[.slice none 0 0, .string ByteArray.empty, .int .u32 0] 8 (World.laidAll_os _ _ _)
      (World.shaped_of_ZipB (by kernel_rfl) (by kernel_rfl)) (by kernel_rfl) (by kernel_rfl) (by kernel_rfl)
      (by rw [MakeChecks.laidMetH_plain _ _ _ (by kernel_rfl)]; exact laidMet_laidAll _ (by kernel_rfl) (by kernel_rfl))) ?_
  intro W base args ds gs before hval0 hW hsz0 hL hS
  have hE := env20_of hL hS
  have hval : ∀ (j : Nat) t v, Tryd.f4.params[j]? = some t → args[j]? = some v → Value.okWide Tryd.prog W .any base t v := hval0
  have hW' := hW
  obtain ⟨p, q, hA0, hV, rfl, hfz, hnd⟩ := hW
  have hA : DataW.TrodAll enc Tryd.prog W 0 (fun _ => true) true Tryd.f4.params.toList args.toList ds p := hA0
  rw [Tryd.params4] at hA hval
  obtain ⟨v0, vs0, d0, ds0, p0, q0, hargs, rfl, rfl, h0, r0⟩ := trodAll_cons hA
  obtain ⟨v1, vs1, d1, ds1, p1, q1, rfl, rfl, rfl, h1, r1⟩ := trodAll_cons r0
  obtain ⟨v2, vs2, d2, ds2, p2, q2, rfl, rfl, rfl, h2, r2⟩ := trodAll_cons r1
  obtain ⟨rfl, rfl, rfl⟩ := trodAll_nil r2
  obtain rfl : args = #[v0, v1, v2] := by cases args; simp_all
  obtain ⟨l, w0⟩ := open_charges_arg h0 (okWide_slice Tryd.underlying32 (hval 0 32 v0 rfl rfl))
  obtain ⟨account, rfl, w1⟩ := open_string_arg Tryd.underlying9 (hval 1 9 v1 rfl rfl) h1
  obtain ⟨id, rfl, rfl, rfl, w2⟩ := open_int Tryd.underlying22 (hval 2 22 v2 rfl rfl) h2
  clear hA0 hval0
  refine (walk v0 l account id W hE w0 w1 w2).mono fun e W' ⟨he, hb⟩ => ?_
  subst he
  exact ⟨_, rfl, law_post (by kernel_rfl) (by kernel_rfl) rfl Tryd.underlying4 rfl hW' rfl hb⟩

theorem over : Rows.bookTellsRow.holds Tryd.pinned (OpenSpec.ofChange Rows.bookTellsSpec) :=
  OpenClaim.holds_of_wide 4 Tryd.f4 rfl rfl rfl rfl rfl rfl rfl ⟨rfl, rfl, rfl, rfl, rfl⟩ rfl rfl rfl rfl rfl (by kernel_rfl) Tryd.func4 (by kernel_rfl)
    (of_decide_eq_true (by kernel_rfl)) (by unfold Func.isWrapper; first | (rw [if_pos (by decide +kernel)]; kernel_rfl) | (rw [if_neg (by decide +kernel)]; exact ⟨rfl, rfl⟩))
    (fun os started H enc _ => lifted os started H enc)

theorem proved : Rows.BookTellsCardSaid :=
  Claim7.holds_tied_plain_at .later [] _ true _ false over (fun _ h => by cases h) (by kernel_rfl) (fun _ h => by cases h) bookTells_row_tie rfl ⟨rfl, rfl⟩ (by kernel_rfl) rfl
    (fun f fn hf hfn => by
      obtain rfl : f = 4 := Option.some.inj ((show Tryd.prog.funcNamed "ganger/gangerlaw20.BookTells" = some 4 by kernel_rfl).symm.trans hf) |>.symm
      obtain rfl : fn = Tryd.f4 := (Option.some.inj (Tryd.func4.symm.trans hfn)).symm
      exact ⟨by kernel_rfl, fun j t ht => by
        rw [Tryd.params4] at ht
        have hm : t ∈ [32, 9, 22] := by simpa using Array.mem_of_getElem? ht
        have hall : ([32, 9, 22].all fun u => !Tryd.prog.wantsStandIn u) = true := by kernel_rfl
        exact (show Tryd.prog.wantsStandIn t = false by simpa using List.all_eq_true.1 hall t hm)⟩)
    (by kernel_rfl)
#print axioms proved
end Go.Proofs.YtlafjjdponeeeaaDoor.bookTells
