/-
  TapeNil: a tape that is not there answers so, a spool that is not there, or is off, is refused, whatever the bytes: so the law returns true for every input.
-/
import Derived.Test.YtgohnidndjbjiaaTapeP
import Derived.Test.YtgohnidndjbjiaaOpen
import Derived.Test.YtgohnidndjbjiaaRows
import Derived.Test.YtgohnidndjbjiaaArgs2
namespace Go.Proofs.Ytgohnidndjbjiaa.tapeNil
open Go.ChangeShapes Go.WideShapes Go.ChangeAt Go.RowKit
set_option linter.unusedVariables false

theorem own : ownKnob Try.prog.godebug = none := by kernel_rfl

open Go.Lib
theorem long (A : Option Addr) (n c : Nat) (w : World) (h : 300 < n) :
    Calls Try.prog 7 #[.slice A n c] w fun e w' => e = .returned (.bool true) ∧ Below w.heap.size w w' := by
  have HK := Lib.hid (known19_any w)
  have t : decide ((n : Int) > 300) = true := decide_eq_true (by omega)
  clear h
  go_enter Try.func7, Try.ntmps7
  go_wp2_with fail
  refine HK.out.mono ?_; rintro e w1 ⟨rfl, b1⟩
  go_wp2_with fail
  go_returns
  exact ⟨rfl, b1⟩
set_option maxRecDepth 100000 in
theorem short (A : Option Addr) (n c : Nat) (w : World) (h : n ≤ 300) :
    Calls Try.prog 7 #[.slice A n c] w fun e w' => e = .returned (.bool true) ∧ Below w.heap.size w w' := by
  have t : decide ((n : Int) > 300) = false := decide_eq_false (by omega)
  have HN := Lib.hid (new_any 100 w w.heap.size (by decide) (by decide) (Nat.le_refl _))
  clear h
  go_enter Try.func7, Try.ntmps7
  go_wp2_with fail
  refine (open_nil w).mono ?_; rintro e w ⟨rfl, rfl⟩
  go_wp2_with fail
  refine HN.out.mono ?_; rintro e w1 ⟨rfl, hs1, hb1, _⟩
  have S1 := Lib.hid hs1
  have B1 := Lib.hid hb1
  clear hs1 hb1
  go_wp2_with fail
  refine (off_at (k := 0) (s' := ⟨100, [], 0, 0, false⟩) rfl (by decide) S1.out).mono ?_; rintro e w2 ⟨rfl, N2, _, hs2, hf2⟩
  have S2 := Lib.hid hs2
  have B2 := Lib.hid (B1.out.trans (S1.out.below hf2))
  clear hs2 hf2
  go_wp2_with fail
  refine (sync_at (s' := ⟨100, [], 0, 0, true⟩) (n := 190) rfl S2.out).mono ?_; rintro e w3 ⟨rfl, N3, _, hs3, hf3⟩
  have S3 := Lib.hid hs3
  have B3 := Lib.hid (B2.out.trans (S2.out.below hf3))
  clear hs3 hf3
  go_wp2_with fail
  refine (open_off S3.out rfl).mono ?_; rintro e w3 ⟨rfl, rfl⟩
  go_wp2_with fail
  refine (tapeAdd_nil _ _).mono ?_; rintro e w4 ⟨rfl, hb4⟩
  have B4 := Lib.hid (B3.out.trans (hb4.mono B3.out.size))
  clear hb4
  go_wp2_with fail
  refine (tapePack_nil _ _).mono ?_; rintro e w5 ⟨rfl, hb5⟩
  have B5 := Lib.hid (B4.out.trans (hb5.mono B4.out.size))
  clear hb5
  go_wp2_with fail
  refine (records_nil _).mono ?_; rintro e w5 ⟨rfl, rfl⟩
  go_wp2_with fail
  refine (tapeLen_nil _).mono ?_; rintro e w5 ⟨rfl, rfl⟩
  go_wp2_with fail
  refine (known19_any _).mono ?_; rintro e w6 ⟨rfl, hb6⟩
  have B6 := Lib.hid (B5.out.trans (hb6.mono B5.out.size))
  clear hb6
  go_wp2_with fail
  go_returns
  exact ⟨rfl, B6.out⟩
theorem walk (vr : Value) (r : List UInt8) (w : World) (hr : Rd w (· < w.heap.size) vr (bts r)) :
    Calls Try.prog 7 #[vr] w fun e w' => e = .returned (.bool true) ∧ Below w.heap.size w w' := by
  obtain ⟨A, c, rfl, _⟩ := rd_form hr
  by_cases h : 300 < r.length
  · exact long A _ c w h
  · exact short A _ c w (by omega)


set_option maxRecDepth 100000 in
theorem lifted (os : Os) (started : os.Started) (H : Type) (enc : TypeId × Value → H) :
    ReturnsInHanded {} Try.checked os 7 .any (Rows.tapeNilSpec.pre6 enc Try.prog Try.f7 Rows.tapeNilRow.domain false) (Rows.tapeNilSpec.post enc Try.prog Try.f7 false true false false) := by
  refine returnsInHanded_of_change (C := Try.checked) own started (by kernel_rfl) Try.func7
    (ChangeSpec.witness6 (enc := enc) (C := Try.checked) false ⟨#[], #[.slice none 0 0], []⟩ 8 (by kernel_rfl) (by kernel_rfl) (by kernel_rfl) (by kernel_rfl)) ?_
  intro W base args ds gs before hval0 hW _ _
  have hval : ∀ (j : Nat) t v, Try.f7.params[j]? = some t → args[j]? = some v → Value.okWide Try.prog W .any base t v := hval0
  have hW' := hW
  obtain ⟨p, q, hA0, hV, rfl, hfz, hnd⟩ := hW
  have hA : DataW.TrodAll enc Try.prog W 0 (fun _ => true) true Try.f7.params.toList args.toList ds p := hA0
  rw [Try.params7] at hA hval
  obtain ⟨v0, vs0, d0, ds0, p0, q0, hargs, rfl, rfl, h0, r0⟩ := trodAll_cons hA
  obtain ⟨rfl, rfl, rfl⟩ := trodAll_nil r0
  obtain rfl : args = #[v0] := by cases args; simp_all
  obtain ⟨r, w0⟩ := open_reader (reader_bytes Try.underlying37 Try.underlying5 (by kernel_rfl)) h0 (okWide_slice Try.underlying37 (hval 0 37 v0 rfl rfl))
  clear hA0 hval0
  refine (walk v0 r W w0).mono fun e W' ⟨he, hb⟩ => ?_
  subst he
  exact ⟨_, rfl, law_post (by kernel_rfl) (by kernel_rfl) rfl Try.underlying4 rfl hW' rfl hb⟩

theorem over : Rows.tapeNilRow.holds Try.pinned (OpenSpec.ofChange Rows.tapeNilSpec) :=
  OpenClaim.holds_of_wide 7 Try.f7 rfl rfl rfl rfl rfl rfl rfl ⟨rfl, rfl, rfl, rfl, rfl⟩ rfl rfl rfl rfl rfl (by kernel_rfl) Try.func7 (by kernel_rfl)
    (of_decide_eq_true (by kernel_rfl)) (by unfold Func.isWrapper; first | (rw [if_pos (by decide +kernel)]; kernel_rfl) | (rw [if_neg (by decide +kernel)]; exact ⟨rfl, rfl⟩))
    (fun os started H enc _ => lifted os started H enc)

theorem proved : Rows.TapeNilSaid :=
  over
#print axioms proved
end Go.Proofs.Ytgohnidndjbjiaa.tapeNil
