/-
  NumShares: the shares of all parts of a whole are together at most it, and less than it by less than there are parts: so the law returns true for every input.
-/
import Derived.Test.YtbcpiabamhdjbaaNumSharesW
import Derived.Test.YtbcpiabamhdjbaaRows
import Derived.Test.YtbcpiabamhdjbaaArgs
namespace Go.Proofs.Ytbcpiabamhdjbaa.numShares
open Go.ChangeShapes Go.WideShapes Go.ChangeAt Go.RowKit
set_option linter.unusedVariables false

theorem own : ownKnob Try.prog.godebug = none := by kernel_rfl

theorem walk (n : Int) (v : Value) (zs : List Int) (w : World) (w0 : (Lit.int .i64 n).wf = true) (h : IntsArg w .u16 v zs) :
    Calls Try.prog 8 #[.int .i64 n, v] w fun e w' => e = .returned (.bool true) ∧ Below w.heap.size w w' := by
  obtain ⟨n1, n2⟩ := wf_i64' w0
  by_cases hn : n < 0
  · rcases h with ⟨rfl, a, c, rfl⟩ | ⟨b, off, c, rfl, h0, hm, hb, hc, hz⟩
    · exact shares_out n a 0 c w (.inl (decide_eq_true hn))
    · exact shares_out n _ _ c w (.inl (decide_eq_true hn))
  · obtain ⟨W, rfl⟩ := Int.eq_ofNat_of_zero_le (a := n) (by omega)
    rcases h with ⟨rfl, a, c, rfl⟩ | ⟨b, off, c, rfl, h0, hm, hb, hc, hz⟩
    · exact shares_nil W a c w
    · by_cases hl : zs.length ≤ 50
      · exact shares_row W b off c zs w (by omega) h0 hl hz hb hc
      · exact shares_out _ _ _ c w (.inr ⟨decide_eq_false hn, decide_eq_true (by omega)⟩)

set_option maxRecDepth 100000 in
theorem lifted (os : Os) (started : os.Started) (H : Type) (enc : TypeId × Value → H) :
    ReturnsInHanded {} Try.checked os 8 .any (Rows.numSharesSpec.pre6 enc Try.prog Try.f8 Rows.numSharesRow.domain false) (Rows.numSharesSpec.post enc Try.prog Try.f8 false true false false) := by
  refine returnsInHanded_of_change (C := Try.checked) own started (by kernel_rfl) Try.func8
    (ChangeSpec.witness6 (enc := enc) (C := Try.checked) false ⟨#[], #[.int .i64 0, .slice none 0 0], []⟩ 8 (by kernel_rfl) (by kernel_rfl) (by kernel_rfl) (by kernel_rfl)) ?_
  intro W base args ds gs before hval0 hW _ _
  have hval : ∀ (j : Nat) t v, Try.f8.params[j]? = some t → args[j]? = some v → Value.okWide Try.prog W .any base t v := hval0
  have hW' := hW
  obtain ⟨p, q, hA0, hV, rfl, hfz, hnd⟩ := hW
  have hA : DataW.TrodAll enc Try.prog W 0 (fun _ => true) true Try.f8.params.toList args.toList ds p := hA0
  rw [Try.params8] at hA hval
  obtain ⟨v0, vs0, d0, ds0, p0, q0, hargs, rfl, rfl, h0, r0⟩ := trodAll_cons hA
  obtain ⟨v1, vs1, d1, ds1, p1, q1, rfl, rfl, rfl, h1, r1⟩ := trodAll_cons r0
  obtain ⟨rfl, rfl, rfl⟩ := trodAll_nil r1
  obtain rfl : args = #[v0, v1] := by cases args; simp_all
  obtain ⟨n, rfl, rfl, rfl, w0⟩ := open_int Try.underlying3 (hval 0 3 v0 rfl rfl) h0
  obtain ⟨zs, w1⟩ := open_ints_arg Try.underlying46 Try.underlying47 (by kernel_rfl) h1 (okWide_slice Try.underlying46 (hval 1 46 v1 rfl rfl))
  clear hA0 hval0
  refine (walk n v1 zs W w0 w1).mono fun e W' ⟨he, hb⟩ => ?_
  subst he
  exact ⟨_, rfl, law_post (by kernel_rfl) (by kernel_rfl) rfl Try.underlying4 rfl hW' rfl hb⟩

theorem over : Rows.numSharesRow.holds Try.pinned (OpenSpec.ofChange Rows.numSharesSpec) :=
  OpenClaim.holds_of_wide 8 Try.f8 rfl rfl rfl rfl rfl rfl rfl ⟨rfl, rfl, rfl, rfl, rfl⟩ rfl rfl rfl rfl rfl (by kernel_rfl) Try.func8 (by kernel_rfl)
    (of_decide_eq_true (by kernel_rfl)) (by unfold Func.isWrapper; first | (rw [if_pos (by decide +kernel)]; kernel_rfl) | (rw [if_neg (by decide +kernel)]; exact ⟨rfl, rfl⟩))
    (fun os started H enc _ => lifted os started H enc)

theorem proved : Rows.NumSharesSaid :=
  over
#print axioms proved
end Go.Proofs.Ytbcpiabamhdjbaa.numShares
