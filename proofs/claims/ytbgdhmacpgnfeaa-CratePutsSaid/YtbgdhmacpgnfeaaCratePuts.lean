/-
  CratePuts: the sum and the crate of any bytes are the document's, they stay, and what comes out is its owner's: so the law returns true for every input.
-/
import Derived.Test.YtbgdhmacpgnfeaaCrateN
import Derived.Test.YtbgdhmacpgnfeaaOwn
import Derived.Test.YtbgdhmacpgnfeaaOpen
import Derived.Test.YtbgdhmacpgnfeaaRows
import Derived.Test.YtbgdhmacpgnfeaaArgs2
namespace Go.Proofs.Ytbgdhmacpgnfeaa.cratePuts
open Go.ChangeShapes Go.WideShapes Go.ChangeAt Go.RowKit
set_option linter.unusedVariables false

theorem own : ownKnob Try.prog.godebug = none := by kernel_rfl

open Go.Lib
theorem long (A : Option Addr) (n c : Nat) (w : World) (h : 9000 < n) :
    Calls Try.prog 3 #[.slice A n c] w fun e w' => e = .returned (.bool true) ∧ Below w.heap.size w w' := by
  have HK := Lib.hid (known17_any w)
  have t : decide ((n : Int) > 9000) = true := decide_eq_true (by omega)
  clear h
  go_enter Try.func3, Try.ntmps3
  go_wp2_with fail
  refine HK.out.mono ?_; rintro e w1 ⟨rfl, b1⟩
  go_wp2_with fail
  go_returns
  exact ⟨rfl, b1⟩
set_option maxRecDepth 100000 in
set_option maxHeartbeats 1000000 in
theorem short (vb : Value) (xs : List UInt8) (w : World) (hb : Rd w (· < w.heap.size) vb (bts xs)) (hs : xs.length ≤ 9000) :
    Calls Try.prog 3 #[vb] w fun e w' => e = .returned (.bool true) ∧ Below w.heap.size w w' := by
  have H := Lib.hid hb
  obtain ⟨A, c, rfl, _⟩ := rd_len hb
  have t : decide ((xs.length : Int) > 9000) = false := decide_eq_false (by omega)
  have KN := Lib.hid (fun w => known17_any w)
  have HL : Hid (xs.length ≤ 9000) := hs
  clear hb hs
  generalize hN : xs.length = N at *
  have HN := Lib.hid hN
  clear hN
  go_enter Try.func3, Try.ntmps3
  go_wp2_with fail
  refine (byLent_any H.out (by have := HL.out; have := HN.out; omega)).mono ?_; rintro e w1 ⟨v1, rfl, hL1, hg1, hb1⟩
  have B1 := Lib.hid hb1
  have L1 := Lib.hid hL1
  obtain ⟨g, cap, rfl, hgb, hgl⟩ : ∃ g cap, v1 = .slice (some ⟨g, 0, none⟩) N cap ∧ w.heap.size ≤ g ∧ g < w1.heap.size := by
    obtain ⟨g, cap, cur, rfl, h1, _⟩ := hL1
    exact ⟨g, cap, by rw [HN.out], hg1 g rfl, h1.lt⟩
  have HG := Lib.hid hgb
  have HGL := Lib.hid hgl
  clear hb1 hL1 hg1 hgb hgl
  go_wp2_with fail
  refine (sum_any (L1.out.rd (K := fun _ => True) fun _ _ => trivial) (by have := HL.out; have := HN.out; omega)).mono ?_; rintro e w1 ⟨rfl, rfl⟩
  go_wp2_with fail
  refine (put_any (L1.out.rd (K := fun _ => True) fun _ _ => trivial)).mono ?_; rintro e w2 ⟨v2, rfl, ho2, hb2⟩
  have B2 := Lib.hid hb2
  have L2 : Hid (Lentd w2 (.slice (some ⟨g, 0, none⟩) N cap) xs) := L1.out.fr (N := fun _ => False) (fr_of_below hb2 fun b h1 h2 => by omega) fun _ _ h => h
  have HO2 := Lib.hid ho2
  clear ho2 hb2
  go_wp2_with fail
  refine (put_any (L2.out.rd (K := fun _ => True) fun _ _ => trivial)).mono ?_; rintro e w3 ⟨v3, rfl, ho3, hb3⟩
  have B3 := Lib.hid hb3
  have L3 : Hid (Lentd w3 (.slice (some ⟨g, 0, none⟩) N cap) xs) := L2.out.fr (N := fun _ => False) (fr_of_below hb3 fun b h1 h2 => by omega) fun _ _ h => h
  have HO3 := Lib.hid ho3
  have F3 : Hid (Below w.heap.size w w3) := B1.out.trans ((B2.out.trans (B3.out.mono B2.out.size)).mono B1.out.size)
  have HP2 : Hid (w3.ownsRow w1.heap.size 5 1 v2 (putR xs).length (bts (putR xs))) := owns_next HO2.out hb3
  clear ho3 hb3
  go_wp2_with fail
  refine (byWhole_any L3.out (H.out.kept F3.out) (by have := HL.out; have := HN.out; omega)).mono ?_; rintro e w3 ⟨rfl, rfl⟩
  obtain ⟨cur, hcur, htk⟩ : ∃ cur, Blk w3 g cur 5 ∧ cur.toList.take xs.length = bts xs := by
    obtain ⟨g', cap', cur, h0, h1, _, _, _, h5⟩ := L3.out
    injection h0 with h0 _ _
    obtain rfl : g = g' := by injection h0 with h0; injection h0
    refine ⟨cur, h1, ?_⟩
    have := congrArg (List.take xs.length) h5
    rw [List.take_take, Nat.min_eq_left (by omega), bts_app, List.take_left' (by simp)] at this
    exact this
  have SP := Lib.hid (bySpoil_rd w3 g cap xs cur hcur htk (by have := HL.out; have := HN.out; omega))
  rw [HN.out] at SP
  clear hcur htk
  go_wp2_with fail
  refine SP.out.mono ?_; rintro e w4 ⟨rfl, fr4⟩
  have FR4 := Lib.hid fr4
  have F4 : Hid (Below w.heap.size w w4) := F3.out.trans (fr4.below F3.out.size fun b hb => by rw [hb]; exact HG.out)
  obtain ⟨Q, hQ⟩ : ∃ Q, Q = (putR xs).length := ⟨_, rfl⟩
  have HQ8 : Hid (Q ≤ 8007) := by unfold Hid; rw [hQ]; exact putR_len xs
  have hp4 : w4.ownsRow w1.heap.size 5 1 v2 (putR xs).length (bts (putR xs)) := owns_fr HP2.out fr4 fun b hb hh => by
    have := owns_base HO2.out hb; have := HGL.out; omega
  have hq4 : w4.ownsRow w2.heap.size 5 1 v3 (putR xs).length (bts (putR xs)) := owns_fr HO3.out fr4 fun b hb hh => by
    have := owns_base HO3.out hb; have := HGL.out; have := B2.out.size; omega
  have HNE : Hid (∀ k, v2.ownBlock = some k → v3.ownBlock ≠ some k) := fun k h1 h2 => by
    have := owns_base HO3.out h2; have := owns_lt HO2.out h1; omega
  rw [← hQ] at hp4 hq4
  have HP4 := Lib.hid hp4
  have HQ4 := Lib.hid hq4
  have HQ := Lib.hid hQ
  have HS41 : Hid (w1.heap.size ≤ w4.heap.size) := Nat.le_trans B2.out.size (Nat.le_trans B3.out.size fr4.size)
  obtain ⟨A2, c2, rfl⟩ := owned_slice hp4
  obtain ⟨A3, c3, rfl⟩ := owned_slice hq4
  clear hp4 hq4 fr4 HP2 HO2 HO3 SP L3 L2 L1 hQ FR4
  go_wp2_with fail
  refine (refPut_any (H.out.kept F4.out)).mono ?_; rintro e w5 ⟨v5, rfl, ho5, hb5⟩
  have F5 : Hid (Below w.heap.size w w5) := F4.out.trans (hb5.mono F4.out.size)
  rw [← HQ.out] at ho5
  have HP5 := Lib.hid (owns_next HP4.out hb5)
  have HQ5 := Lib.hid (owns_next HQ4.out hb5)
  have HW5 := Lib.hid ho5
  have HS51 : Hid (w1.heap.size ≤ w5.heap.size) := Nat.le_trans HS41.out hb5.size
  obtain ⟨A5, c5, rfl⟩ := owned_slice ho5
  clear ho5 hb5
  have tE : ((putE xs) == (putE xs)) = true := by simp
  generalize putE xs = pe at *
  go_wp2_with fail
  refine (refSum_any (H.out.kept F5.out) (by have := HL.out; have := HN.out; omega)).mono ?_; rintro e w6 ⟨rfl, hb6⟩
  have F6 : Hid (Below w.heap.size w w6) := F5.out.trans (hb6.mono F5.out.size)
  have HP6 := Lib.hid (owns_next HP5.out hb6)
  have HQ6 := Lib.hid (owns_next HQ5.out hb6)
  have HW6 := Lib.hid (owns_next HW5.out hb6)
  have HS61 : Hid (w1.heap.size ≤ w6.heap.size) := Nat.le_trans HS51.out hb6.size
  clear hb6
  generalize sumB xs = sm at *
  have tS : ((sm : Int) == (sm : Int)) = true := by simp
  have SM1 : Hid (Calls Try.prog 17 #[.slice A2 Q c2, .slice A5 Q c5] w6 fun e w' => e = .returned (.bool true) ∧ w' = w6) := by
    have := bySame_any (Rd.of_owns (K := fun _ => True) (by rw [bts_len, ← HQ.out]; exact HP6.out) fun _ _ => trivial) (Rd.of_owns (K := fun _ => True) (by rw [bts_len, ← HQ.out]; exact HW6.out) fun _ _ => trivial)
    rw [beq_self_eq_true] at this; exact this
  have SM2 : Hid (Calls Try.prog 17 #[.slice A3 Q c3, .slice A5 Q c5] w6 fun e w' => e = .returned (.bool true) ∧ w' = w6) := by
    have := bySame_any (Rd.of_owns (K := fun _ => True) (by rw [bts_len, ← HQ.out]; exact HQ6.out) fun _ _ => trivial) (Rd.of_owns (K := fun _ => True) (by rw [bts_len, ← HQ.out]; exact HW6.out) fun _ _ => trivial)
    rw [beq_self_eq_true] at this; exact this
  go_wp2_with fail
  refine SM1.out.mono ?_; rintro e w6 ⟨rfl, rfl⟩
  go_wp2_with fail
  refine SM2.out.mono ?_; rintro e w6 ⟨rfl, rfl⟩
  have OW : Hid (Calls Try.prog 18 #[.slice (some ⟨w6.heap.size, 0, none⟩) 2 2] (w6.alloc (.cells #[.slice A2 Q c2, .slice A3 Q c3] 22)) fun e w' => e = .returned (.bool true) ∧ Below w1.heap.size (w6.alloc (.cells #[.slice A2 Q c2, .slice A3 Q c3] 22)) w') := by
    refine own_any w1.heap.size w6.heap.size [(.slice A2 Q c2, Q), (.slice A3 Q c3, Q)] _ ⟨Blk.new w6 _ _, ?_, ?_, ?_, by simp, ?_, by have := HS61.out; simp; omega⟩
    · intro i j x y hij hx hy
      match i, j with
      | 0, 0 => exact absurd rfl hij
      | 1, 1 => exact absurd rfl hij
      | 0, 1 =>
        obtain rfl : (Value.slice A2 Q c2, Q) = x := by simpa using hx
        obtain rfl : (Value.slice A3 Q c3, Q) = y := by simpa using hy
        cases h : (Value.slice A2 Q c2).ownBlock with
        | none => exact .inl rfl
        | some k => exact .inr fun e => HNE.out k h e.symm
      | 1, 0 =>
        obtain rfl : (Value.slice A3 Q c3, Q) = x := by simpa using hx
        obtain rfl : (Value.slice A2 Q c2, Q) = y := by simpa using hy
        cases h : (Value.slice A3 Q c3).ownBlock with
        | none => exact .inl rfl
        | some k => exact .inr fun e => HNE.out k e.symm h
      | i + 2, _ => simp at hx
      | _, j + 2 => simp at hy
    · intro i v n hv
      match i with
      | 0 =>
        obtain ⟨rfl, rfl⟩ : Value.slice A2 Q c2 = v ∧ Q = n := by simpa using hv
        refine .inr fun e => ?_
        have := owns_lt HP6.out e; omega
      | 1 =>
        obtain ⟨rfl, rfl⟩ : Value.slice A3 Q c3 = v ∧ Q = n := by simpa using hv
        refine .inr fun e => ?_
        have := owns_lt HQ6.out e; omega
      | i + 2 => simp at hv
    · intro i v n hv
      match i with
      | 0 =>
        obtain ⟨rfl, rfl⟩ : Value.slice A2 Q c2 = v ∧ Q = n := by simpa using hv
        exact ⟨_, by rw [← bts_cellsB (putR xs)]; exact owns_alloc HP6.out _⟩
      | 1 =>
        obtain ⟨rfl, rfl⟩ : Value.slice A3 Q c3 = v ∧ Q = n := by simpa using hv
        exact ⟨_, by rw [← bts_cellsB (putR xs)]; exact owns_alloc (owns_mono HQ6.out B2.out.size) _⟩
      | i + 2 => simp at hv
    · intro i v n hv
      match i with
      | 0 =>
        obtain ⟨rfl, rfl⟩ : Value.slice A2 Q c2 = v ∧ Q = n := by simpa using hv
        have := HQ8.out; omega
      | 1 =>
        obtain ⟨rfl, rfl⟩ : Value.slice A3 Q c3 = v ∧ Q = n := by simpa using hv
        have := HQ8.out; omega
      | i + 2 => simp at hv
  go_wp2_with fail
  refine OW.out.mono ?_; rintro e w7 ⟨rfl, hb7⟩
  have F7 : Hid (Below w.heap.size w w7) := (F6.out.alloc F6.out.size _).trans (hb7.mono B1.out.size)
  clear hb7
  go_wp2_with fail
  refine (KN.out _).mono ?_; rintro e w8 ⟨rfl, bk⟩
  have F8 : Hid (Below w.heap.size w w8) := F7.out.trans (bk.mono F7.out.size)
  clear bk
  go_wp2_with fail
  go_returns
  exact ⟨rfl, F8.out⟩
theorem walk (vb : Value) (b : List UInt8) (w : World) (hb : Rd w (· < w.heap.size) vb (bts b)) :
    Calls Try.prog 3 #[vb] w fun e w' => e = .returned (.bool true) ∧ Below w.heap.size w w' := by
  by_cases h : 9000 < b.length
  · obtain ⟨A, c, rfl, _⟩ := rd_len hb
    exact long A _ c w h
  · exact short vb b w hb (by omega)


set_option maxRecDepth 100000 in
theorem lifted (os : Os) (started : os.Started) (H : Type) (enc : TypeId × Value → H) :
    ReturnsInHanded {} Try.checked os 3 .any (Rows.cratePutsSpec.pre6 enc Try.prog Try.f3 Rows.cratePutsRow.domain false) (Rows.cratePutsSpec.post enc Try.prog Try.f3 false true false false) := by
  refine returnsInHanded_of_change (C := Try.checked) own started (by kernel_rfl) Try.func3
    (ChangeSpec.witness6 (enc := enc) (C := Try.checked) false ⟨#[], #[.slice none 0 0], []⟩ 8 (by kernel_rfl) (by kernel_rfl) (by kernel_rfl) (by kernel_rfl)) ?_
  intro W base args ds gs before hval0 hW _ _
  have hval : ∀ (j : Nat) t v, Try.f3.params[j]? = some t → args[j]? = some v → Value.okWide Try.prog W .any base t v := hval0
  have hW' := hW
  obtain ⟨p, q, hA0, hV, rfl, hfz, hnd⟩ := hW
  have hA : DataW.TrodAll enc Try.prog W 0 (fun _ => true) true Try.f3.params.toList args.toList ds p := hA0
  rw [Try.params3] at hA hval
  obtain ⟨v0, vs0, d0, ds0, p0, q0, hargs, rfl, rfl, h0, r0⟩ := trodAll_cons hA
  obtain ⟨rfl, rfl, rfl⟩ := trodAll_nil r0
  obtain rfl : args = #[v0] := by cases args; simp_all
  obtain ⟨b, w0⟩ := open_reader (reader_bytes Try.underlying22 Try.underlying5 (by kernel_rfl)) h0 (okWide_slice Try.underlying22 (hval 0 22 v0 rfl rfl))
  clear hA0 hval0
  refine (walk v0 b W w0).mono fun e W' ⟨he, hb⟩ => ?_
  subst he
  exact ⟨_, rfl, law_post (by kernel_rfl) (by kernel_rfl) rfl Try.underlying4 rfl hW' rfl hb⟩

theorem over : Rows.cratePutsRow.holds Try.pinned (OpenSpec.ofChange Rows.cratePutsSpec) :=
  OpenClaim.holds_of_wide 3 Try.f3 rfl rfl rfl rfl rfl rfl rfl ⟨rfl, rfl, rfl, rfl, rfl⟩ rfl rfl rfl rfl rfl (by kernel_rfl) Try.func3 (by kernel_rfl)
    (of_decide_eq_true (by kernel_rfl)) (by unfold Func.isWrapper; first | (rw [if_pos (by decide +kernel)]; kernel_rfl) | (rw [if_neg (by decide +kernel)]; exact ⟨rfl, rfl⟩))
    (fun os started H enc _ => lifted os started H enc)

theorem proved : Rows.CratePutsSaid :=
  over
#print axioms proved
end Go.Proofs.Ytbgdhmacpgnfeaa.cratePuts
