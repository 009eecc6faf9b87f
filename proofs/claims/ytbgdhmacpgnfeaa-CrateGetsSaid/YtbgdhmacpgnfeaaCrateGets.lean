/-
  CrateGets: the crate at any place of any bytes, and the row from their begin on, are the document's; they stay, and what comes out is its owner's: so the law returns true for every input.
-/
import Derived.Test.YtbgdhmacpgnfeaaCrateG
import Derived.Test.YtbgdhmacpgnfeaaOpen
import Derived.Test.YtbgdhmacpgnfeaaRows
import Derived.Test.YtbgdhmacpgnfeaaArgs2
namespace Go.Proofs.Ytbgdhmacpgnfeaa.crateGets
open Go.ChangeShapes Go.WideShapes Go.ChangeAt Go.RowKit
set_option linter.unusedVariables false

theorem own : ownKnob Try.prog.godebug = none := by kernel_rfl

open Go.Lib
theorem long (A : Option Addr) (n c : Nat) (at_ : Int) (w : World) (h : 9000 < n) :
    Calls Try.prog 4 #[.slice A n c, .int .i64 at_] w fun e w' => e = .returned (.bool true) ∧ Below w.heap.size w w' := by
  have HK := Lib.hid (known17_any w)
  have t : decide ((n : Int) > 9000) = true := decide_eq_true (by omega)
  clear h
  go_enter Try.func4, Try.ntmps4
  go_wp2_with fail
  refine HK.out.mono ?_; rintro e w1 ⟨rfl, b1⟩
  go_wp2_with fail
  go_returns
  exact ⟨rfl, b1⟩
set_option maxRecDepth 100000 in
set_option maxHeartbeats 1000000 in
theorem short (vb : Value) (xs : List UInt8) (at_ : Int) (w : World) (hb : Rd w (· < w.heap.size) vb (bts xs)) (hs : xs.length ≤ 9000) :
    Calls Try.prog 4 #[vb, .int .i64 at_] w fun e w' => e = .returned (.bool true) ∧ Below w.heap.size w w' := by
  have H := Lib.hid hb
  obtain ⟨A, c, rfl, _⟩ := rd_len hb
  have t : decide ((xs.length : Int) > 9000) = false := decide_eq_false (by omega)
  have KN := Lib.hid (fun w => known17_any w)
  have HL : Hid (xs.length ≤ 9000) := hs
  clear hb hs
  generalize hN : xs.length = N at *
  have HN := Lib.hid hN
  have H1M : Hid (xs.length ≤ 1000000) := by have := HL.out; unfold Hid; omega
  clear hN
  go_enter Try.func4, Try.ntmps4
  go_wp2_with fail
  refine (byLent_any H.out (by have := H1M.out; omega)).mono ?_; rintro e w1 ⟨v1, rfl, hL1, hg1, hb1⟩
  have B1 := Lib.hid hb1
  have L1 := Lib.hid hL1
  obtain ⟨g, cap, rfl, hgb, hgl⟩ : ∃ g cap, v1 = .slice (some ⟨g, 0, none⟩) N cap ∧ w.heap.size ≤ g ∧ g < w1.heap.size := by
    obtain ⟨g, cap, cur, rfl, h1, _⟩ := hL1
    exact ⟨g, cap, by rw [HN.out], hg1 g rfl, h1.lt⟩
  have HG := Lib.hid hgb
  have HGL := Lib.hid hgl
  clear hb1 hL1 hg1 hgb hgl
  have LK : Hid (∀ w', Below w1.heap.size w1 w' → Lentd w' (.slice (some ⟨g, 0, none⟩) N cap) xs) := fun w' hb => L1.out.fr (N := fun _ => False) (fr_of_below hb fun b h1 h2 => by omega) fun _ _ h => h
  go_wp2_with fail
  refine (get_uni (L1.out.rd (K := fun _ => True) fun _ _ => trivial) HN.out.symm at_ H1M.out).mono ?_; rintro e w2 ⟨v2, rfl, ho2, hb2⟩
  have B2 : Hid (Below w1.heap.size w1 w2) := hb2
  obtain ⟨X, hX⟩ : ∃ X, X = (getX xs at_).length := ⟨_, rfl⟩
  rw [← hX] at ho2
  have HX := Lib.hid hX
  have HO2 := Lib.hid ho2
  obtain ⟨A2, c2, rfl⟩ := owned_slice ho2
  clear ho2 hb2 hX
  have t1 : ((getN xs at_) == (getN xs at_)) = true := by simp
  have t2 : ((getE xs at_) == (getE xs at_)) = true := by simp
  go_wp2_with fail
  refine (refGet_uni (H.out.kept (B1.out.trans (B2.out.mono B1.out.size))) HN.out.symm at_ H1M.out).mono ?_; rintro e w3 ⟨v3, rfl, ho3, hb3⟩
  have B3 : Hid (Below w1.heap.size w1 w3) := B2.out.trans (hb3.mono B2.out.size)
  rw [← HX.out] at ho3
  have HO2' : Hid (w3.ownsRow w1.heap.size 5 1 (.slice A2 X c2) X (bts (getX xs at_))) := owns_next HO2.out hb3
  have HO3 : Hid (w3.ownsRow w1.heap.size 5 1 v3 X (bts (getX xs at_))) := owns_mono ho3 B2.out.size
  obtain ⟨A3, c3, rfl⟩ := owned_slice ho3
  clear ho3 hb3 HO2
  generalize getN xs at_ = gn at *
  generalize getE xs at_ = ge at *
  go_wp2_with fail
  refine (all_any ((LK.out _ B3.out).rd (K := fun _ => True) fun _ _ => trivial) H1M.out).mono ?_; rintro e w4 ⟨v4, vs4, rfl, ho4, hd4, hb4⟩
  have B4 : Hid (Below w1.heap.size w1 w4) := B3.out.trans (hb4.mono B3.out.size)
  have HO2'' := Lib.hid (owns_next HO2'.out hb4)
  have HO3' := Lib.hid (owns_next HO3.out hb4)
  obtain ⟨V, hV⟩ : ∃ V, V = vs4.length := ⟨_, rfl⟩
  have HD4 : Hid (Bods w4 w1.heap.size vs4 (rowsB xs)) := ⟨hd4.len, fun i v x h1 h2 => owns_mono (hd4.own i v x h1 h2) B3.out.size, hd4.apart⟩
  have HO4 : Hid (w4.ownsRow w1.heap.size 22 1 v4 vs4.length vs4) := owns_mono ho4 B3.out.size
  obtain ⟨A4, c4, rfl⟩ := owned_slice ho4
  rw [← hV]
  rw [← hV] at HO4
  have HV := Lib.hid hV
  clear ho4 hd4 hb4 hV HO2' HO3
  have t3 : (errB xs == errB xs) = true := by simp
  go_wp2_with fail
  refine (refAll_any (H.out.kept (B1.out.trans (B4.out.mono B1.out.size))) H1M.out).mono ?_; rintro e w5 ⟨v5, vs5, rfl, ho5, hd5, hb5⟩
  have B5 : Hid (Below w1.heap.size w1 w5) := B4.out.trans (hb5.mono B4.out.size)
  have RL5 : Hid (RdL w5 v5 (rowsB xs)) := RdL.of_bods ho5 hd5
  have HA := Lib.hid (owns_next HO2''.out hb5)
  have HB := Lib.hid (owns_next HO3'.out hb5)
  have HH := Lib.hid (owns_next HO4.out hb5)
  have HD := Lib.hid (HD4.out.kept hb5)
  obtain ⟨V5, hV5⟩ : ∃ V5, V5 = vs5.length := ⟨_, rfl⟩
  have hown5 := owns_mono ho5 B4.out.size
  obtain ⟨A5, c5, rfl⟩ := owned_slice ho5
  rw [← hV5] at RL5 ⊢
  have HV5 := Lib.hid hV5
  have HOW5 := Lib.hid hown5
  have HD5 := Lib.hid hd5
  clear ho5 hd5 hb5 hV5 hown5 HO2'' HO3' HO4 HD4
  generalize errB xs = er at *
  generalize endL (rowsB xs) = en at *
  go_wp2_with fail
  refine (byWhole_any (LK.out _ B5.out) (H.out.kept (B1.out.trans (B5.out.mono B1.out.size))) (by have := H1M.out; omega)).mono ?_; rintro e w5 ⟨rfl, rfl⟩
  obtain ⟨cur, hcur, htk⟩ : ∃ cur, Blk w5 g cur 5 ∧ cur.toList.take xs.length = bts xs := by
    obtain ⟨g', cap', cur, h0, h1, _, _, _, h5⟩ := LK.out _ B5.out
    injection h0 with h0 _ _
    obtain rfl : g = g' := by injection h0 with h0; injection h0
    refine ⟨cur, h1, ?_⟩
    have := congrArg (List.take xs.length) h5
    rw [List.take_take, Nat.min_eq_left (by omega), bts_app, List.take_left' (by simp)] at this
    exact this
  have SP := Lib.hid (bySpoil_rd w5 g cap xs cur hcur htk (by have := H1M.out; omega))
  rw [HN.out] at SP
  clear hcur htk
  go_wp2_with fail
  refine SP.out.mono ?_; rintro e w6 ⟨rfl, fr6⟩
  have F6 : Hid (Below w.heap.size w w6) := (B1.out.trans (B5.out.mono B1.out.size)).trans ((fr6.below (B := w.heap.size) (Nat.le_trans B1.out.size B5.out.size) fun b hb => by rw [hb]; exact HG.out))
  have HS6 : Hid (w1.heap.size ≤ w6.heap.size) := Nat.le_trans B5.out.size fr6.size
  have hA6 := owns_fr HA.out fr6 fun b hb hh => by have := owns_base HA.out hb; have := HGL.out; omega
  have hB6 := owns_fr HB.out fr6 fun b hb hh => by have := owns_base HB.out hb; have := HGL.out; omega
  have hH6 := owns_fr HH.out fr6 fun b hb hh => by have := owns_base HH.out hb; have := HGL.out; omega
  have HD6 : Hid (Bods w6 w1.heap.size vs4 (rowsB xs)) := HD.out.fr fr6 fun i v k hv hk hh => by
    obtain ⟨x, _, ho⟩ := HD.out.at_ hv
    have := owns_base ho hk; have := HGL.out; omega
  have HW6 : Hid (w6.ownsRow w1.heap.size 22 1 (.slice A5 V5 c5) V5 vs5) := by
    rw [HV5.out]
    have h0 := HOW5.out
    exact owns_fr h0 fr6 fun b hb hh => by have := owns_base h0 hb; have := HGL.out; have := B4.out.size; omega
  have HE6 : Hid (Bods w6 w4.heap.size vs5 (rowsB xs)) := HD5.out.fr fr6 fun i v k hv hk hh => by
    obtain ⟨x, _, ho⟩ := HD5.out.at_ hv
    have := owns_base ho hk; have := HGL.out; have := B4.out.size; omega
  have HA6 := Lib.hid hA6
  have HB6 := Lib.hid hB6
  have HH6 := Lib.hid hH6
  have SM1 : Hid (Calls Try.prog 17 #[.slice A2 X c2, .slice A3 X c3] w6 fun e w' => e = .returned (.bool true) ∧ w' = w6) := by
    have := bySame_any (Rd.of_owns (K := fun _ => True) (by rw [bts_len, ← HX.out]; exact HA6.out) fun _ _ => trivial) (Rd.of_owns (K := fun _ => True) (by rw [bts_len, ← HX.out]; exact HB6.out) fun _ _ => trivial)
    rw [beq_self_eq_true] at this; exact this
  have SL1 : Hid (Calls Try.prog 23 #[.slice A4 V c4, .slice A5 V5 c5] w6 fun e w' => e = .returned (.bool true) ∧ Below w6.heap.size w6 w') := by
    have r1 : RdL w6 (.slice A4 V c4) (rowsB xs) := RdL.of_bods (by rw [← HV.out]; exact HH6.out) HD6.out
    have r2 : RdL w6 (.slice A5 V5 c5) (rowsB xs) := RdL.of_bods (by rw [← HV5.out]; exact HW6.out) HE6.out
    exact (sameLists_any r1 r2).mono fun e w' ⟨he, n, hn⟩ => ⟨by rw [he, beq_self_eq_true], by subst hn; exact below_drewN (Below.refl _ _) n⟩
  clear hA6 hB6 hH6 fr6 SP
  go_wp2_with fail
  refine SM1.out.mono ?_; rintro e w6 ⟨rfl, rfl⟩
  go_wp2_with fail
  refine SL1.out.mono ?_; rintro e w7 ⟨rfl, hb7⟩
  have F7 : Hid (Below w.heap.size w w7) := F6.out.trans (hb7.mono F6.out.size)
  have HH7 := Lib.hid (owns_next HH6.out hb7)
  have HD7 := Lib.hid (HD6.out.kept hb7)
  have HS7 : Hid (w1.heap.size ≤ w7.heap.size) := Nat.le_trans HS6.out hb7.size
  clear hb7
  by_cases h40 : 40 < V
  · have u1 : decide ((V : Int) > 40) = true := decide_eq_true (by omega)
    clear h40
    go_wp2_with fail
    refine (KN.out _).mono ?_; rintro e w8 ⟨rfl, bk⟩
    have F8 : Hid (Below w.heap.size w w8) := F7.out.trans (bk.mono F7.out.size)
    clear bk
    go_wp2_with fail
    go_returns
    exact ⟨rfl, F8.out⟩
  · have u1 : decide ((V : Int) > 40) = false := decide_eq_false (by omega)
    have OW := Lib.hid (own_bods (by rw [← HV.out]; exact HH7.out) HD7.out (rowsB_short _ xs (Nat.le_refl _)) (by rw [← HV.out]; omega) HS7.out)
    clear h40
    go_wp2_with fail
    refine OW.out.mono ?_; rintro e w8 ⟨rfl, hb8⟩
    have F8 : Hid (Below w.heap.size w w8) := F7.out.trans (hb8.mono B1.out.size)
    clear hb8
    go_wp2_with fail
    refine (KN.out _).mono ?_; rintro e w9 ⟨rfl, bk⟩
    have F9 : Hid (Below w.heap.size w w9) := F8.out.trans (bk.mono F8.out.size)
    clear bk
    go_wp2_with fail
    go_returns
    exact ⟨rfl, F9.out⟩
theorem walk (vb : Value) (b : List UInt8) (at_ : Int) (w : World) (hb : Rd w (· < w.heap.size) vb (bts b)) (w1 : (Lit.int .i64 at_).wf = true) :
    Calls Try.prog 4 #[vb, .int .i64 at_] w fun e w' => e = .returned (.bool true) ∧ Below w.heap.size w w' := by
  by_cases h : 9000 < b.length
  · obtain ⟨A, c, rfl, _⟩ := rd_len hb
    exact long A _ c at_ w h
  · exact short vb b at_ w hb (by omega)


set_option maxRecDepth 100000 in
theorem lifted (os : Os) (started : os.Started) (H : Type) (enc : TypeId × Value → H) :
    ReturnsInHanded {} Try.checked os 4 .any (Rows.crateGetsSpec.pre6 enc Try.prog Try.f4 Rows.crateGetsRow.domain false) (Rows.crateGetsSpec.post enc Try.prog Try.f4 false true false false) := by
  refine returnsInHanded_of_change (C := Try.checked) own started (by kernel_rfl) Try.func4
    (ChangeSpec.witness6 (enc := enc) (C := Try.checked) false ⟨#[], #[.slice none 0 0, .int .i64 0], []⟩ 8 (by kernel_rfl) (by kernel_rfl) (by kernel_rfl) (by kernel_rfl)) ?_
  intro W base args ds gs before hval0 hW _ _
  have hval : ∀ (j : Nat) t v, Try.f4.params[j]? = some t → args[j]? = some v → Value.okWide Try.prog W .any base t v := hval0
  have hW' := hW
  obtain ⟨p, q, hA0, hV, rfl, hfz, hnd⟩ := hW
  have hA : DataW.TrodAll enc Try.prog W 0 (fun _ => true) true Try.f4.params.toList args.toList ds p := hA0
  rw [Try.params4] at hA hval
  obtain ⟨v0, vs0, d0, ds0, p0, q0, hargs, rfl, rfl, h0, r0⟩ := trodAll_cons hA
  obtain ⟨v1, vs1, d1, ds1, p1, q1, rfl, rfl, rfl, h1, r1⟩ := trodAll_cons r0
  obtain ⟨rfl, rfl, rfl⟩ := trodAll_nil r1
  obtain rfl : args = #[v0, v1] := by cases args; simp_all
  obtain ⟨b, w0⟩ := open_reader (reader_bytes Try.underlying22 Try.underlying5 (by kernel_rfl)) h0 (okWide_slice Try.underlying22 (hval 0 22 v0 rfl rfl))
  obtain ⟨at_, rfl, rfl, rfl, w1⟩ := open_int Try.underlying3 (hval 1 3 v1 rfl rfl) h1
  clear hA0 hval0
  refine (walk v0 b at_ W w0 w1).mono fun e W' ⟨he, hb⟩ => ?_
  subst he
  exact ⟨_, rfl, law_post (by kernel_rfl) (by kernel_rfl) rfl Try.underlying4 rfl hW' rfl hb⟩

theorem over : Rows.crateGetsRow.holds Try.pinned (OpenSpec.ofChange Rows.crateGetsSpec) :=
  OpenClaim.holds_of_wide 4 Try.f4 rfl rfl rfl rfl rfl rfl rfl ⟨rfl, rfl, rfl, rfl, rfl⟩ rfl rfl rfl rfl rfl (by kernel_rfl) Try.func4 (by kernel_rfl)
    (of_decide_eq_true (by kernel_rfl)) (by unfold Func.isWrapper; first | (rw [if_pos (by decide +kernel)]; kernel_rfl) | (rw [if_neg (by decide +kernel)]; exact ⟨rfl, rfl⟩))
    (fun os started H enc _ => lifted os started H enc)

theorem proved : Rows.CrateGetsSaid :=
  over
#print axioms proved
end Go.Proofs.Ytbgdhmacpgnfeaa.crateGets
