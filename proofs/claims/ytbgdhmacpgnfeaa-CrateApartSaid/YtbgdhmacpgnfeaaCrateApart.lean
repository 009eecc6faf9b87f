/-
  CrateApart: two bodies have two crates, none begins another, and a crate behind other bytes is got, whatever the bytes: so the law returns true for every input.
-/
import Derived.Test.YtbgdhmacpgnfeaaCrateK
import Derived.Test.YtbgdhmacpgnfeaaCrateM
import Derived.Test.YtbgdhmacpgnfeaaOpen
import Derived.Test.YtbgdhmacpgnfeaaRows
import Derived.Test.YtbgdhmacpgnfeaaArgs2
namespace Go.Proofs.Ytbgdhmacpgnfeaa.crateApart
open Go.ChangeShapes Go.WideShapes Go.ChangeAt Go.RowKit
set_option linter.unusedVariables false

theorem own : ownKnob Try.prog.godebug = none := by kernel_rfl

open Go.Lib
theorem long (A B C : Option Addr) (n c m d p e : Nat) (w : World) (h : 8000 < n ∨ 8000 < m ∨ 8000 < p) :
    Calls Try.prog 8 #[.slice A n c, .slice B m d, .slice C p e] w fun e w' => e = .returned (.bool true) ∧ Below w.heap.size w w' := by
  have HK := Lib.hid (known17_any w)
  by_cases h1 : 8000 < n
  · skip
    have t : decide ((n : Int) > 8000) = true := decide_eq_true (by omega)
    clear h
    go_enter Try.func8, Try.ntmps8
    go_wp2_with fail
    refine HK.out.mono ?_; rintro e w1 ⟨rfl, b1⟩
    go_wp2_with fail
    go_returns
    exact ⟨rfl, b1⟩
  by_cases h2 : 8000 < m
  · skip
    have t : decide ((n : Int) > 8000) = false := decide_eq_false (by omega)
    have t2 : decide ((m : Int) > 8000) = true := decide_eq_true (by omega)
    clear h
    go_enter Try.func8, Try.ntmps8
    go_wp2_with fail
    refine HK.out.mono ?_; rintro e w1 ⟨rfl, b1⟩
    go_wp2_with fail
    go_returns
    exact ⟨rfl, b1⟩
  have h3 : 8000 < p := by omega
  have t : decide ((n : Int) > 8000) = false := decide_eq_false (by omega)
  have t2 : decide ((m : Int) > 8000) = false := decide_eq_false (by omega)
  have t3 : decide ((p : Int) > 8000) = true := decide_eq_true (by omega)
  clear h
  go_enter Try.func8, Try.ntmps8
  go_wp2_with fail
  refine HK.out.mono ?_; rintro e w1 ⟨rfl, b1⟩
  go_wp2_with fail
  go_returns
  exact ⟨rfl, b1⟩
set_option maxRecDepth 100000 in
set_option maxHeartbeats 1000000 in
theorem short (va vb vc : Value) (a b c : List UInt8) (w : World) (ha : Rd w (· < w.heap.size) va (bts a)) (hb : Rd w (· < w.heap.size) vb (bts b)) (hc : Rd w (· < w.heap.size) vc (bts c)) (la : a.length ≤ 8000) (lb : b.length ≤ 8000) (lc : c.length ≤ 8000) :
    Calls Try.prog 8 #[va, vb, vc] w fun e w' => e = .returned (.bool true) ∧ Below w.heap.size w w' := by
  obtain ⟨i0, hi, hz0, hz1, hz2⟩ := info_parts Try.infoB
  have HA := Lib.hid ha
  have HB := Lib.hid hb
  have HC := Lib.hid hc
  obtain ⟨A, ca, rfl, _⟩ := rd_len ha
  obtain ⟨B, cb, rfl, _⟩ := rd_len hb
  obtain ⟨C, cc, rfl, _⟩ := rd_len hc
  have t1 : decide ((a.length : Int) > 8000) = false := decide_eq_false (by omega)
  have t2 : decide ((b.length : Int) > 8000) = false := decide_eq_false (by omega)
  have t3 : decide ((c.length : Int) > 8000) = false := decide_eq_false (by omega)
  have LA := Lib.hid la
  have LB := Lib.hid lb
  have LC := Lib.hid lc
  clear ha hb hc
  go_enter Try.func8, Try.ntmps8
  go_wp2_with fail
  refine (put_ok HA.out LA.out).mono ?_; rintro e w1 ⟨v1, rfl, ho1, hb1⟩
  obtain ⟨N1, hN1⟩ : ∃ N1, N1 = a.length + 7 := ⟨_, rfl⟩
  rw [← hN1] at ho1
  have X1 := Lib.hid (owned_rd ho1)
  have B1 := Lib.hid hb1
  have HN1 := Lib.hid hN1
  obtain ⟨A1, d1, rfl⟩ := owned_slice ho1
  have e7 : IntKind.i64.wrap ((a.length : Int) + 7) = (N1 : Int) := by rw [IntKind.wrap_i64]; omega
  clear ho1 hb1 hN1
  go_wp2_with fail
  refine (put_ok (HB.out.kept B1.out) LB.out).mono ?_; rintro e w2 ⟨v2, rfl, ho2, hb2⟩
  obtain ⟨N2, hN2⟩ : ∃ N2, N2 = b.length + 7 := ⟨_, rfl⟩
  rw [← hN2] at ho2
  have X2 := Lib.hid (X1.out.kept hb2)
  have Y2 := Lib.hid (owned_rd ho2)
  have B2 := Lib.hid (B1.out.trans (hb2.mono B1.out.size))
  have HN2 := Lib.hid hN2
  have hn1 : N1 ≤ 8007 := by have := HN1.out; have := LA.out; omega
  have hn2 : N2 ≤ 8007 := by have := LB.out; omega
  obtain ⟨A2, d2, rfl⟩ := owned_slice ho2
  clear ho2 hb2 hN2
  have tn : ((N1 : Int) != (N1 : Int)) = false := by simp
  obtain ⟨E, hE⟩ : ∃ E, E = (a == b) := ⟨_, rfl⟩
  have HE := Lib.hid hE
  clear hE
  by_cases hle : N1 ≤ N2
  · have t4 : decide ((N1 : Int) ≤ N2) = true := decide_eq_true (by omega)
    have t5 : decide (N1 ≤ N2) = true := decide_eq_true hle
    have hd2 : N2 ≤ d2 := by
      obtain ⟨_, _, h1, h2, _⟩ := Y2.out
      injection h1 with _ h1 h3
      omega
    have SM : Hid (Calls Try.prog 17 #[.slice A1 N1 d1, .slice A2 N1 d2] w2 fun e w' => e = .returned (.bool E) ∧ w' = w2) := by
      have h3 := rd_take (by rw [putB_len, ← HN2.out]; exact Y2.out) N1 (by rw [putB_len, ← HN2.out]; exact hle)
      have h4 := bySame_any X2.out h3
      rw [HN1.out, putB_begins a b LA.out LB.out, ← HE.out] at h4
      rw [HN1.out]; exact h4
    go_wp2_with fail
    refine SM.out.mono ?_; rintro e w2 ⟨rfl, rfl⟩
    go_wp2_with fail
    refine (byCopy_any (HC.out.kept B2.out) (by have := LC.out; omega)).mono ?_; rintro e w3 ⟨v3, rfl, ho3, hb3⟩
    have HO3 := Lib.hid ho3
    have B3 : Hid (Below w2.heap.size w2 w3) := hb3
    obtain ⟨A3, d3, rfl⟩ := owned_slice ho3
    clear ho3 hb3
    go_wp2_with (at_builtin; refine wpList_app rfl _ _ 22 rfl w2.heap.size 5 i0 _ 1 1 Try.underlying22 hi hz0 hz1 hz2 rfl (by decide) _ c.length (bts c) rfl HO3.out _ N1 (bts (putB a)) rfl ?q1 (bts_one _) ?q2 ?q3 ?q4 ?_)
    case q1 => have := rd_src (X2.out.kept B3.out); rw [bts_len, putB_len, ← HN1.out] at this; exact this
    case q2 => unfold maxLen; omega
    case q3 => omega
    case q4 => exact B3.out.size
    intro v4 w4 ho4 hg4 _
    obtain ⟨N4, hN4⟩ : ∃ N4, N4 = c.length + N1 := ⟨_, rfl⟩
    rw [← hN4] at ho4
    have HO4 := Lib.hid ho4
    have B4 : Hid (Below w2.heap.size w2 w4) := B3.out.grown hg4 B3.out.size (fun j hj => (HO3.out.lt j hj).1)
    obtain ⟨A4, d4, rfl⟩ := owned_slice ho4
    have hn4 : N4 ≤ 16007 := by omega
    have HN4 := Lib.hid hN4
    clear ho4 hg4 hN4
    go_wp2_with (at_builtin; refine wpList_app rfl _ _ 22 rfl w2.heap.size 5 i0 _ 1 1 Try.underlying22 hi hz0 hz1 hz2 rfl (by decide) _ N4 _ rfl HO4.out _ N2 (bts (putB b)) rfl ?q1 (bts_one _) ?q2 ?q3 ?q4 ?_)
    case q1 => have := rd_src (Y2.out.kept B4.out); rw [bts_len, putB_len, ← HN2.out] at this; exact this
    case q2 => unfold maxLen; omega
    case q3 => omega
    case q4 => exact B4.out.size
    intro v5 w5 ho5 hg5 _
    rw [← bts_app, ← bts_app] at ho5
    obtain ⟨A5, d5, hv5⟩ := owned_slice ho5
    have B5 : Hid (Below w2.heap.size w2 w5) := B4.out.grown hg5 B4.out.size (fun j hj => (HO4.out.lt j hj).1)
    have R5 := owned_rd ho5
    have hl5 : (c ++ (putB a ++ putB b)).length ≤ 1048576 := by rw [List.length_append, List.length_append, putB_len, putB_len]; have := HN1.out; have := HN2.out; omega
    have G5 : Hid (Calls Try.prog 19 #[v5, .int .i64 c.length] w5 fun e w' => ∃ v', e = .returned (.tuple #[v', .int .i64 N4, .int .i64 0]) ∧ w'.ownsRow w5.heap.size 5 1 v' a.length (bts a) ∧ Below w5.heap.size w5 w') := by
      obtain ⟨A5, d5, rfl⟩ := owned_slice ho5
      refine (get_any R5 c.length (by rw [List.length_append]; omega) hl5).mono fun e w' h => ?_
      rw [List.drop_left' rfl] at h
      rcases h with ⟨h, _⟩ | ⟨_, v', he, ho, hb⟩
      · rw [isB_put a _ LA.out] at h; cases h
      · rw [show ((putB a ++ putB b).drop 3).take (lenB (putB a ++ putB b)) = bodyB (putB a ++ putB b) from rfl, bodyB_put a _ LA.out, lenB_put a _ LA.out] at ho
        rw [lenB_put a _ LA.out] at he
        refine ⟨v', ?_, ho, hb⟩
        rw [he, show (c.length : Int) + (a.length : Nat) + 7 = (N4 : Int) by have := HN4.out; have := HN1.out; omega]
    clear ho5 hg5 R5 hl5
    obtain ⟨N5, hN5⟩ : ∃ N5, N5 = N4 + N2 := ⟨_, rfl⟩
    rw [← hN5] at hv5
    subst hv5
    clear hN5
    go_wp2_with fail
    refine G5.out.mono ?_; rintro e w6 ⟨v6, rfl, ho6, hb6⟩
    have R6 := Lib.hid (owned_rd ho6)
    have B6 : Hid (Below w.heap.size w w6) := B2.out.trans ((B5.out.trans (hb6.mono B5.out.size)).mono B2.out.size)
    obtain ⟨A6, d6, rfl⟩ := owned_slice ho6
    clear ho6 hb6
    have SMab : Hid (∀ wr, Below w6.heap.size w6 wr → Calls Try.prog 17 #[.slice A a.length ca, .slice B b.length cb] wr fun e w' => e = .returned (.bool E) ∧ w' = wr) := fun wr hb => by
      have h4 := bySame_any ((HA.out.kept B6.out).kept hb) ((HB.out.kept B6.out).kept hb)
      rw [← HE.out] at h4; exact h4
    have SMca : Hid (∀ wr, Below w6.heap.size w6 wr → Calls Try.prog 17 #[.slice A6 a.length d6, .slice A a.length ca] wr fun e w' => e = .returned (.bool true) ∧ w' = wr) := fun wr hb => by
      have h4 := bySame_any (R6.out.kept hb) ((HA.out.kept B6.out).kept hb)
      rw [beq_self_eq_true] at h4; exact h4
    have KN := Lib.hid (fun w => known17_any w)
    have e8 : IntKind.i64.wrap ((c.length : Int) + (N1 : Int)) = (N4 : Int) := by rw [IntKind.wrap_i64]; have := HN4.out; omega
    go_wp2_with fail
    refine (SMab.out _ (Below.refl _ _)).mono ?_; rintro e w6 ⟨rfl, rfl⟩
    go_wp2_with fail
    refine (SMca.out _ (Below.refl _ _)).mono ?_; rintro e w6 ⟨rfl, rfl⟩
    go_wp2_with fail
    refine (KN.out _).mono ?_; rintro e w7 ⟨rfl, bk⟩
    have B7 := Lib.hid (B6.out.trans (bk.mono B6.out.size))
    clear bk
    go_wp2_with fail
    go_returns
    exact ⟨rfl, B7.out⟩
  · have hE0 : E = false := by
      rw [HE.out]
      cases h : a == b
      · rfl
      · obtain rfl : a = b := by simpa using h
        have := HN1.out; have := HN2.out; omega
    subst hE0
    have t4 : decide ((N1 : Int) ≤ N2) = false := decide_eq_false (by omega)
    have t5 : decide (N1 ≤ N2) = false := decide_eq_false hle
    go_wp2_with fail
    refine (byCopy_any (HC.out.kept B2.out) (by have := LC.out; omega)).mono ?_; rintro e w3 ⟨v3, rfl, ho3, hb3⟩
    have HO3 := Lib.hid ho3
    have B3 : Hid (Below w2.heap.size w2 w3) := hb3
    obtain ⟨A3, d3, rfl⟩ := owned_slice ho3
    clear ho3 hb3
    go_wp2_with (at_builtin; refine wpList_app rfl _ _ 22 rfl w2.heap.size 5 i0 _ 1 1 Try.underlying22 hi hz0 hz1 hz2 rfl (by decide) _ c.length (bts c) rfl HO3.out _ N1 (bts (putB a)) rfl ?q1 (bts_one _) ?q2 ?q3 ?q4 ?_)
    case q1 => have := rd_src (X2.out.kept B3.out); rw [bts_len, putB_len, ← HN1.out] at this; exact this
    case q2 => unfold maxLen; omega
    case q3 => omega
    case q4 => exact B3.out.size
    intro v4 w4 ho4 hg4 _
    obtain ⟨N4, hN4⟩ : ∃ N4, N4 = c.length + N1 := ⟨_, rfl⟩
    rw [← hN4] at ho4
    have HO4 := Lib.hid ho4
    have B4 : Hid (Below w2.heap.size w2 w4) := B3.out.grown hg4 B3.out.size (fun j hj => (HO3.out.lt j hj).1)
    obtain ⟨A4, d4, rfl⟩ := owned_slice ho4
    have hn4 : N4 ≤ 16007 := by omega
    have HN4 := Lib.hid hN4
    clear ho4 hg4 hN4
    go_wp2_with (at_builtin; refine wpList_app rfl _ _ 22 rfl w2.heap.size 5 i0 _ 1 1 Try.underlying22 hi hz0 hz1 hz2 rfl (by decide) _ N4 _ rfl HO4.out _ N2 (bts (putB b)) rfl ?q1 (bts_one _) ?q2 ?q3 ?q4 ?_)
    case q1 => have := rd_src (Y2.out.kept B4.out); rw [bts_len, putB_len, ← HN2.out] at this; exact this
    case q2 => unfold maxLen; omega
    case q3 => omega
    case q4 => exact B4.out.size
    intro v5 w5 ho5 hg5 _
    rw [← bts_app, ← bts_app] at ho5
    obtain ⟨A5, d5, hv5⟩ := owned_slice ho5
    have B5 : Hid (Below w2.heap.size w2 w5) := B4.out.grown hg5 B4.out.size (fun j hj => (HO4.out.lt j hj).1)
    have R5 := owned_rd ho5
    have hl5 : (c ++ (putB a ++ putB b)).length ≤ 1048576 := by rw [List.length_append, List.length_append, putB_len, putB_len]; have := HN1.out; have := HN2.out; omega
    have G5 : Hid (Calls Try.prog 19 #[v5, .int .i64 c.length] w5 fun e w' => ∃ v', e = .returned (.tuple #[v', .int .i64 N4, .int .i64 0]) ∧ w'.ownsRow w5.heap.size 5 1 v' a.length (bts a) ∧ Below w5.heap.size w5 w') := by
      obtain ⟨A5, d5, rfl⟩ := owned_slice ho5
      refine (get_any R5 c.length (by rw [List.length_append]; omega) hl5).mono fun e w' h => ?_
      rw [List.drop_left' rfl] at h
      rcases h with ⟨h, _⟩ | ⟨_, v', he, ho, hb⟩
      · rw [isB_put a _ LA.out] at h; cases h
      · rw [show ((putB a ++ putB b).drop 3).take (lenB (putB a ++ putB b)) = bodyB (putB a ++ putB b) from rfl, bodyB_put a _ LA.out, lenB_put a _ LA.out] at ho
        rw [lenB_put a _ LA.out] at he
        refine ⟨v', ?_, ho, hb⟩
        rw [he, show (c.length : Int) + (a.length : Nat) + 7 = (N4 : Int) by have := HN4.out; have := HN1.out; omega]
    clear ho5 hg5 R5 hl5
    obtain ⟨N5, hN5⟩ : ∃ N5, N5 = N4 + N2 := ⟨_, rfl⟩
    rw [← hN5] at hv5
    subst hv5
    clear hN5
    go_wp2_with fail
    refine G5.out.mono ?_; rintro e w6 ⟨v6, rfl, ho6, hb6⟩
    have R6 := Lib.hid (owned_rd ho6)
    have B6 : Hid (Below w.heap.size w w6) := B2.out.trans ((B5.out.trans (hb6.mono B5.out.size)).mono B2.out.size)
    obtain ⟨A6, d6, rfl⟩ := owned_slice ho6
    clear ho6 hb6
    have SMab : Hid (∀ wr, Below w6.heap.size w6 wr → Calls Try.prog 17 #[.slice A a.length ca, .slice B b.length cb] wr fun e w' => e = .returned (.bool false) ∧ w' = wr) := fun wr hb => by
      have h4 := bySame_any ((HA.out.kept B6.out).kept hb) ((HB.out.kept B6.out).kept hb)
      rw [← HE.out] at h4; exact h4
    have SMca : Hid (∀ wr, Below w6.heap.size w6 wr → Calls Try.prog 17 #[.slice A6 a.length d6, .slice A a.length ca] wr fun e w' => e = .returned (.bool true) ∧ w' = wr) := fun wr hb => by
      have h4 := bySame_any (R6.out.kept hb) ((HA.out.kept B6.out).kept hb)
      rw [beq_self_eq_true] at h4; exact h4
    have KN := Lib.hid (fun w => known17_any w)
    have e8 : IntKind.i64.wrap ((c.length : Int) + (N1 : Int)) = (N4 : Int) := by rw [IntKind.wrap_i64]; have := HN4.out; omega
    go_wp2_with fail
    refine (SMab.out _ (Below.refl _ _)).mono ?_; rintro e w6 ⟨rfl, rfl⟩
    go_wp2_with fail
    refine (SMca.out _ (Below.refl _ _)).mono ?_; rintro e w6 ⟨rfl, rfl⟩
    go_wp2_with fail
    refine (KN.out _).mono ?_; rintro e w7 ⟨rfl, bk⟩
    have B7 := Lib.hid (B6.out.trans (bk.mono B6.out.size))
    clear bk
    go_wp2_with fail
    go_returns
    exact ⟨rfl, B7.out⟩
theorem walk (va : Value) (a : List UInt8) (vb : Value) (b : List UInt8) (vc : Value) (c : List UInt8) (w : World) (ha : Rd w (· < w.heap.size) va (bts a)) (hb : Rd w (· < w.heap.size) vb (bts b)) (hc : Rd w (· < w.heap.size) vc (bts c)) :
    Calls Try.prog 8 #[va, vb, vc] w fun e w' => e = .returned (.bool true) ∧ Below w.heap.size w w' := by
  by_cases h : 8000 < a.length ∨ 8000 < b.length ∨ 8000 < c.length
  · obtain ⟨A, ca, rfl, _⟩ := rd_len ha
    obtain ⟨B, cb, rfl, _⟩ := rd_len hb
    obtain ⟨C, cc, rfl, _⟩ := rd_len hc
    exact long A B C _ ca _ cb _ cc w h
  · exact short va vb vc a b c w ha hb hc (by omega) (by omega) (by omega)


set_option maxRecDepth 100000 in
theorem lifted (os : Os) (started : os.Started) (H : Type) (enc : TypeId × Value → H) :
    ReturnsInHanded {} Try.checked os 8 .any (Rows.crateApartSpec.pre6 enc Try.prog Try.f8 Rows.crateApartRow.domain false) (Rows.crateApartSpec.post enc Try.prog Try.f8 false true false false) := by
  refine returnsInHanded_of_change (C := Try.checked) own started (by kernel_rfl) Try.func8
    (ChangeSpec.witness6 (enc := enc) (C := Try.checked) false ⟨#[], #[.slice none 0 0, .slice none 0 0, .slice none 0 0], []⟩ 8 (by kernel_rfl) (by kernel_rfl) (by kernel_rfl) (by kernel_rfl)) ?_
  intro W base args ds gs before hval0 hW _ _
  have hval : ∀ (j : Nat) t v, Try.f8.params[j]? = some t → args[j]? = some v → Value.okWide Try.prog W .any base t v := hval0
  have hW' := hW
  obtain ⟨p, q, hA0, hV, rfl, hfz, hnd⟩ := hW
  have hA : DataW.TrodAll enc Try.prog W 0 (fun _ => true) true Try.f8.params.toList args.toList ds p := hA0
  rw [Try.params8] at hA hval
  obtain ⟨v0, vs0, d0, ds0, p0, q0, hargs, rfl, rfl, h0, r0⟩ := trodAll_cons hA
  obtain ⟨v1, vs1, d1, ds1, p1, q1, rfl, rfl, rfl, h1, r1⟩ := trodAll_cons r0
  obtain ⟨v2, vs2, d2, ds2, p2, q2, rfl, rfl, rfl, h2, r2⟩ := trodAll_cons r1
  obtain ⟨rfl, rfl, rfl⟩ := trodAll_nil r2
  obtain rfl : args = #[v0, v1, v2] := by cases args; simp_all
  obtain ⟨a, w0⟩ := open_reader (reader_bytes Try.underlying22 Try.underlying5 (by kernel_rfl)) h0 (okWide_slice Try.underlying22 (hval 0 22 v0 rfl rfl))
  obtain ⟨b, w1⟩ := open_reader (reader_bytes Try.underlying22 Try.underlying5 (by kernel_rfl)) h1 (okWide_slice Try.underlying22 (hval 1 22 v1 rfl rfl))
  obtain ⟨ahead, w2⟩ := open_reader (reader_bytes Try.underlying22 Try.underlying5 (by kernel_rfl)) h2 (okWide_slice Try.underlying22 (hval 2 22 v2 rfl rfl))
  clear hA0 hval0
  refine (walk v0 a v1 b v2 ahead W w0 w1 w2).mono fun e W' ⟨he, hb⟩ => ?_
  subst he
  exact ⟨_, rfl, law_post (by kernel_rfl) (by kernel_rfl) rfl Try.underlying4 rfl hW' rfl hb⟩

theorem over : Rows.crateApartRow.holds Try.pinned (OpenSpec.ofChange Rows.crateApartSpec) :=
  OpenClaim.holds_of_wide 8 Try.f8 rfl rfl rfl rfl rfl rfl rfl ⟨rfl, rfl, rfl, rfl, rfl⟩ rfl rfl rfl rfl rfl (by kernel_rfl) Try.func8 (by kernel_rfl)
    (of_decide_eq_true (by kernel_rfl)) (by unfold Func.isWrapper; first | (rw [if_pos (by decide +kernel)]; kernel_rfl) | (rw [if_neg (by decide +kernel)]; exact ⟨rfl, rfl⟩))
    (fun os started H enc _ => lifted os started H enc)

theorem proved : Rows.CrateApartSaid :=
  over
#print axioms proved
end Go.Proofs.Ytbgdhmacpgnfeaa.crateApart
