/-
  SpoolNil: a spool that is not there answers so, two know nothing of one another, what was handed out stays, whatever the bytes: so the law returns true for every input.
-/
import Derived.Test.YtifcmapicpnkgaaSpoolN
import Derived.Test.YtifcmapicpnkgaaOpen
import Derived.Test.YtifcmapicpnkgaaRows
import Derived.Test.YtifcmapicpnkgaaArgs2
namespace Go.Proofs.Ytifcmapicpnkgaa.spoolNil
open Go.ChangeShapes Go.WideShapes Go.ChangeAt Go.RowKit
set_option linter.unusedVariables false

theorem own : ownKnob Try.prog.godebug = none := by kernel_rfl

open Go.Lib
theorem u64_bd (x : Int) : 0 ≤ IntKind.u64.wrap x ∧ IntKind.u64.wrap x ≤ 18446744073709551615 := by rw [IntKind.wrap_u64]; omega
theorem long (A B : Option Addr) (n c m d : Nat) (cut : Int) (w : World) (h : 300 < n ∨ 300 < m) :
    Calls Try.prog 7 #[.slice A n c, .slice B m d, .int .i64 cut] w fun e w' => e = .returned (.bool true) ∧ Below w.heap.size w w' := by
  have HK := Lib.hid (known18_any w)
  by_cases h1 : 300 < n
  · have t : decide ((n : Int) > 300) = true := decide_eq_true (by omega)
    clear h
    go_enter Try.func7, Try.ntmps7
    go_wp2_with fail
    refine HK.out.mono ?_; rintro e w1 ⟨rfl, b1⟩
    go_wp2_with fail
    go_returns
    exact ⟨rfl, b1⟩
  · have h2 : 300 < m := by omega
    have t : decide ((n : Int) > 300) = false := decide_eq_false (by omega)
    have t2 : decide ((m : Int) > 300) = true := decide_eq_true (by omega)
    clear h
    go_enter Try.func7, Try.ntmps7
    go_wp2_with fail
    refine HK.out.mono ?_; rintro e w1 ⟨rfl, b1⟩
    go_wp2_with fail
    go_returns
    exact ⟨rfl, b1⟩
theorem rd_take {w : World} {K : Nat → Prop} {A : Option Addr} {c : Nat} {ss : List UInt8} (h : Rd w K (.slice A ss.length c) (bts ss)) (n : Nat) (hn : n ≤ ss.length) : Rd w K (.slice A n c) (bts (ss.take n)) := by
  obtain ⟨A', c', h1, h2, h3, h4⟩ := h
  rw [bts_len] at h1 h2 h4
  injection h1 with h1 h1' h1''
  subst h1 h1''
  refine ⟨A, c, by rw [bts_len, List.length_take, Nat.min_eq_left hn], by rw [bts_len, List.length_take]; omega, h3, fun h0 => ?_⟩
  rw [bts_len, List.length_take] at h0
  obtain ⟨b, off, h5, h6, h7, h8⟩ := h4 (by omega)
  refine ⟨b, off, h5, h6, h7, fun j u hj => h8 j u ?_⟩
  rw [bts_take] at hj
  have hjl : j < n := by have := (List.getElem?_eq_some_iff.1 hj).1; simp at this; omega
  rw [List.getElem?_take_of_lt hjl] at hj
  exact hj
theorem rd_drop {w : World} {K : Nat → Prop} {g n : Nat} {zs : List UInt8} (h : Rd w K (.slice (some ⟨g, 0, none⟩) zs.length n) (bts zs)) (k : Nat) (hk : k < zs.length) (m : Nat) (hm : zs.length - k ≤ m) (hm2 : m ≤ maxLen) :
    Rd w (fun _ => True) (.slice (some ⟨g, k, none⟩) (zs.length - k) m) (bts (zs.drop k)) := by
  obtain ⟨A, c, h1, h2, h3, h4⟩ := h
  injection h1 with h1 _ _
  subst h1
  refine ⟨_, _, by rw [bts_len, List.length_drop], by rw [bts_len, List.length_drop]; exact hm, hm2, fun _ => ?_⟩
  obtain ⟨b, off, h5, _, h7, h8⟩ := h4 (by rw [bts_len]; omega)
  injection h5 with h5
  obtain ⟨rfl, rfl⟩ : g = b ∧ 0 = off := by injection h5 with e1 e2 _; exact ⟨e1, e2⟩
  refine ⟨g, k, rfl, trivial, h7, fun j u hj => ?_⟩
  have := h8 (k + j) u (by rw [← hj]; simp [bts])
  rw [Nat.zero_add] at this; exact this
set_option maxRecDepth 100000 in
set_option maxHeartbeats 1000000 in
theorem short (va vb : Value) (a b : List UInt8) (cut : Int) (w : World) (ha : Rd w (· < w.heap.size) va (bts a)) (hb : Rd w (· < w.heap.size) vb (bts b)) (la : a.length ≤ 300) (lb : b.length ≤ 300) :
    Calls Try.prog 7 #[va, vb, .int .i64 cut] w fun e w' => e = .returned (.bool true) ∧ Below w.heap.size w w' := by
  have HA := Lib.hid ha
  have HB := Lib.hid hb
  obtain ⟨A, c, rfl, hc⟩ := rd_form ha
  obtain ⟨B, d, rfl, hd⟩ := rd_form hb
  have u2 := u64_bd cut
  obtain ⟨k, hk⟩ := Int.eq_ofNat_of_zero_le (a := IntKind.u64.wrap cut % ((a.length : Int) + 1)) (Int.emod_nonneg _ (by omega))
  have lk : (k : Int) ≤ a.length := by have := Int.emod_lt_of_pos (IntKind.u64.wrap cut) (show (0 : Int) < a.length + 1 by omega); omega
  have t1 : decide ((a.length : Int) > 300) = false := decide_eq_false (by omega)
  have t2 : decide ((b.length : Int) > 300) = false := decide_eq_false (by omega)
  have HN := Lib.hid (new_any 2000 w w.heap.size (by decide) (by decide) (Nat.le_refl _))
  clear ha hb
  go_enter Try.func7, Try.ntmps7
  go_wp2_with fail
  refine (nil_off _ _).mono ?_; rintro e w ⟨rfl, rfl⟩
  go_wp2_with fail
  refine (nil_crash _ _).mono ?_; rintro e w ⟨rfl, rfl⟩
  go_wp2_with fail
  refine (nil_add _ _).mono ?_; rintro e w ⟨rfl, rfl⟩
  go_wp2_with fail
  refine (nil_sync _).mono ?_; rintro e w ⟨rfl, rfl⟩
  go_wp2_with fail
  refine (nil_cut _ _).mono ?_; rintro e w ⟨rfl, rfl⟩
  go_wp2_with fail
  refine (nil_bytes _).mono ?_; rintro e w ⟨rfl, rfl⟩
  go_wp2_with fail
  refine (nil_len _).mono ?_; rintro e w ⟨rfl, rfl⟩
  go_wp2_with fail
  refine (nil_sure _).mono ?_; rintro e w ⟨rfl, rfl⟩
  go_wp2_with fail
  refine (on_nil _).mono ?_; rintro e w ⟨rfl, rfl⟩
  go_wp2_with fail
  refine HN.out.mono ?_; rintro e w1 ⟨rfl, hs1, hb1, hz1⟩
  have HM := Lib.hid (new_any 2000 w1 w.heap.size (by decide) (by decide) (by omega))
  have S1 := Lib.hid hs1
  have B1 := Lib.hid hb1
  obtain ⟨N1, hN1⟩ : ∃ N1 : Nat → Prop, N1 = fun b => b = w.heap.size := ⟨_, rfl⟩
  rw [← hN1] at S1
  have HZ1 := Lib.hid hz1
  have HNE := Lib.hid hN1
  clear hs1 hb1 hz1 hN1
  go_wp2_with fail
  refine HM.out.mono ?_; rintro e w2 ⟨rfl, ht2, hb2, hz2⟩
  have S2 := Lib.hid (S1.out.kept hb2)
  have T2 := Lib.hid ht2
  obtain ⟨M, hM⟩ : ∃ M : Nat → Prop, M = fun b => b = w1.heap.size := ⟨_, rfl⟩
  rw [← hM] at T2
  have D2 : Hid (∀ b, M b → ¬ N1 b) := by
    intro b hb hn
    rw [hM] at hb
    rw [HNE.out] at hn
    have := HZ1.out
    omega
  have B2 := Lib.hid (B1.out.trans (hb2.mono B1.out.size))
  have HMb : Hid (∀ b, M b → b < w2.heap.size) := fun b hb => T2.out.lt b hb
  clear ht2 hb2 hz2 hM
  generalize w1.heap.size = tb at *
  go_wp2_with fail
  refine (add_at (s' := ⟨2000, a, 0, -1, false⟩) (n := 0) (by rw [addS_ok _ _ rfl (by simp; omega) neg1]; rfl) S2.out (HA.out.fr (N := fun _ => False) (fr_of_below B2.out fun b h1 h2 => by omega) fun _ _ _ h => h) (fun b hb h => by have := (S2.out.2.1 b h).1; have hb' : b < w.heap.size := hb; omega)).mono ?_; rintro e w3 ⟨rfl, h3⟩
  obtain ⟨N3, hs3, hF3, hO3⟩ := h3.other
  have S3 := Lib.hid hs3
  have T3 := Lib.hid (T2.out.fr hF3 D2.out)
  have D3 : Hid (∀ b, M b → ¬ N3 b) := fun b hb => hO3 b (HMb.out b hb) (D2.out b hb)
  have B3 := Lib.hid (B2.out.trans (S2.out.below hF3))
  clear h3 hs3 hF3 hO3
  go_wp2_with fail
  refine (bytes_any S3.out rfl).mono ?_; rintro e w4 ⟨gx, hgx, rfl, hx4, hb4⟩
  have S4 := Lib.hid (S3.out.kept hb4)
  have T4 := Lib.hid (T3.out.kept hb4)
  have B4 := Lib.hid (B3.out.trans (hb4.mono B3.out.size))
  have X4 := Lib.hid hx4
  have NX4 : Hid (¬ N3 gx) := fun h => by have := S3.out.lt gx h; omega
  clear hb4 hx4 hgx
  go_wp2_with fail
  refine (cut_at (s' := ⟨2000, a.take k, k, -1, false⟩) (n := 0) (cutS_ok _ k rfl (by show k ≤ a.length; omega) neg1) S4.out).mono ?_; rintro e w5 ⟨rfl, h5⟩
  obtain ⟨N5, hs5, hF5, hO5⟩ := h5.other
  have S5 := Lib.hid hs5
  have T5 := Lib.hid (T4.out.fr hF5 D3.out)
  have D5 : Hid (∀ b, M b → ¬ N5 b) := fun b hb => hO5 b (by have := T4.out.lt b hb; exact this) (D3.out b hb)
  have X5 := Lib.hid (X4.out.fr hF5 NX4.out)
  have NX5 : Hid (¬ N5 gx) := hO5 gx X4.out.lt NX4.out
  have B5 := Lib.hid (B4.out.trans (S4.out.below hF5))
  clear h5 hs5 hF5 hO5
  obtain ⟨zs, hzs⟩ : ∃ zs, zs = a.take k ++ b := ⟨_, rfl⟩
  have HZ := Lib.hid hzs
  have lz : zs.length = k + b.length := by rw [hzs, List.length_append, List.length_take]; omega
  have LZ := Lib.hid lz
  have HAd : Hid (addS ⟨2000, a.take k, k, -1, false⟩ b = (⟨2000, zs, k, -1, false⟩, 0)) := by show _ = _; rw [addS_ok _ _ rfl (by simp; omega) neg1, hzs]
  clear hzs lz
  go_wp2_with fail
  refine (add_at HAd.out S5.out (HB.out.fr (N := fun _ => False) (fr_of_below B5.out fun b h1 h2 => by omega) fun _ _ _ h => h) (fun b hb h => by have := (S5.out.2.1 b h).1; have hb' : b < w.heap.size := hb; omega)).mono ?_; rintro e w6 ⟨rfl, h6⟩
  obtain ⟨N6, hs6, hF6, hO6⟩ := h6.other
  have S6 := Lib.hid hs6
  have T6 := Lib.hid (T5.out.fr hF6 D5.out)
  have D6 : Hid (∀ b, M b → ¬ N6 b) := fun b hb => hO6 b (by have := T5.out.lt b hb; exact this) (D5.out b hb)
  have X6 := Lib.hid (X5.out.fr hF6 NX5.out)
  have B6 := Lib.hid (B5.out.trans (S5.out.below hF6))
  clear h6 hs6 hF6 hO6
  go_wp2_with fail
  refine (bytes_any S6.out rfl).mono ?_; rintro e w7 ⟨gy, hgy, rfl, hy7, hb7⟩
  have S7 := Lib.hid (S6.out.kept hb7)
  have T7 := Lib.hid (T6.out.kept hb7)
  have X7 := Lib.hid (X6.out.kept hb7)
  have B7 := Lib.hid (B6.out.trans (hb7.mono B6.out.size))
  have SY : Hid (Calls Try.prog 16 #[.slice (some ⟨gy, 0, none⟩) zs.length zs.length] w7 fun e w' => e = .returned (.tuple #[]) ∧ Fr (fun b => b = gy) w7 w') := spoil_bytes w7 gy zs hy7 (by have := LZ.out; omega)
  have NY : Hid (w6.heap.size ≤ gy) := hgy
  clear hb7 hy7 hgy
  go_wp2_with fail
  refine SY.out.mono ?_; rintro e w8 ⟨rfl, hF8⟩
  have S8 := Lib.hid (S7.out.fr hF8 fun b hb e => by have := S6.out.lt b hb; have := NY.out; omega)
  have T8 := Lib.hid (T7.out.fr hF8 fun b hb e => by have := T6.out.lt b hb; have := NY.out; omega)
  have X8 := Lib.hid (X7.out.fr hF8 (fun e => by have := X6.out.lt; have := NY.out; omega))
  have B8 := Lib.hid (B7.out.trans (hF8.below (by have := B7.out.size; exact this) fun b hb => by have := NY.out; have := B6.out.size; omega))
  clear hF8
  go_wp2_with fail
  refine (bytes_any S8.out rfl).mono ?_; rintro e w9 ⟨gz, hgz, rfl, hz9, hb9⟩
  have T9 := Lib.hid (T8.out.kept hb9)
  have X9 := Lib.hid (X8.out.kept hb9)
  have Z9 : Hid (Blk w9 gz (bts zs).toArray 5) := hz9
  have B9 := Lib.hid (B8.out.trans (hb9.mono B8.out.size))
  clear hb9 hz9 hgz
  have SM1 : Hid (∀ wr, Below w9.heap.size w9 wr → Calls Try.prog 27 #[.slice (some ⟨gx, 0, none⟩) a.length a.length, .slice A a.length c] wr fun e w' => e = .returned (.bool true) ∧ w' = wr) := fun wr hb => by
    have := bySame_any ((bytes_rd X9.out hc).kept hb) ((HA.out.fr (N := fun _ => False) (fr_of_below B9.out fun b h1 h2 => by omega) fun _ _ _ h => h).kept hb)
    rw [beq_self_eq_true] at this; exact this
  have SM2 : Hid (∀ wr, Below w9.heap.size w9 wr → Calls Try.prog 27 #[.slice (some ⟨gz, 0, none⟩) k zs.length, .slice A k c] wr fun e w' => e = .returned (.bool true) ∧ w' = wr) := fun wr hb => by
    have hk2 : k ≤ a.length := by omega
    have := bySame_any (rd_take ((bytes_rd Z9.out (by have := LZ.out; unfold maxLen; omega)).kept hb) k (by have := LZ.out; omega)) (rd_take ((HA.out.fr (N := fun _ => False) (fr_of_below B9.out fun b h1 h2 => by omega) fun _ _ _ h => h).kept hb) k hk2)
    have e : zs.take k = a.take k := by rw [HZ.out, List.take_append_of_le_length (by rw [List.length_take]; omega), List.take_take, Nat.min_self]
    rw [e, beq_self_eq_true] at this; exact this
  have LT : Hid (∀ wr, Below w9.heap.size w9 wr → Calls Try.prog 28 #[.pointer (some ⟨tb, 0, none⟩)] wr fun e w' => e = .returned (.int .i64 0) ∧ w' = wr) := fun wr hb => len_at (n := 0) rfl (T9.out.kept hb)
  have KN : Hid (∀ wr, Calls Try.prog 9 #[] wr fun e w' => e = .returned (.bool true) ∧ Below wr.heap.size wr w') := fun wr => known18_any wr
  have hcap : k ≤ c := by
    obtain ⟨A', c', h1, h2, _⟩ := HA.out
    injection h1 with _ _ h1
    rw [bts_len] at h2
    omega
  unfold maxLen at hc
  have lk2 : (k : Int) ≤ c := by omega
  have q1 : (k : Int) + b.length = zs.length := by have := LZ.out; omega
  have q2 : k ≤ zs.length := by omega
  have q3 : IntKind.i64.wrap ((k : Int) + b.length) = zs.length := by rw [q1, IntKind.wrap_i64]; clear q1; have := LZ.out; omega
  have q4 : ((zs.length : Int) == (zs.length : Int)) = true := by simp
  clear q1
  rcases Nat.eq_zero_or_pos b.length with h0 | h0
  · have hzk : zs.length = k := by have := LZ.out; omega
    have H0 := Lib.hid h0
    have SM2' : Hid (∀ wr, Below w9.heap.size w9 wr → Calls Try.prog 27 #[.slice (some ⟨gz, 0, none⟩) k k, .slice A k c] wr fun e w' => e = .returned (.bool true) ∧ w' = wr) := by have := SM2; rw [hzk] at this; exact this
    rw [hzk] at q3 q4
    clear h0
    have SM3 : Hid (∀ wr, Below w9.heap.size w9 wr → Calls Try.prog 27 #[.slice (some ⟨gz, 0, none⟩) 0 0, .slice B b.length d] wr fun e w' => e = .returned (.bool true) ∧ w' = wr) := fun wr hb => by
      obtain rfl : b = [] := List.eq_nil_of_length_eq_zero H0.out
      have := bySame_any (w := wr) (K1 := fun _ => True) (v1 := .slice (some ⟨gz, 0, none⟩) 0 0) (xs := []) ⟨_, 0, rfl, Nat.le_refl _, Nat.zero_le _, fun h => absurd h (by simp [bts])⟩ ((HB.out.fr (N := fun _ => False) (fr_of_below B9.out fun b h1 h2 => by omega) fun _ _ _ h => h).kept hb)
      exact this
    go_wp2_with fail
    go_region_held3 (fun w' => Below w9.heap.size w9 w')
      (first
        | exact (Below.refl _ _).drew
        | assumption
        | exact below_next (by assumption) (by assumption))
      (first
        | (go_at_call 27; first
            | ((with_reducible refine (SM1.out _ (by assumption)).mono ?_); rintro e w1 ⟨rfl, rfl⟩)
            | ((with_reducible refine (SM2'.out _ (by assumption)).mono ?_); rintro e w1 ⟨rfl, rfl⟩)
            | ((with_reducible refine (SM3.out _ (by assumption)).mono ?_); rintro e w1 ⟨rfl, rfl⟩))
        | (go_at_call 28; ((with_reducible refine (LT.out _ (by assumption)).mono ?_); rintro e w1 ⟨rfl, rfl⟩))
        | (go_at_call 9; ((with_reducible refine (KN.out _).mono ?_); rintro e w1 ⟨rfl, bk⟩)))
    all_goals
      go_wp2_with fail
      go_returns
      exact ⟨rfl, B9.out.trans ((by assumption : Below w9.heap.size w9 _).mono B9.out.size)⟩
  · have hzk : ¬ zs.length = k := by have := LZ.out; omega
    have SM3 : Hid (∀ wr, Below w9.heap.size w9 wr → Calls Try.prog 27 #[.slice (some ⟨gz, k, none⟩) (zs.length - k) (zs.length - k), .slice B b.length d] wr fun e w' => e = .returned (.bool true) ∧ w' = wr) := fun wr hb => by
      have := bySame_any (rd_drop ((bytes_rd Z9.out (by have := LZ.out; unfold maxLen; omega)).kept hb) k (by have := LZ.out; omega) (zs.length - k) (Nat.le_refl _) (by have := LZ.out; unfold maxLen; omega)) ((HB.out.fr (N := fun _ => False) (fr_of_below B9.out fun b h1 h2 => by omega) fun _ _ _ h => h).kept hb)
      have e : zs.drop k = b := by rw [HZ.out, List.drop_append_of_le_length (by rw [List.length_take]; omega), List.drop_eq_nil_of_le (by rw [List.length_take]; omega), List.nil_append]
      rw [e, beq_self_eq_true] at this; exact this
    go_wp2_with fail
    go_region_held3 (fun w' => Below w9.heap.size w9 w')
      (first
        | exact (Below.refl _ _).drew
        | assumption
        | exact below_next (by assumption) (by assumption))
      (first
        | (go_at_call 27; first
            | ((with_reducible refine (SM1.out _ (by assumption)).mono ?_); rintro e w1 ⟨rfl, rfl⟩)
            | ((with_reducible refine (SM2.out _ (by assumption)).mono ?_); rintro e w1 ⟨rfl, rfl⟩)
            | ((with_reducible refine (SM3.out _ (by assumption)).mono ?_); rintro e w1 ⟨rfl, rfl⟩))
        | (go_at_call 28; ((with_reducible refine (LT.out _ (by assumption)).mono ?_); rintro e w1 ⟨rfl, rfl⟩))
        | (go_at_call 9; ((with_reducible refine (KN.out _).mono ?_); rintro e w1 ⟨rfl, bk⟩)))
    all_goals
      go_wp2_with fail
      go_returns
      exact ⟨rfl, B9.out.trans ((by assumption : Below w9.heap.size w9 _).mono B9.out.size)⟩
theorem walk (va : Value) (a : List UInt8) (vb : Value) (b : List UInt8) (cut : Int) (w : World) (ha : Rd w (· < w.heap.size) va (bts a)) (hb : Rd w (· < w.heap.size) vb (bts b)) (w2 : (Lit.int .i64 cut).wf = true) :
    Calls Try.prog 7 #[va, vb, .int .i64 cut] w fun e w' => e = .returned (.bool true) ∧ Below w.heap.size w w' := by
  by_cases h : 300 < a.length ∨ 300 < b.length
  · obtain ⟨A, c, rfl, _⟩ := rd_form ha
    obtain ⟨B, d, rfl, _⟩ := rd_form hb
    exact long A B _ c _ d cut w h
  · exact short va vb a b cut w ha hb (by omega) (by omega)


set_option maxRecDepth 100000 in
theorem lifted (os : Os) (started : os.Started) (H : Type) (enc : TypeId × Value → H) :
    ReturnsInHanded {} Try.checked os 7 .any (Rows.spoolNilSpec.pre6 enc Try.prog Try.f7 Rows.spoolNilRow.domain false) (Rows.spoolNilSpec.post enc Try.prog Try.f7 false true false false) := by
  refine returnsInHanded_of_change (C := Try.checked) own started (by kernel_rfl) Try.func7
    (ChangeSpec.witness6 (enc := enc) (C := Try.checked) false ⟨#[], #[.slice none 0 0, .slice none 0 0, .int .i64 0], []⟩ 8 (by kernel_rfl) (by kernel_rfl) (by kernel_rfl) (by kernel_rfl)) ?_
  intro W base args ds gs before hval0 hW _ _
  have hval : ∀ (j : Nat) t v, Try.f7.params[j]? = some t → args[j]? = some v → Value.okWide Try.prog W .any base t v := hval0
  have hW' := hW
  obtain ⟨p, q, hA0, hV, rfl, hfz, hnd⟩ := hW
  have hA : DataW.TrodAll enc Try.prog W 0 (fun _ => true) true Try.f7.params.toList args.toList ds p := hA0
  rw [Try.params7] at hA hval
  obtain ⟨v0, vs0, d0, ds0, p0, q0, hargs, rfl, rfl, h0, r0⟩ := trodAll_cons hA
  obtain ⟨v1, vs1, d1, ds1, p1, q1, rfl, rfl, rfl, h1, r1⟩ := trodAll_cons r0
  obtain ⟨v2, vs2, d2, ds2, p2, q2, rfl, rfl, rfl, h2, r2⟩ := trodAll_cons r1
  obtain ⟨rfl, rfl, rfl⟩ := trodAll_nil r2
  obtain rfl : args = #[v0, v1, v2] := by cases args; simp_all
  obtain ⟨a, w0⟩ := open_reader (reader_bytes Try.underlying32 Try.underlying5 (by kernel_rfl)) h0 (okWide_slice Try.underlying32 (hval 0 32 v0 rfl rfl))
  obtain ⟨b, w1⟩ := open_reader (reader_bytes Try.underlying32 Try.underlying5 (by kernel_rfl)) h1 (okWide_slice Try.underlying32 (hval 1 32 v1 rfl rfl))
  obtain ⟨cut, rfl, rfl, rfl, w2⟩ := open_int Try.underlying3 (hval 2 3 v2 rfl rfl) h2
  clear hA0 hval0
  refine (walk v0 a v1 b cut W w0 w1 w2).mono fun e W' ⟨he, hb⟩ => ?_
  subst he
  exact ⟨_, rfl, law_post (by kernel_rfl) (by kernel_rfl) rfl Try.underlying4 rfl hW' rfl hb⟩

theorem over : Rows.spoolNilRow.holds Try.pinned (OpenSpec.ofChange Rows.spoolNilSpec) :=
  OpenClaim.holds_of_wide 7 Try.f7 rfl rfl rfl rfl rfl rfl rfl ⟨rfl, rfl, rfl, rfl, rfl⟩ rfl rfl rfl rfl rfl (by kernel_rfl) Try.func7 (by kernel_rfl)
    (of_decide_eq_true (by kernel_rfl)) (by unfold Func.isWrapper; first | (rw [if_pos (by decide +kernel)]; kernel_rfl) | (rw [if_neg (by decide +kernel)]; exact ⟨rfl, rfl⟩))
    (fun os started H enc _ => lifted os started H enc)

theorem proved : Rows.SpoolNilSaid :=
  over
#print axioms proved
end Go.Proofs.Ytifcmapicpnkgaa.spoolNil
