/-
  CrateBack: crates one behind the other are got as they were put, whatever stands behind a nought, and cut anywhere those that are whole: so the law returns true for every input.
-/
import Derived.Test.YtbgdhmacpgnfeaaCrateP
import Derived.Test.YtbgdhmacpgnfeaaRows
import Derived.Test.YtbgdhmacpgnfeaaArgs2
namespace Go.Proofs.Ytbgdhmacpgnfeaa.crateBack
open Go.ChangeShapes Go.WideShapes Go.ChangeAt Go.RowKit
set_option linter.unusedVariables false

theorem own : ownKnob Try.prog.godebug = none := by kernel_rfl

open Go.Lib
theorem long (A B : Option Addr) (n c m d : Nat) (cut : Int) (w : World) (h : 9000 < m) :
    Calls Try.prog 5 #[.slice A n c, .slice B m d, .int .i64 cut] w fun e w' => e = .returned (.bool true) ∧ Below w.heap.size w w' := by
  have HK := Lib.hid (known17_any w)
  have t : decide ((m : Int) > 9000) = true := decide_eq_true (by omega)
  clear h
  go_enter Try.func5, Try.ntmps5
  go_wp2_with fail
  refine HK.out.mono ?_; rintro e w1 ⟨rfl, b1⟩
  go_wp2_with fail
  go_returns
  exact ⟨rfl, b1⟩
/-- Where the loop stands. -/
def Lp (good : List (List UInt8)) (K : Nat) (nv tv : Value) : Prop :=
  ∃ n : Nat, n ≤ good.length ∧ nv = .int .i64 n ∧ tv = .int .i64 ((endL (good.take n) : Nat) : Int) ∧ endL (good.take n) ≤ K
set_option maxRecDepth 100000 in
set_option maxHeartbeats 1000000 in
theorem short (vl : Value) (l : List (List UInt8)) (vm : Value) (more : List UInt8) (cut : Int) (w : World) (hl : RowOf w 1 (fun cs (xs : List UInt8) => ∃ v, cs = [v] ∧ Rd w (· < w.heap.size) v (bts xs)) vl l) (hm : Rd w (· < w.heap.size) vm (bts more)) (hs : more.length ≤ 9000) :
    Calls Try.prog 5 #[vl, vm, .int .i64 cut] w fun e w' => e = .returned (.bool true) ∧ Below w.heap.size w w' := by
  obtain ⟨i0, hi, hz0, hz1, hz2⟩ := info_parts Try.infoB
  have HM := Lib.hid hm
  obtain ⟨M, hM⟩ : ∃ M, M = more.length := ⟨_, rfl⟩
  have RW := Lib.hid (row_any hl)
  obtain ⟨L, cl, rfl⟩ : ∃ A c, vl = .slice A l.length c := by obtain ⟨A, c, h, _⟩ := hl; exact ⟨A, c, h⟩
  obtain ⟨B, cm, rfl, hcm⟩ := rd_len hm
  clear hl hm
  rw [← hM] at HM hs
  rw [← hM]
  have HMl := Lib.hid hM
  have t1 : decide ((M : Int) > 9000) = false := decide_eq_false (by omega)
  have KN := Lib.hid (fun w => known17_any w)
  unfold maxLen at hcm
  clear hM hcm
  go_enter Try.func5, Try.ntmps5
  go_wp2_with fail
  refine RW.out.mono ?_; rintro e w1 ⟨good, gs, bv, gv, ev, rfl, hen, S⟩
  have HS := Lib.hid S
  obtain ⟨E, hE⟩ : ∃ E, E = endL good := ⟨_, rfl⟩
  obtain ⟨G, hG⟩ : ∃ G, G = good.length := ⟨_, rfl⟩
  have hb := S.b
  have hg := S.g
  have he := S.e
  rw [← hE] at hb hen
  rw [← hG] at hg he
  have HGL : Hid (RdL w1 gv good) := ⟨gs, S.gl, Rd.of_owns (by rw [S.gl]; exact S.g) fun _ _ => trivial, fun i u x hu hx => ((S.gr i u x hu hx).kept S.fr).mono fun _ _ _ => trivial⟩
  have HB := Lib.hid (owned_rd hb)
  have HEo := Lib.hid he
  have HE := Lib.hid hE
  have HG := Lib.hid hG
  have HFL : Hid ((flatB good).length = E) := by unfold Hid; rw [flatB_len, hE]
  have hgE : 7 * G ≤ E := by rw [hG, hE]; exact endL_len good
  obtain ⟨A1, c1, rfl⟩ := owned_slice hb
  obtain ⟨A2, c2, rfl⟩ := owned_slice hg
  obtain ⟨A3, c3, rfl⟩ := owned_slice he
  have hc1 : E ≤ c1 := by obtain ⟨_, _, h1, h2, _⟩ := HB.out; injection h1 with _ _ h3; rw [bts_len, HFL.out] at h2; omega
  have hc2 : G ≤ c2 := by obtain ⟨_, _, h1, h2, _⟩ := HGL.out.form; injection h1 with _ _ h3; rw [← HG.out] at h2; omega
  have F1 : Hid (Below w.heap.size w w1) := S.fr
  have HEACH : Hid (∀ x ∈ good, x.length ≤ 8000) := S.each
  clear hE hG hb hg he S HS RW
  go_wp2_with fail
  refine (byCopy_any HB.out (by rw [HFL.out]; omega)).mono ?_; rintro e w2 ⟨v2, rfl, ho2, hb2⟩
  rw [HFL.out] at ho2
  have HO2 := Lib.hid ho2
  have B2 : Hid (Below w1.heap.size w1 w2) := hb2
  obtain ⟨A4, c4, rfl⟩ := owned_slice ho2
  clear ho2 hb2
  go_wp2_with (at_builtin; refine wpList_append_own _ rfl _ _ 22 rfl w1.heap.size 5 i0 _ 1 1 Try.underlying22 hi hz0 hz1 hz2 rfl (by decide) _ E (bts (flatB good)) rfl (owns_alloc HO2.out _) ⟨w2.heap.size, 0, none⟩ 1 1 (bts [0]) rfl rfl ?q1 (bts_one _) ?q2 ?q3 ?q4 ?_)
  case q1 => exact news_alloc w2 (bts [0]) 5
  case q2 => unfold maxLen; omega
  case q3 => omega
  case q4 => have := B2.out.size; simp; omega
  intro v3 w3 ho3 hg3 _
  obtain ⟨E1, hE1⟩ : ∃ E1, E1 = E + 1 := ⟨_, rfl⟩
  rw [← hE1, ← bts_app] at ho3
  have HO3 := Lib.hid ho3
  have B3 : Hid (Below w1.heap.size w1 w3) := (B2.out.alloc B2.out.size _).grown hg3 (by have := B2.out.size; simp; omega) fun k hk => owns_base HO2.out hk
  obtain ⟨A5, c5, rfl⟩ := owned_slice ho3
  have HE1 := Lib.hid hE1
  have hE1b : E1 ≤ 17011 := by omega
  clear ho3 hg3 hE1
  go_wp2_with (at_builtin; refine wpList_app rfl _ _ 22 rfl w1.heap.size 5 i0 _ 1 1 Try.underlying22 hi hz0 hz1 hz2 rfl (by decide) _ E1 _ rfl HO3.out _ M (bts more) rfl ?q1 (bts_one _) ?q2 ?q3 ?q4 ?_)
  case q1 => have := rd_src (HM.out.kept (F1.out.trans (B3.out.mono F1.out.size))); rw [bts_len, ← HMl.out] at this; exact this
  case q2 => unfold maxLen; omega
  case q3 => omega
  case q4 => exact B3.out.size
  intro v4 w4 ho4 hg4 _
  rw [← bts_app, List.append_assoc] at ho4
  have B4 : Hid (Below w1.heap.size w1 w4) := B3.out.grown hg4 B3.out.size fun k hk => owns_base HO3.out hk
  have AL : Hid (Calls Try.prog 21 #[v4] w4 fun e w' => ∃ bv, e = .returned (.tuple #[bv, .int .i64 E, .int .i64 0]) ∧ RdL w' bv good ∧ Below w4.heap.size w4 w') := by
    have R4 := owned_rd ho4
    obtain ⟨A6, c6, rfl⟩ := owned_slice ho4
    refine (all_any R4 (by simp only [List.length_append, HFL.out, ← HMl.out, List.length_cons, List.length_nil]; omega)).mono fun e w' h => ?_
    obtain ⟨bv, vs, he, ho, hbd, hb⟩ := h
    obtain ⟨e1, e2⟩ := err_flat good (0 :: more) HEACH.out (isB_zero more)
    rw [noB_zero, if_pos rfl] at e2
    have e0 : flatB good ++ ([0] ++ more) = flatB good ++ 0 :: more := rfl
    rw [e0, e1, e2, ← HE.out] at he
    rw [e0, e1] at hbd
    exact ⟨bv, he, RdL.of_bods ho hbd, hb⟩
  obtain ⟨A6, c6, hv6⟩ := owned_slice ho4
  obtain ⟨N4, hN4⟩ : ∃ N4, N4 = E1 + M := ⟨_, rfl⟩
  rw [← hN4] at hv6
  subst hv6
  clear ho4 hg4 hN4
  go_wp2_with fail
  refine AL.out.mono ?_; rintro e w5 ⟨v5, rfl, ha5, hb5⟩
  have HA5 := Lib.hid ha5
  have B5 : Hid (Below w1.heap.size w1 w5) := B4.out.trans (hb5.mono B4.out.size)
  have SL : Hid (Calls Try.prog 23 #[v5, .slice A2 G c2] w5 fun e w' => e = .returned (.bool true) ∧ Below w5.heap.size w5 w') :=
    (sameLists_any HA5.out (HGL.out.kept B5.out)).mono fun e w' ⟨he, n, hn⟩ => ⟨by rw [he, beq_self_eq_true], by subst hn; exact below_drewN (Below.refl _ _) n⟩
  obtain ⟨A7, c7, rfl, _⟩ := ha5.form
  rw [← HG.out] at HA5 SL ⊢
  clear ha5 hb5
  have tE : ((E : Int) != (E : Int)) = false := by simp
  obtain ⟨U, K, hU, hK, hKl, m3, m4, tk, m2, m1, m1w, hKt⟩ := mod_pick cut E1 (by rw [HE1.out]; exact Nat.succ_pos _) (Nat.le_trans hE1b (by decide))
  have m1' : (E : Int) + 1 = (E1 : Int) := by rw [HE1.out]; simp
  clear m1 m1w
  have HKE : Hid (K ≤ E) := by have := HE1.out; rw [this] at hKl; exact Nat.le_of_lt_succ hKl
  have HEL := Lib.hid hE1b
  clear hE1b
  go_wp2_with fail
  refine SL.out.mono ?_; rintro e w6 ⟨rfl, hb6⟩
  have B6 : Hid (Below w1.heap.size w1 w6) := B5.out.trans (hb6.mono B5.out.size)
  clear hb6
  go_wp2_with fail
  clear hU hK hKt hKl m1' m2 m3 m4 tk tE t1
  go_loop [15, 16] (Lp good K) (fun n _ => G - (RowKit.intOf n).toNat)
  case atStart => exact ⟨0, Nat.zero_le _, rfl, rfl, Nat.zero_le _⟩
  case round =>
    obtain ⟨n, hn, rfl, rfl, hnK⟩ := hrel
    rw [← HG.out] at hn
    have HNK := Lib.hid hnK
    obtain ⟨T, hT⟩ : ∃ T, T = endL (good.take n) := ⟨_, rfl⟩
    rw [← hT] at HNK
    rw [← hT]
    have HT := Lib.hid hT
    clear hT hnK
    have HEo6 := owns_next HEo.out B6.out
    have hg3 : n < G → ∃ g, A3 = some ⟨g, 0, none⟩ := fun hlt => by
      obtain ⟨_, ⟨h, h0⟩ | ⟨g, cap, _, h, _⟩⟩ := HEo6
      · omega
      · injection h with h; exact ⟨g, h⟩
    obtain ⟨T', hT'⟩ : ∃ T', T' = endL (good.take (n + 1)) := ⟨_, rfl⟩
    have hc0 : ∀ g, A3 = some ⟨g, 0, none⟩ → n < G → w6.cell? ⟨g, n, none⟩ = some (.int .i64 (T' : Int)) := by
      rintro g rfl hlt
      rw [HEo6.cellAt n (by rw [Nat.mul_one]; exact hlt), hT']
      exact endsB_get good n (by rw [← HG.out]; exact hlt)
    have HT' := Lib.hid hT'
    have HN := Lib.hid hn
    clear hT' HEo6
    by_cases hgo : n < G ∧ T' ≤ K
    · obtain ⟨hlt, hle⟩ := hgo
      have u1 : decide ((n : Int) < G) = true := decide_eq_true (by omega)
      have u1' : decide (n < G) = true := decide_eq_true hlt
      obtain ⟨g3, rfl⟩ := hg3 hlt
      have c0 := hc0 g3 rfl hlt
      have u2 : decide ((T' : Int) ≤ K) = true := decide_eq_true (by omega)
      have u2' : decide (T' ≤ K) = true := decide_eq_true hle
      have HLE := Lib.hid hle
      clear hle hc0 hg3
      go_wp2_with fail
      go_round
      case rel => exact ⟨n + 1, by rw [← HG.out]; exact hlt, by go_num, by rw [← HT'.out], by rw [← HT'.out]; exact HLE.out⟩
      case measure => simp [RowKit.intOf]; omega
    · have hex : n < good.length → K < endL (good.take (n + 1)) := fun h => by
        rw [← HG.out] at h
        rw [← HT'.out]
        exact Nat.lt_of_not_le fun h2 => hgo ⟨h, h2⟩
      have RC := rows_cut good K n HEACH.out (by rw [← HG.out]; exact hn) (by rw [← HT.out]; exact HNK.out) (by rw [← HE.out]; exact HKE.out) hex
      rw [← HT.out] at RC
      have kc1 : K ≤ c1 := Nat.le_trans HKE.out hc1
      have hR6 := ((rd_take (by rw [HFL.out]; exact HB.out) K (by rw [HFL.out]; exact HKE.out)).kept B6.out : Rd w6 _ (.slice A1 K c1) (bts ((flatB good).take K)))
      have hlen : ((flatB good).take K).length ≤ 1000000 := by rw [List.length_take, HFL.out]; omega
      by_cases hTK : T = K
      · have AL2 : Hid (Calls Try.prog 21 #[.slice A1 K c1] w6 fun e w' => ∃ bv, e = .returned (.tuple #[bv, .int .i64 T, .int .i64 0]) ∧ RdL w' bv (good.take n) ∧ Below w6.heap.size w6 w') :=
          (all_any hR6 hlen).mono fun e w' h => by
            obtain ⟨bv, vs, he, ho, hbd, hb⟩ := h
            rw [RC.1, RC.2, if_pos hTK, ← HT.out] at he
            rw [RC.1] at hbd
            exact ⟨bv, he, RdL.of_bods ho hbd, hb⟩
        have tb : ((T : Int) == (K : Int)) = true := by rw [hTK]; simp
        clear RC hR6 hlen hTK hex
        by_cases hlt : n < G
        · have u1 : decide ((n : Int) < G) = true := decide_eq_true (by omega)
          have u1' : decide (n < G) = true := decide_eq_true hlt
          obtain ⟨g3, rfl⟩ := hg3 hlt
          have c0 := hc0 g3 rfl hlt
          have u2 : decide ((T' : Int) ≤ K) = false := decide_eq_false (by omega)
          have u2' : decide (T' ≤ K) = false := decide_eq_false (by omega)
          clear hc0 hg3 hgo
          go_wp2_with fail
          refine AL2.out.mono ?_; rintro e w7 ⟨v7, rfl, ha7, hb7⟩
          have B7 : Hid (Below w1.heap.size w1 w7) := B6.out.trans (hb7.mono B6.out.size)
          have hgt : RdL w7 (.slice A2 n c2) (good.take n) := (RdL.take (xs := good) (by rw [← HG.out]; exact HGL.out) n (by rw [← HG.out]; exact HN.out)).kept B7.out
          have SL2 : Hid (Calls Try.prog 23 #[v7, .slice A2 n c2] w7 fun e w' => e = .returned (.bool true) ∧ Below w7.heap.size w7 w') :=
            (sameLists_any ha7 hgt).mono fun e w' ⟨he, n, hn⟩ => ⟨by rw [he, beq_self_eq_true], by subst hn; exact below_drewN (Below.refl _ _) n⟩
          obtain ⟨A8, c8, rfl, _⟩ := ha7.form
          rw [show (good.take n).length = n by rw [List.length_take, ← HG.out]; exact Nat.min_eq_left HN.out] at SL2 ⊢
          clear ha7 hb7 hgt
          go_wp2_with fail
          refine SL2.out.mono ?_; rintro e w8 ⟨rfl, hb8⟩
          have B8 : Hid (Below w1.heap.size w1 w8) := B7.out.trans (hb8.mono B7.out.size)
          clear hb8
          go_wp2_with fail
          refine (KN.out _).mono ?_; rintro e w9 ⟨rfl, bk⟩
          have B9 : Hid (Below w1.heap.size w1 w9) := B8.out.trans (bk.mono B8.out.size)
          clear bk
          go_wp2_with fail
          go_returns
          exact ⟨rfl, F1.out.trans (B9.out.mono F1.out.size)⟩
        · have u1 : decide ((n : Int) < G) = false := decide_eq_false (by omega)
          have u1' : decide (n < G) = false := decide_eq_false hlt
          clear hc0 hg3 hgo
          go_wp2_with fail
          refine AL2.out.mono ?_; rintro e w7 ⟨v7, rfl, ha7, hb7⟩
          have B7 : Hid (Below w1.heap.size w1 w7) := B6.out.trans (hb7.mono B6.out.size)
          have hgt : RdL w7 (.slice A2 n c2) (good.take n) := (RdL.take (xs := good) (by rw [← HG.out]; exact HGL.out) n (by rw [← HG.out]; exact HN.out)).kept B7.out
          have SL2 : Hid (Calls Try.prog 23 #[v7, .slice A2 n c2] w7 fun e w' => e = .returned (.bool true) ∧ Below w7.heap.size w7 w') :=
            (sameLists_any ha7 hgt).mono fun e w' ⟨he, n, hn⟩ => ⟨by rw [he, beq_self_eq_true], by subst hn; exact below_drewN (Below.refl _ _) n⟩
          obtain ⟨A8, c8, rfl, _⟩ := ha7.form
          rw [show (good.take n).length = n by rw [List.length_take, ← HG.out]; exact Nat.min_eq_left HN.out] at SL2 ⊢
          clear ha7 hb7 hgt
          go_wp2_with fail
          refine SL2.out.mono ?_; rintro e w8 ⟨rfl, hb8⟩
          have B8 : Hid (Below w1.heap.size w1 w8) := B7.out.trans (hb8.mono B7.out.size)
          clear hb8
          go_wp2_with fail
          refine (KN.out _).mono ?_; rintro e w9 ⟨rfl, bk⟩
          have B9 : Hid (Below w1.heap.size w1 w9) := B8.out.trans (bk.mono B8.out.size)
          clear bk
          go_wp2_with fail
          go_returns
          exact ⟨rfl, F1.out.trans (B9.out.mono F1.out.size)⟩
      · have AL2 : Hid (Calls Try.prog 21 #[.slice A1 K c1] w6 fun e w' => ∃ bv, e = .returned (.tuple #[bv, .int .i64 T, .int .i64 171]) ∧ RdL w' bv (good.take n) ∧ Below w6.heap.size w6 w') :=
          (all_any hR6 hlen).mono fun e w' h => by
            obtain ⟨bv, vs, he, ho, hbd, hb⟩ := h
            rw [RC.1, RC.2, if_neg hTK, ← HT.out] at he
            rw [RC.1] at hbd
            exact ⟨bv, he, RdL.of_bods ho hbd, hb⟩
        have tb : ((T : Int) == (K : Int)) = false := beq_eq_false_iff_ne.2 (by omega)
        clear RC hR6 hlen hTK hex
        by_cases hlt : n < G
        · have u1 : decide ((n : Int) < G) = true := decide_eq_true (by omega)
          have u1' : decide (n < G) = true := decide_eq_true hlt
          obtain ⟨g3, rfl⟩ := hg3 hlt
          have c0 := hc0 g3 rfl hlt
          have u2 : decide ((T' : Int) ≤ K) = false := decide_eq_false (by omega)
          have u2' : decide (T' ≤ K) = false := decide_eq_false (by omega)
          clear hc0 hg3 hgo
          go_wp2_with fail
          refine AL2.out.mono ?_; rintro e w7 ⟨v7, rfl, ha7, hb7⟩
          have B7 : Hid (Below w1.heap.size w1 w7) := B6.out.trans (hb7.mono B6.out.size)
          have hgt : RdL w7 (.slice A2 n c2) (good.take n) := (RdL.take (xs := good) (by rw [← HG.out]; exact HGL.out) n (by rw [← HG.out]; exact HN.out)).kept B7.out
          have SL2 : Hid (Calls Try.prog 23 #[v7, .slice A2 n c2] w7 fun e w' => e = .returned (.bool true) ∧ Below w7.heap.size w7 w') :=
            (sameLists_any ha7 hgt).mono fun e w' ⟨he, n, hn⟩ => ⟨by rw [he, beq_self_eq_true], by subst hn; exact below_drewN (Below.refl _ _) n⟩
          obtain ⟨A8, c8, rfl, _⟩ := ha7.form
          rw [show (good.take n).length = n by rw [List.length_take, ← HG.out]; exact Nat.min_eq_left HN.out] at SL2 ⊢
          clear ha7 hb7 hgt
          go_wp2_with fail
          refine SL2.out.mono ?_; rintro e w8 ⟨rfl, hb8⟩
          have B8 : Hid (Below w1.heap.size w1 w8) := B7.out.trans (hb8.mono B7.out.size)
          clear hb8
          go_wp2_with fail
          refine (KN.out _).mono ?_; rintro e w9 ⟨rfl, bk⟩
          have B9 : Hid (Below w1.heap.size w1 w9) := B8.out.trans (bk.mono B8.out.size)
          clear bk
          go_wp2_with fail
          go_returns
          exact ⟨rfl, F1.out.trans (B9.out.mono F1.out.size)⟩
        · have u1 : decide ((n : Int) < G) = false := decide_eq_false (by omega)
          have u1' : decide (n < G) = false := decide_eq_false hlt
          clear hc0 hg3 hgo
          go_wp2_with fail
          refine AL2.out.mono ?_; rintro e w7 ⟨v7, rfl, ha7, hb7⟩
          have B7 : Hid (Below w1.heap.size w1 w7) := B6.out.trans (hb7.mono B6.out.size)
          have hgt : RdL w7 (.slice A2 n c2) (good.take n) := (RdL.take (xs := good) (by rw [← HG.out]; exact HGL.out) n (by rw [← HG.out]; exact HN.out)).kept B7.out
          have SL2 : Hid (Calls Try.prog 23 #[v7, .slice A2 n c2] w7 fun e w' => e = .returned (.bool true) ∧ Below w7.heap.size w7 w') :=
            (sameLists_any ha7 hgt).mono fun e w' ⟨he, n, hn⟩ => ⟨by rw [he, beq_self_eq_true], by subst hn; exact below_drewN (Below.refl _ _) n⟩
          obtain ⟨A8, c8, rfl, _⟩ := ha7.form
          rw [show (good.take n).length = n by rw [List.length_take, ← HG.out]; exact Nat.min_eq_left HN.out] at SL2 ⊢
          clear ha7 hb7 hgt
          go_wp2_with fail
          refine SL2.out.mono ?_; rintro e w8 ⟨rfl, hb8⟩
          have B8 : Hid (Below w1.heap.size w1 w8) := B7.out.trans (hb8.mono B7.out.size)
          clear hb8
          go_wp2_with fail
          refine (KN.out _).mono ?_; rintro e w9 ⟨rfl, bk⟩
          have B9 : Hid (Below w1.heap.size w1 w9) := B8.out.trans (bk.mono B8.out.size)
          clear bk
          go_wp2_with fail
          go_returns
          exact ⟨rfl, F1.out.trans (B9.out.mono F1.out.size)⟩
theorem walk (vl : Value) (l : List (List UInt8)) (vm : Value) (more : List UInt8) (cut : Int) (w : World) (hl : RowOf w 1 (fun cs (xs : List UInt8) => ∃ v, cs = [v] ∧ Rd w (· < w.heap.size) v (bts xs)) vl l) (hm : Rd w (· < w.heap.size) vm (bts more)) (w2 : (Lit.int .i64 cut).wf = true) :
    Calls Try.prog 5 #[vl, vm, .int .i64 cut] w fun e w' => e = .returned (.bool true) ∧ Below w.heap.size w w' := by
  by_cases h : 9000 < more.length
  · obtain ⟨A, c, rfl, _⟩ := hl
    obtain ⟨B, cb, rfl, _⟩ := rd_len hm
    exact long A B _ c _ cb cut w h
  · exact short vl l vm more cut w hl hm (by omega)


set_option maxRecDepth 100000 in
theorem lifted (os : Os) (started : os.Started) (H : Type) (enc : TypeId × Value → H) :
    ReturnsInHanded {} Try.checked os 5 .any (Rows.crateBackSpec.pre6 enc Try.prog Try.f5 Rows.crateBackRow.domain false) (Rows.crateBackSpec.post enc Try.prog Try.f5 false true false false) := by
  refine returnsInHanded_of_change (C := Try.checked) own started (by kernel_rfl) Try.func5
    (ChangeSpec.witness6 (enc := enc) (C := Try.checked) false ⟨#[], #[.slice none 0 0, .slice none 0 0, .int .i64 0], []⟩ 8 (by kernel_rfl) (by kernel_rfl) (by kernel_rfl) (by kernel_rfl)) ?_
  intro W base args ds gs before hval0 hW _ _
  have hval : ∀ (j : Nat) t v, Try.f5.params[j]? = some t → args[j]? = some v → Value.okWide Try.prog W .any base t v := hval0
  have hW' := hW
  obtain ⟨p, q, hA0, hV, rfl, hfz, hnd⟩ := hW
  have hA : DataW.TrodAll enc Try.prog W 0 (fun _ => true) true Try.f5.params.toList args.toList ds p := hA0
  rw [Try.params5] at hA hval
  obtain ⟨v0, vs0, d0, ds0, p0, q0, hargs, rfl, rfl, h0, r0⟩ := trodAll_cons hA
  obtain ⟨v1, vs1, d1, ds1, p1, q1, rfl, rfl, rfl, h1, r1⟩ := trodAll_cons r0
  obtain ⟨v2, vs2, d2, ds2, p2, q2, rfl, rfl, rfl, h2, r2⟩ := trodAll_cons r1
  obtain ⟨rfl, rfl, rfl⟩ := trodAll_nil r2
  obtain rfl : args = #[v0, v1, v2] := by cases args; simp_all
  obtain ⟨l, w0⟩ := open_reader (reader_slice (size := 1) Try.underlying35 (by kernel_rfl) (by decide) (reader_bytes Try.underlying22 Try.underlying5 (by kernel_rfl))) h0 (okWide_slice Try.underlying35 (hval 0 35 v0 rfl rfl))
  obtain ⟨more, w1⟩ := open_reader (reader_bytes Try.underlying22 Try.underlying5 (by kernel_rfl)) h1 (okWide_slice Try.underlying22 (hval 1 22 v1 rfl rfl))
  obtain ⟨cut, rfl, rfl, rfl, w2⟩ := open_int Try.underlying3 (hval 2 3 v2 rfl rfl) h2
  clear hA0 hval0
  refine (walk v0 l v1 more cut W w0 w1 w2).mono fun e W' ⟨he, hb⟩ => ?_
  subst he
  exact ⟨_, rfl, law_post (by kernel_rfl) (by kernel_rfl) rfl Try.underlying4 rfl hW' rfl hb⟩

theorem over : Rows.crateBackRow.holds Try.pinned (OpenSpec.ofChange Rows.crateBackSpec) :=
  OpenClaim.holds_of_wide 5 Try.f5 rfl rfl rfl rfl rfl rfl rfl ⟨rfl, rfl, rfl, rfl, rfl⟩ rfl rfl rfl rfl rfl (by kernel_rfl) Try.func5 (by kernel_rfl)
    (of_decide_eq_true (by kernel_rfl)) (by unfold Func.isWrapper; first | (rw [if_pos (by decide +kernel)]; kernel_rfl) | (rw [if_neg (by decide +kernel)]; exact ⟨rfl, rfl⟩))
    (fun os started H enc _ => lifted os started H enc)

theorem proved : Rows.CrateBackSaid :=
  over
#print axioms proved
end Go.Proofs.Ytbgdhmacpgnfeaa.crateBack
