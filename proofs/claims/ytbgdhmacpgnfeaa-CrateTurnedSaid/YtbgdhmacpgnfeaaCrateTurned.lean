/-
  CrateTurned: a crate with a bit turned in its body or in its sum is bad, and those ahead of it are got: so the law returns true for every input.
-/
import Derived.Test.YtbgdhmacpgnfeaaCrateT
import Derived.Test.YtbgdhmacpgnfeaaRows
import Derived.Test.YtbgdhmacpgnfeaaArgs2
namespace Go.Proofs.Ytbgdhmacpgnfeaa.crateTurned
open Go.ChangeShapes Go.WideShapes Go.ChangeAt Go.RowKit
set_option linter.unusedVariables false

theorem own : ownKnob Try.prog.godebug = none := by kernel_rfl

open Go.Lib
set_option maxRecDepth 100000 in
set_option maxHeartbeats 1000000 in
theorem walk (vl : Value) (l : List (List UInt8)) (which at_ : Int) (w : World) (hl : RowOf w 1 (fun cs (xs : List UInt8) => ∃ v, cs = [v] ∧ Rd w (· < w.heap.size) v (bts xs)) vl l) (w1 : (Lit.int .i64 which).wf = true) (w2 : (Lit.int .i64 at_).wf = true) :
    Calls Try.prog 6 #[vl, .int .i64 which, .int .i64 at_] w fun e w' => e = .returned (.bool true) ∧ Below w.heap.size w w' := by
  obtain ⟨i0, hi, hz0, hz1, hz2⟩ := info_parts Try.infoB
  have RW := Lib.hid (row_any hl)
  obtain ⟨L, cl, rfl⟩ : ∃ A c, vl = .slice A l.length c := by obtain ⟨A, c, h, _⟩ := hl; exact ⟨A, c, h⟩
  clear hl w1 w2
  have KN := Lib.hid (fun w => known17_any w)
  go_enter Try.func6, Try.ntmps6
  go_wp2_with fail
  refine RW.out.mono ?_; rintro e w1 ⟨good, gs, bv, gv, ev, rfl, hen, S⟩
  have F1 : Hid (Below w.heap.size w w1) := S.fr
  have HS := Lib.hid S
  obtain ⟨E, hE⟩ : ∃ E, E = endL good := ⟨_, rfl⟩
  obtain ⟨G, hG⟩ : ∃ G, G = good.length := ⟨_, rfl⟩
  have hb := S.b
  have hg := S.g
  have he := S.e
  rw [← hE] at hb hen
  rw [← hG] at hg he
  have HEN := Lib.hid hen
  have HGL : Hid (RdL w1 gv good) := ⟨gs, S.gl, Rd.of_owns (by rw [S.gl]; exact S.g) fun _ _ => trivial, fun i u x hu hx => ((S.gr i u x hu hx).kept S.fr).mono fun _ _ _ => trivial⟩
  have HBo := Lib.hid hb
  have HGo := Lib.hid hg
  have HEo := Lib.hid he
  have HE := Lib.hid hE
  have HG := Lib.hid hG
  have HFL : Hid ((flatB good).length = E) := by unfold Hid; rw [flatB_len, hE]
  have hgE : Hid (7 * G ≤ E) := by unfold Hid; rw [hG, hE]; exact endL_len good
  obtain ⟨A1, c1, rfl⟩ := owned_slice hb
  obtain ⟨A2, c2, rfl⟩ := owned_slice hg
  obtain ⟨A3, c3, rfl⟩ := owned_slice he
  have HEACH : Hid (∀ x ∈ good, x.length ≤ 8000) := S.each
  have hc2 : G ≤ c2 := by obtain ⟨_, _, h1, h2, _⟩ := HGL.out.form; injection h1 with _ _ h3; rw [← HG.out] at h2; omega
  clear hE hG hb hg he S hen RW
  by_cases h0 : G = 0
  · subst h0
    go_wp2_with fail
    refine (KN.out _).mono ?_; rintro e w2 ⟨rfl, bk⟩
    have B2 : Hid (Below w1.heap.size w1 w2) := bk
    clear bk
    go_wp2_with fail
    go_returns
    exact ⟨rfl, F1.out.trans (B2.out.mono F1.out.size)⟩
  · have tz : ((G : Int) == 0) = false := beq_eq_false_iff_ne.2 (by omega)
    have tz' : (G == 0) = false := beq_eq_false_iff_ne.2 h0
    have hGb : G ≤ 2430 := by have := hgE.out; have := HEN.out; omega
    have hGE : Hid (G ≤ 1000000) := Nat.le_trans hGb (by decide)
    obtain ⟨U, k, MP⟩ := mod_pick which G (Nat.pos_of_ne_zero h0) hGE.out
    have hkG := MP.2.2.1
    have HMP := Lib.hid MP
    clear MP
    have hkG' : (k : Int) < (G : Int) := Int.ofNat_lt.2 hkG
    obtain ⟨g1, rfl⟩ : ∃ g, A1 = some ⟨g, 0, none⟩ := by
      obtain ⟨_, ⟨h, h0⟩ | ⟨g, cap, _, h, _⟩⟩ := HBo.out
      · have := hgE.out; omega
      · injection h with h; exact ⟨g, h⟩
    obtain ⟨g2, rfl⟩ : ∃ g, A2 = some ⟨g, 0, none⟩ := by
      obtain ⟨_, ⟨h, h0⟩ | ⟨g, cap, _, h, _⟩⟩ := HGo.out
      · omega
      · injection h with h; exact ⟨g, h⟩
    obtain ⟨g3, rfl⟩ : ∃ g, A3 = some ⟨g, 0, none⟩ := by
      obtain ⟨_, ⟨h, h0⟩ | ⟨g, cap, _, h, _⟩⟩ := HEo.out
      · omega
      · injection h with h; exact ⟨g, h⟩
    have hkl : k < good.length := by rw [← HG.out]; exact hkG
    obtain ⟨u, hu⟩ : ∃ u, gs[k]? = some u := ⟨_, List.getElem?_eq_getElem (by rw [HS.out.gl]; exact hkl)⟩
    have cg : w1.cell? ⟨g2, k, none⟩ = some u := by rw [HGo.out.cellAt k (by rw [Nat.mul_one]; exact hkG)]; exact hu
    have hx := HS.out.gr k u good[k] hu (List.getElem?_eq_getElem hkl)
    have hx8 := HEACH.out _ (List.getElem_mem hkl)
    obtain ⟨Ax, cx, rfl, _⟩ := rd_len hx
    obtain ⟨X, hX⟩ : ∃ X, X = good[k].length := ⟨_, rfl⟩
    rw [← hX] at cg hx8
    obtain ⟨T0, hT0⟩ : ∃ T0, T0 = endL (good.take k) := ⟨_, rfl⟩
    have ce : w1.cell? ⟨g3, k, none⟩ = some (.int .i64 ((T0 + (X + 7) : Nat) : Int)) := by
      rw [HEo.out.cellAt k (by rw [Nat.mul_one]; exact hkG), endsB_get good k hkl, List.take_succ_eq_append_getElem hkl, endL_snoc, ← hX, ← hT0]
    have hTE : T0 + (X + 7) ≤ E := by
      have := endL_le good (k + 1)
      rw [List.take_succ_eq_append_getElem hkl, endL_snoc, ← hX, ← hT0, ← HE.out] at this
      exact this
    have hT0E : T0 ≤ 17010 := Nat.le_trans (Nat.le_trans (Nat.le_add_right _ _) hTE) HEN.out
    obtain ⟨V, r, MR⟩ := mod_pick at_ (8 * (X + 4)) (Nat.mul_pos (by decide) (Nat.succ_pos _)) (by omega)
    have hrl := MR.2.2.1
    have HMR := Lib.hid MR
    clear MR
    obtain ⟨TA, hPE, hqj⟩ := turn_at T0 X E r hTE HEN.out hx8 hrl
    obtain ⟨P0, hP0⟩ : ∃ P0, P0 = 8 * (T0 + 3) + r := ⟨_, rfl⟩
    rw [← hP0] at TA hPE hqj
    obtain ⟨q, j, C, LB⟩ := lp_bit P0 E (Nat.le_trans HEN.out (by decide)) hPE
    obtain ⟨hq1, hq2⟩ := hqj q j LB.pq LB.j8
    have hqE : q < (flatB good).length := by rw [HFL.out]; exact LB.q1
    obtain ⟨hqk, hqk', hj8, hpq, v1, v1', v2, v2', v3, v3', v4, hC, hC256, v5, v6⟩ := LB
    have v7 : (2 : Int) ^ (min j 8) % 256 = (C : Int) := by rw [Nat.min_eq_left (Nat.le_of_lt hj8), v5]; exact Int.emod_eq_of_lt (Int.natCast_nonneg _) (Int.ofNat_lt.2 hC256)
    have cb : w1.cell? ⟨g1, q, none⟩ = some (.int .u8 (((flatB good)[q]).toNat : Int)) := by
      rw [HBo.out.cellAt q (by rw [Nat.mul_one]; exact hqk)]
      exact bts_get _ q hqE
    have fb : w1.frozen? ⟨g1, q, none⟩ = false := HBo.out.frozenAt q
    have RT := Lib.hid (rows_turned good k hkl HEACH.out (r / 8) (by rw [← hX]; exact hq2) (UInt8.ofNat C) j hj8 (by rw [UInt8.toNat_ofNat', Nat.mod_eq_of_lt hC256, hC]) q (by rw [← hT0]; exact hq1) hqE)
    have HST : Hid (bts ((flatB good).set q ((flatB good)[q] ^^^ UInt8.ofNat C)) = (bts (flatB good)).set q (.int .u8 (((flatB good)[q].toNat ^^^ C : Nat) : Int))) := by
      unfold Hid bts
      rw [List.map_set, UInt8.toNat_xor, UInt8.toNat_ofNat', Nat.mod_eq_of_lt hC256]
    have HSL : Hid (((flatB good).set q ((flatB good)[q] ^^^ UInt8.ofNat C)).length = E) := by unfold Hid; rw [List.length_set]; exact HFL.out
    have hxl := (flatB good)[q].toNat_lt
    generalize (flatB good).set q ((flatB good)[q] ^^^ UInt8.ofNat C) = zs2 at *
    generalize (flatB good)[q].toNat = Y at *
    have hxx : bits .xor .u8 (Y : Int) (C : Int) = ((Y ^^^ C : Nat) : Int) := u8_xor_nat Y C hxl hC256
    generalize Y ^^^ C = Z at *
    have HT0 := Lib.hid hT0
    have HKL := Lib.hid hkl
    have hXE : X ≤ 8000 := hx8
    have HTA := Lib.hid TA
    have HQB : Hid (q < E ∧ (q : Int) < (E : Int)) := ⟨hqk, hqk'⟩
    have HV : Hid ((P0 : Int).tdiv 8 = (q : Int) ∧ (P0 : Int) / 8 = (q : Int) ∧ (P0 : Int).tmod 8 = (j : Int) ∧ (P0 : Int) % 8 = (j : Int) ∧ P0 < 8 * E) := ⟨v1, v1', v2, v2', hPE⟩
    have HJ : Hid (j < 8 ∧ (2 : Int) ^ (min j 8) % 256 = (C : Int) ∧ (2 : Int) ^ j = (C : Int)) := ⟨hj8, v7, v5⟩
    have HXX := Lib.hid hxx
    have HCB := Lib.hid cb
    have HFB := Lib.hid fb
    have HCG := Lib.hid cg
    have HCE := Lib.hid ce
    have HRL := Lib.hid hrl
    have HX8 := Lib.hid hx8
    have HKG := Lib.hid hkG'
    generalize T0 + (X + 7) = T1 at *
    generalize T0 + 7 = D1 at *
    generalize T0 + 3 = F at *
    generalize 8 * (X + 4) = M8 at *
    generalize X + 4 = X4 at *
    clear hC hpq hqE hq1 hq2 hqj hPE hX hx hx8 hu hT0 hTE h0 TA hP0 v1 v1' v2 v2' v3 v3' v4 v5 v6 v7 hj8 hqk hqk' hxx cb fb cg ce hrl hkG' hC256 hxl hT0E hXE
    obtain ⟨hU, hk, _, m3, m4, tk, m2, z1, z2, z3⟩ := HMP.out
    clear HMP z1 z2 z3 m2 m3 m4
    go_upto_region 5 with fail
    clear hU hk tk tz tz'
    have cg := HCG.out
    have ce := HCE.out
    have hkG' := HKG.out
    have a1 := HTA.out.a1
    have a1' := HTA.out.a1'
    have a2 := HTA.out.a2
    have a2' := HTA.out.a2'
    have d1 := HTA.out.d1
    have f1 := HTA.out.f1
    go_quiet (fail)
    rw [d1, f1]
    clear a1 a1' a2 a2' d1 f1 ce
    have a3 := HTA.out.a3
    have a4 := HTA.out.a4
    have a6 := HTA.out.a6
    obtain ⟨hV, hr, hrl, r3, r4, rk, r2, y1, y2, y3⟩ := HMR.out
    have hx8 := HX8.out
    have hFb := HTA.out.hF
    have hMb := HTA.out.hM
    clear HMR r2 r3 r4 y1 y2 y3
    go_upto_region 7 with fail
    clear a3 a4 a6 hV hr hrl rk hx8 hFb hMb cg
    obtain ⟨v1, v1', v2, v2', _⟩ := HV.out
    obtain ⟨hj8, v7, v5⟩ := HJ.out
    obtain ⟨hqk, hqk'⟩ := HQB.out
    have hxx := HXX.out
    have cb := HCB.out
    have fb := HFB.out
    have hPb := HTA.out.hP
    go_upto_region 8 with fail
    clear v1 v1' v2 v2' hj8 v7 v5 hqk hqk' hxx cb fb hPb hGb
    obtain ⟨w2, hw2⟩ : ∃ w2, w2 = (w1.drewN nq).setCell ⟨g1, q, none⟩ (.int .u8 (Z : Int)) := ⟨_, rfl⟩
    rw [← hw2]
    have FR : Hid (Fr (fun b => b = g1) w1 w2) := by
      rw [hw2]
      exact Fr.setCell (N := fun b => b = g1) ((Fr.refl (fun b => b = g1) w1).drewN nq) (a := ⟨g1, q, none⟩) (.inl rfl) _
    have F2 : Hid (Below w.heap.size w w2) := F1.out.trans (FR.out.below F1.out.size fun b hb => by rw [hb]; exact owns_base HBo.out rfl)
    have HZ2 : Hid (w2.ownsRow w.heap.size 5 1 (.slice (some ⟨g1, 0, none⟩) E c1) E (bts zs2)) := by
      have h1 := owns_fr HBo.out ((Fr.refl (fun _ => False) w1).drewN nq) fun _ _ h => h
      have h2 := (h1.stored q (.int .u8 (Z : Int))).1
      unfold Hid
      rw [hw2, HST.out]; exact h2
    have HE2 : Hid (w2.ownsRow w.heap.size 3 1 (.slice (some ⟨g3, 0, none⟩) G c3) G (endsB good)) :=
      owns_fr HEo.out FR.out fun g hg hh => owns_ne HBo.out HEo.out (by decide) g1 rfl (by rw [hg, hh])
    have HG2 : Hid (w2.ownsRow w.heap.size 22 1 (.slice (some ⟨g2, 0, none⟩) G c2) G gs) :=
      owns_fr HGo.out FR.out fun g hg hh => owns_ne HBo.out HGo.out (by decide) g1 rfl (by rw [hg, hh])
    have HGL2 : Hid (RdL w2 (.slice (some ⟨g2, 0, none⟩) G c2) good) :=
      ⟨gs, HS.out.gl, Rd.of_owns (by rw [HS.out.gl, ← HG.out]; exact HG2.out) fun _ _ => trivial, fun i u x hu hx => ((HS.out.gr i u x hu hx).kept F2.out).mono fun _ _ _ => trivial⟩
    have AL : Hid (Calls Try.prog 21 #[.slice (some ⟨g1, 0, none⟩) E c1] w2 fun e w' => ∃ bv, e = .returned (.tuple #[bv, .int .i64 T0, .int .i64 171]) ∧ RdL w' bv (good.take k) ∧ Below w2.heap.size w2 w') := by
      have R2 := owned_rd HZ2.out
      refine (all_any R2 (by rw [HSL.out]; have := HEN.out; omega)).mono fun e w' h => ?_
      obtain ⟨bv, vs, he, ho, hbd, hb⟩ := h
      rw [RT.out.1, RT.out.2, ← HT0.out] at he
      rw [RT.out.1] at hbd
      exact ⟨bv, he, RdL.of_bods ho hbd, hb⟩
    have hkc : k ≤ c2 := Nat.le_trans (Nat.le_of_lt hkG) hc2
    by_cases hk0 : k = 0
    · have u1 : decide ((k : Int) > 0) = false := decide_eq_false (by omega)
      have u1' : decide (0 < k) = false := decide_eq_false (by omega)
      have tT : ((T0 : Int) == 0) = true := by rw [HT0.out, hk0]; rfl
      clear hw2 hk0
      go_wp2_with fail
      refine AL.out.mono ?_; rintro e w3 ⟨v3, rfl, ha3, hb3⟩
      have B3 : Hid (Below w.heap.size w w3) := F2.out.trans (hb3.mono F2.out.size)
      have hgt : RdL w3 (.slice (some ⟨g2, 0, none⟩) k c2) (good.take k) := (RdL.take (xs := good) (by rw [← HG.out]; exact HGL2.out) k (Nat.le_of_lt HKL.out)).kept hb3
      have SL : Hid (Calls Try.prog 23 #[v3, .slice (some ⟨g2, 0, none⟩) k c2] w3 fun e w' => e = .returned (.bool true) ∧ Below w3.heap.size w3 w') :=
        (sameLists_any ha3 hgt).mono fun e w' ⟨he, n, hn⟩ => ⟨by rw [he, beq_self_eq_true], by subst hn; exact below_drewN (Below.refl _ _) n⟩
      obtain ⟨A7, c7, rfl, _⟩ := ha3.form
      rw [show (good.take k).length = k by rw [List.length_take]; exact Nat.min_eq_left (Nat.le_of_lt HKL.out)] at SL ⊢
      clear ha3 hb3 hgt
      go_wp2_with fail
      refine SL.out.mono ?_; rintro e w4 ⟨rfl, hb4⟩
      have B4 : Hid (Below w.heap.size w w4) := B3.out.trans (hb4.mono B3.out.size)
      clear hb4
      go_wp2_with fail
      refine (KN.out _).mono ?_; rintro e w5 ⟨rfl, bk⟩
      have B5 : Hid (Below w.heap.size w w5) := B4.out.trans (bk.mono B4.out.size)
      clear bk
      go_wp2_with fail
      go_returns
      exact ⟨rfl, B5.out⟩
    · have hGb : G ≤ 2430 := by have := hgE.out; have := HEN.out; omega
      obtain ⟨K1, hK1⟩ : ∃ K1, K1 = k - 1 := ⟨_, rfl⟩
      have u1 : decide ((k : Int) > 0) = true := decide_eq_true (by omega)
      have u1' : decide (0 < k) = true := decide_eq_true (by omega)
      have k1 : IntKind.i64.wrap ((k : Int) - 1) = (K1 : Int) := by rw [show (k : Int) - 1 = (K1 : Int) by omega]; exact i64_nat K1 (by omega)
      have k1' : (k : Int) - 1 = (K1 : Int) := by omega
      have kG : K1 < G := by omega
      have kG' : (K1 : Int) < (G : Int) := by omega
      have c9 : w2.cell? ⟨g3, K1, none⟩ = some (.int .i64 (T0 : Int)) := by
        rw [HE2.out.cellAt K1 (by rw [Nat.mul_one]; exact kG), endsB_get good K1 (by rw [← HG.out]; exact kG), HT0.out, show K1 + 1 = k by omega]
      clear hw2 hK1
      go_wp2_with fail
      refine AL.out.mono ?_; rintro e w3 ⟨v3, rfl, ha3, hb3⟩
      have B3 : Hid (Below w.heap.size w w3) := F2.out.trans (hb3.mono F2.out.size)
      have hgt : RdL w3 (.slice (some ⟨g2, 0, none⟩) k c2) (good.take k) := (RdL.take (xs := good) (by rw [← HG.out]; exact HGL2.out) k (Nat.le_of_lt HKL.out)).kept hb3
      have SL : Hid (Calls Try.prog 23 #[v3, .slice (some ⟨g2, 0, none⟩) k c2] w3 fun e w' => e = .returned (.bool true) ∧ Below w3.heap.size w3 w') :=
        (sameLists_any ha3 hgt).mono fun e w' ⟨he, n, hn⟩ => ⟨by rw [he, beq_self_eq_true], by subst hn; exact below_drewN (Below.refl _ _) n⟩
      obtain ⟨A7, c7, rfl, _⟩ := ha3.form
      rw [show (good.take k).length = k by rw [List.length_take]; exact Nat.min_eq_left (Nat.le_of_lt HKL.out)] at SL ⊢
      clear ha3 hb3 hgt
      go_wp2_with fail
      refine SL.out.mono ?_; rintro e w4 ⟨rfl, hb4⟩
      have B4 : Hid (Below w.heap.size w w4) := B3.out.trans (hb4.mono B3.out.size)
      clear hb4
      go_wp2_with fail
      refine (KN.out _).mono ?_; rintro e w5 ⟨rfl, bk⟩
      have B5 : Hid (Below w.heap.size w w5) := B4.out.trans (bk.mono B4.out.size)
      clear bk
      go_wp2_with fail
      go_returns
      exact ⟨rfl, B5.out⟩


set_option maxRecDepth 100000 in
theorem lifted (os : Os) (started : os.Started) (H : Type) (enc : TypeId × Value → H) :
    ReturnsInHanded {} Try.checked os 6 .any (Rows.crateTurnedSpec.pre6 enc Try.prog Try.f6 Rows.crateTurnedRow.domain false) (Rows.crateTurnedSpec.post enc Try.prog Try.f6 false true false false) := by
  refine returnsInHanded_of_change (C := Try.checked) own started (by kernel_rfl) Try.func6
    (ChangeSpec.witness6 (enc := enc) (C := Try.checked) false ⟨#[], #[.slice none 0 0, .int .i64 0, .int .i64 0], []⟩ 8 (by kernel_rfl) (by kernel_rfl) (by kernel_rfl) (by kernel_rfl)) ?_
  intro W base args ds gs before hval0 hW _ _
  have hval : ∀ (j : Nat) t v, Try.f6.params[j]? = some t → args[j]? = some v → Value.okWide Try.prog W .any base t v := hval0
  have hW' := hW
  obtain ⟨p, q, hA0, hV, rfl, hfz, hnd⟩ := hW
  have hA : DataW.TrodAll enc Try.prog W 0 (fun _ => true) true Try.f6.params.toList args.toList ds p := hA0
  rw [Try.params6] at hA hval
  obtain ⟨v0, vs0, d0, ds0, p0, q0, hargs, rfl, rfl, h0, r0⟩ := trodAll_cons hA
  obtain ⟨v1, vs1, d1, ds1, p1, q1, rfl, rfl, rfl, h1, r1⟩ := trodAll_cons r0
  obtain ⟨v2, vs2, d2, ds2, p2, q2, rfl, rfl, rfl, h2, r2⟩ := trodAll_cons r1
  obtain ⟨rfl, rfl, rfl⟩ := trodAll_nil r2
  obtain rfl : args = #[v0, v1, v2] := by cases args; simp_all
  obtain ⟨l, w0⟩ := open_reader (reader_slice (size := 1) Try.underlying35 (by kernel_rfl) (by decide) (reader_bytes Try.underlying22 Try.underlying5 (by kernel_rfl))) h0 (okWide_slice Try.underlying35 (hval 0 35 v0 rfl rfl))
  obtain ⟨which, rfl, rfl, rfl, w1⟩ := open_int Try.underlying3 (hval 1 3 v1 rfl rfl) h1
  obtain ⟨at_, rfl, rfl, rfl, w2⟩ := open_int Try.underlying3 (hval 2 3 v2 rfl rfl) h2
  clear hA0 hval0
  refine (walk v0 l which at_ W w0 w1 w2).mono fun e W' ⟨he, hb⟩ => ?_
  subst he
  exact ⟨_, rfl, law_post (by kernel_rfl) (by kernel_rfl) rfl Try.underlying4 rfl hW' rfl hb⟩

theorem over : Rows.crateTurnedRow.holds Try.pinned (OpenSpec.ofChange Rows.crateTurnedSpec) :=
  OpenClaim.holds_of_wide 6 Try.f6 rfl rfl rfl rfl rfl rfl rfl ⟨rfl, rfl, rfl, rfl, rfl⟩ rfl rfl rfl rfl rfl (by kernel_rfl) Try.func6 (by kernel_rfl)
    (of_decide_eq_true (by kernel_rfl)) (by unfold Func.isWrapper; first | (rw [if_pos (by decide +kernel)]; kernel_rfl) | (rw [if_neg (by decide +kernel)]; exact ⟨rfl, rfl⟩))
    (fun os started H enc _ => lifted os started H enc)

theorem proved : Rows.CrateTurnedSaid :=
  over
#print axioms proved
end Go.Proofs.Ytbgdhmacpgnfeaa.crateTurned
