/-
  WaitsArrays: started one by one, as long as one is ready, an array's jobs run as many at a time as its limit says, or all there are: so the law returns true for every input.
-/
import Derived.Test.YtfabjlhepadkpaaWtNO
import Derived.Test.YtfabjlhepadkpaaWtP
import Derived.Test.YtfabjlhepadkpaaLaw
import Derived.Test.YtfabjlhepadkpaaWtU
import Derived.Test.YtfabjlhepadkpaaRows
import Derived.Test.YtfabjlhepadkpaaArgs2
namespace Go.Proofs.Ytfabjlhepadkpaa.waitsArrays
open Go.ChangeShapes Go.WideShapes Go.ChangeAt Go.RowKit
set_option linter.unusedVariables false

theorem own : ownKnob Try.prog.godebug = none := by kernel_rfl

open Go Go.ChangeShapes Go.WideShapes Go.ChangeAt Go.RowKit Go.Lib
set_option maxRecDepth 100000 in
set_option maxHeartbeats 8000000 in
theorem walk (n most : Int) (ov : Value) (how : List Int) (w : World) (hn : (Lit.int .i64 n).wf = true) (hm : (Lit.int .i64 most).wf = true) (ho : IntsArg w .u8 ov how) :
    Calls Try.prog 6 #[.int .i64 n, .int .i64 most, ov] w fun e w' => e = .returned (.bool true) ∧ Below w.heap.size w w' := by
  have K : Hid (∀ w1, Calls Try.prog 11 #[] w1 fun e w' => e = .returned (.bool true) ∧ Below w1.heap.size w1 w') := known14_any
  have hos : ∃ oa oc, ov = .slice oa how.length oc := by
    rcases ho with ⟨rfl, a, c, rfl⟩ | ⟨b, off, c, rfl, _⟩
    · exact ⟨a, c, rfl⟩
    · exact ⟨_, c, rfl⟩
  obtain ⟨oa, oc, rfl⟩ := hos
  have HO : Hid (∀ i (h : i < how.length), ∃ (b off z : Nat), oa = some ⟨b, off, none⟩ ∧ z < 256 ∧ ∀ w', Below w.heap.size w w' → w'.cell? ⟨b, off + i, none⟩ = some (.int .u8 (z : Int))) := fun i h => by
    rcases ho with ⟨e, _⟩ | ⟨b, off, c, e, h0, _, hb, hc, hwf⟩
    · rw [e] at h; simp at h
    · injection e with e1 _ e3
      have hz := hwf (how[i]) (List.getElem_mem h)
      have hz2 : 0 ≤ how[i] ∧ how[i] ≤ 255 := by simpa [Lit.wf, IntKind.min, IntKind.max, IntKind.bits, IntKind.signed] using hz
      obtain ⟨z, hze⟩ := Int.eq_ofNat_of_zero_le hz2.1
      refine ⟨b, off, z, e1, by omega, fun w' hb' => ?_⟩
      have h2 := hc i h
      rw [List.getD_eq_getElem?_getD, List.getElem?_eq_getElem h] at h2
      simp only [Option.getD_some] at h2
      rw [hze] at h2
      exact cell_next hb' h2
  obtain ⟨LO, hLO⟩ : ∃ n, n = how.length := ⟨_, rfl⟩
  rw [← hLO] at HO ⊢
  obtain ⟨k, hk1, hk8, ek⟩ := mod_k n
  obtain ⟨m, hm6, em⟩ := mod_m most
  clear ho hLO hn hm
  have HM : Hid (m < 6) := hm6
  go_enter Try.func6, Try.ntmps6
  go_upto_region 4 with fail
  rw [ek, em]
  clear ek em
  go_wp2_with fail
  go_loopw [9, 10, 11] (fun sv iv _ wr => ∃ (i : Nat) (L : List Jb), i ≤ k ∧ iv = .int .i64 (i : Nat) ∧ Hid (Ar w m L ∧ L.length = i ∧ nR L = 0) ∧ Hid (JOwn wr w.heap.size sv i L) ∧ Hid (Below w.heap.size w wr)) (fun _ iv _ _ => k - (RowKit.intOf iv).toNat)
  case atStart => exact ⟨0, [], Nat.zero_le _, rfl, ⟨⟨fun i hi => absurd hi (by simp), fun j hj => by simp at hj⟩, rfl, rfl⟩, World.ownsRow_nil _ _ _ _, Below.refl _ _⟩
  case round =>
    obtain ⟨i, L, hi, rfl, HA, HOW, HB⟩ := hrel
    by_cases hlt : i < k
    · have d1 : decide ((i : Int) < (k : Int)) = true := decide_eq_true (by omega)
      have d1' : decide (i < k) = true := decide_eq_true hlt
      have hii : (i : Int) < (k : Int) := by omega
      have C1 := Lib.hid (job_any (i + 1) 1 0 0 wr (by omega) (by decide))
      go_wp2_with fail
      rw [show ((i : Int) + 1) = ((i + 1 : Nat) : Int) by omega]
      refine C1.out.mono ?_; rintro e w1 ⟨⟨dv, nd, rfl, hnd⟩, b1⟩
      obtain rfl : nd = [] := hnd.2.1 (by decide)
      have HND : Hid (NRw w1 dv []) := hnd.1
      have HB1 := Lib.hid b1
      obtain ⟨J0, hJ0⟩ : ∃ J, J = mkJ (i + 1) 1 dv [] := ⟨_, rfl⟩
      have hone : JbS J0 := by obtain ⟨a', c', e'⟩ := hnd.1.row.slice; rw [hJ0]; exact ⟨rfl, by show dv.oneCell' = true; rw [e']; rfl⟩
      rw [← hJ0]
      obtain ⟨gj, hgj⟩ : ∃ g, g = w1.heap.size := ⟨_, rfl⟩
      obtain ⟨X, hX⟩ : ∃ X, X = w1.alloc (.cells (jbC J0) 41) := ⟨_, rfl⟩
      have hbX : Below wr.heap.size wr X := by rw [hX]; exact b1.alloc b1.size _
      have hB0 : Blk X gj (jbC J0) 41 := by rw [hX, hgj]; exact Blk.new _ _ _
      have hgjr : wr.heap.size ≤ gj := by rw [hgj]; exact b1.size
      have HJ0 := Lib.hid hJ0
      clear b1 hnd C1 hJ0
      go_upto_region 8 with (first | (refine st_jb rfl _ _ rfl _ _ rfl rfl J0 rfl rfl hone ?_))
      rw [← hX, ← hgj]
      have HB9 := Lib.hid hbX
      have c1 := hB0.cell 1
      have f1 : X.frozen? ⟨gj, 1, none⟩ = false := hB0.free _
      rw [show (jbC J0)[1]? = some (.int .u32 (J0.arr : Nat)) from rfl] at c1
      obtain ⟨X1, hX1⟩ : ∃ W, W = X.setCell ⟨gj, 1, none⟩ (.int .u32 1) := ⟨_, rfl⟩
      have hB1 : Blk X1 gj (jbC { J0 with arr := 1 }) 41 := by rw [hX1]; exact hB0.set 1 _
      have hb1 : Below wr.heap.size wr X1 := by rw [hX1]; exact below_set hbX hgjr _ _
      clear hX hgj hbX HB9
      go_upto_region 9 with fail
      rw [← hX1]
      have c2 : X1.cell? ⟨gj, 2, none⟩ = some (.int .i64 J0.idx) := hB1.cell 2
      have f2 : X1.frozen? ⟨gj, 2, none⟩ = false := hB1.free _
      obtain ⟨X2, hX2⟩ : ∃ W, W = X1.setCell ⟨gj, 2, none⟩ (.int .i64 (i : Nat)) := ⟨_, rfl⟩
      have hB2 : Blk X2 gj (jbC { J0 with arr := 1, idx := (i : Nat) }) 41 := by rw [hX2]; exact hB1.set 2 _
      have hb2 : Below wr.heap.size wr X2 := by rw [hX2]; exact below_set hb1 hgjr _ _
      clear hX1 c1 f1 hB0 hb1
      go_upto_region 10 with fail
      rw [← hX2]
      have c10 : X2.cell? ⟨gj, 3 + 6 + 1, none⟩ = some (.int .i64 J0.most) := hB2.cell 10
      have f10 : X2.frozen? ⟨gj, 3 + 6 + 1, none⟩ = false := hB2.free _
      have c10' : X2.cell? ⟨gj, 10, none⟩ = some (.int .i64 J0.most) := hB2.cell 10
      have f10' : X2.frozen? ⟨gj, 10, none⟩ = false := hB2.free _
      obtain ⟨X3, hX3⟩ : ∃ W, W = X2.setCell ⟨gj, 10, none⟩ (.int .i64 (m : Nat)) := ⟨_, rfl⟩
      have hB3 : Blk X3 gj (jbC (arJ i m 1 dv)) 41 := by
        have := hB2.set 10 (.int .i64 (m : Nat))
        rw [← hX3, put_c10] at this
        rw [HJ0.out] at this
        exact this
      have hb3 : Below wr.heap.size wr X3 := by rw [hX3]; exact below_set hb2 hgjr _ _
      clear hX2 c2 f2 hB1 hb2
      go_upto_region 11 with fail
      rw [← hX3]
      have HB3 := Lib.hid hb3
      clear hX3 c10 f10 c10' f10' hB2 hb3
      have c19 : X3.cell? ⟨gj, 19, none⟩ = some (.int .i64 1) := hB3.cell 19
      have f19 : X3.frozen? ⟨gj, 19, none⟩ = false := hB3.free _
      have HB5 := Lib.hid (hB3.set 19 (.int .i64 5))
      have HBL := Lib.hid hB3
      clear hB3
      go_cut [54] (fun cv wx => ∃ β : Bool, cv = .bool β ∧ Hid (wx = X3))
      case first =>
        by_cases hlo : i < LO
        · have d2 : decide ((i : Int) < (LO : Int)) = true := decide_eq_true (by omega)
          have d2' : decide (i < LO) = true := decide_eq_true hlo
          have hlI : (i : Int) < (LO : Int) := by omega
          obtain ⟨bo, oo, zz, e, hzz, hcz⟩ := HO.out i hlo
          subst e
          have y0 := hcz X3 (below_next HB3.out HB.out)
          clear hcz
          go_wp2_with fail
          go_meet
          exact ⟨_, rfl, rfl⟩
        · have d2 : decide ((i : Int) < (LO : Int)) = false := decide_eq_false (by omega)
          have d2' : decide (i < LO) = false := decide_eq_false hlo
          go_wp2_with fail
          go_meet
          exact ⟨_, rfl, rfl⟩
      case rest =>
      obtain ⟨β, rfl, hwx⟩ := hcut
      obtain rfl := hwx.out
      clear hwx
      go_upto_if 54 with fail
      go_cut [] (fun wx => ∃ hw : Int, (hw = 1 ∨ hw = 5) ∧ Hid (Blk wx gj (jbC (arJ i m hw dv)) 41) ∧ Hid (Below wr.heap.size wr wx))
      case first =>
        cases β with
        | true =>
          have HB6 := Lib.hid (below_set HB3.out hgjr 19 (.int .i64 5))
          go_wp2_with fail
          go_meet
          exact ⟨5, .inr rfl, HB5.out, HB6.out⟩
        | false =>
          go_wp2_with fail
          go_meet
          exact ⟨1, .inl rfl, HBL.out, HB3.out⟩
      case rest =>
        obtain ⟨hw, hhw, HBK, HBC⟩ := hcut
        obtain ⟨J, hJ⟩ : ∃ J, J = arJ i m hw dv := ⟨_, rfl⟩
        rw [← hJ] at HBK
        have hoJ : JbS J := by rw [hJ]; exact ⟨rfl, by obtain ⟨a', c', e'⟩ := HND.out.row.slice; show dv.oneCell' = true; rw [e']; rfl⟩
        have HJ := Lib.hid hJ
        have HOL := Lib.hid (own_older HOW.out HBC.out)
        have HBw := Lib.hid (below_next HBC.out HB.out)
        have HRG : Hid (wc.rangeAt gj 0 (jbV J)) := range_blk HBK.out
        have HAL := HA.out.2.1
        obtain ⟨sa, sc, rfl⟩ := own_slice HOW.out
        clear c19 f19 HB5 HBL hJ hone
        go_wp2_with (first | (refine ld_jb rfl _ rfl _ _ rfl J HRG.out ?_) | (refine bs_jobs rfl 1 _ rfl ((jbV J).toArray) (by decide) (by decide) (by as_aux_lemma => kernel_rfl) ?_) | (at_builtin; refine app_jobs rfl _ _ rfl w.heap.size (.slice sa i sc) i L rfl (HOL.out.alloc _) HAL.symm _ [J] rfl (src_jb (Blk.new _ _ _)) (by intro j hj; rw [List.mem_singleton] at hj; rw [hj]; exact hoJ) (by simp; omega) (by have := HBw.out.size; simp; omega) ?_; intro v8 w8 hown8 hgrow8 hat8; have HO8 := Lib.hid hown8; have HB8 : Hid (Below w.heap.size w w8) := (HBw.out.alloc HBw.out.size _).grown hgrow8 (by have := HBw.out.size; simp; omega) (fun b hb => (own_ge HOL.out hb).1); clear hown8 hgrow8 hat8))
        have HAN : Hid (Ar w m (L ++ [J]) ∧ (L ++ [J]).length = i + 1 ∧ nR (L ++ [J]) = 0) := by
          have h1 := Ar.snoc HA.out.1 HND.out (how := hw) (by omega) (by have := HM.out; simp [Lit.wf, IntKind.min, IntKind.max, IntKind.bits, IntKind.signed]; omega) hhw
          rw [HA.out.2.1, ← HJ.out] at h1
          refine ⟨h1, by rw [List.length_append, HA.out.2.1]; rfl, ?_⟩
          rw [HJ.out, nR_snoc _ _ _ _ _ hhw]
          exact HA.out.2.2
        go_roundw
        case rel => exact ⟨i + 1, L ++ [J], hlt, by go_num, HAN.out, HO8.out, HB8.out⟩
        case measure => simp [RowKit.intOf]; omega
    · have d1 : decide ((i : Int) < (k : Int)) = false := decide_eq_false (by omega)
      have d1' : decide (i < k) = false := decide_eq_false hlt
      obtain rfl : i = k := by omega
      obtain ⟨sa, sc, rfl⟩ := own_slice HOW.out
      obtain ⟨W, hW⟩ : ∃ x, x = wr := ⟨_, rfl⟩
      subst hW
      have HRW : Hid (RowG 26 jbV W (.slice sa i sc) L) := by
        have h := HOW.out
        have e := HA.out.2.1
        revert h
        rw [← e]
        exact fun h => rowG_of_own jbV_len h
      go_wp2_with fail
      go_loopw [12, 13] (fun lv qv wi => ∃ q : Nat, q ≤ i ∧ lv = .int .i64 (nL (L.take q) : Nat) ∧ qv = .int .i64 (q : Nat) ∧ wi = W) (fun _ qv _ => i - (RowKit.intOf qv).toNat)
      case atStart => exact ⟨0, Nat.zero_le _, rfl, rfl, rfl⟩
      case round =>
        obtain ⟨q, hq, rfl, rfl, hwe⟩ := hrel
        subst hwe
        by_cases hlq : q < i
        · have d2 : decide ((q : Int) < (i : Int)) = true := decide_eq_true (by omega)
          have d2' : decide (q < i) = true := decide_eq_true hlq
          have hqI : (q : Int) < (i : Int) := by omega
          have hqL : q < L.length := by rw [HA.out.2.1]; exact hlq
          obtain ⟨bx, ox, e, hrg⟩ := RowG.at HRW.out hqL
          subst e
          have x19 : wr.cell? ⟨bx, ox + q * 26 + 19, none⟩ = some (.int .i64 L[q].how) := hrg wr (Below.refl _ _) 19 _ rfl
          have HTK := Lib.hid (nL_take L hqL)
          have hb9 : nL (L.take q) ≤ 8 := by have := nL_le (L.take q); rw [List.length_take] at this; omega
          obtain ⟨lf, hlf⟩ : ∃ x, x = nL (L.take q) := ⟨_, rfl⟩
          rw [← hlf] at HTK hb9 ⊢
          obtain ⟨hh, hhe⟩ : ∃ x, x = L[q].how := ⟨_, rfl⟩
          rw [← hhe] at x19 HTK
          clear hrg hlf hhe
          by_cases h1 : hh = 1
          · subst h1
            have HT2 : Hid (nL (L.take (q + 1)) = lf + 1) := by unfold Hid; rw [HTK.out, if_pos rfl]
            clear HTK
            go_wp2_with fail
            go_roundw
            case rel => exact ⟨q + 1, hlq, by rw [HT2.out]; go_num, by go_num, trivial⟩
            case measure => simp [RowKit.intOf]; omega
          · have q1 : (hh == 1) = false := by simp [h1]
            have HT2 : Hid (nL (L.take (q + 1)) = lf) := by unfold Hid; rw [HTK.out, if_neg h1]; rfl
            clear HTK h1
            go_wp2_with fail
            go_roundw
            case rel => exact ⟨q + 1, hlq, by rw [HT2.out], by go_num, trivial⟩
            case measure => simp [RowKit.intOf]; omega
        · have d2 : decide ((q : Int) < (i : Int)) = false := decide_eq_false (by omega)
          have d2' : decide (q < i) = false := decide_eq_false hlq
          obtain rfl : q = i := by omega
          have HLF : Hid (L.take q = L) := by unfold Hid; exact List.take_of_length_le (Nat.le_of_eq HA.out.2.1)
          rw [HLF.out]
          obtain ⟨lf, hlf⟩ : ∃ x, x = nL L := ⟨_, rfl⟩
          have hlf8 : lf ≤ 8 := by rw [hlf]; have := nL_le L; rw [HA.out.2.1] at this; omega
          rw [← hlf]
          have HLL := Lib.hid hlf
          clear hlf HLF HRW
          go_wp2_with fail
          go_loopw [14, 15, 16] (fun rv iv _ wi => ∃ (p : Nat) (M : List Jb), p ≤ q ∧ rv = .int .i64 (p : Nat) ∧ iv = .int .i64 (p : Nat) ∧ Hid (Ar w m M ∧ M.length = q ∧ nR M = p ∧ nL M + p = lf ∧ (0 < m → p ≤ m)) ∧ Hid (JOwn wi w.heap.size (.slice sa q sc) q M) ∧ Hid (Below w.heap.size w wi)) (fun _ iv _ _ => q - (RowKit.intOf iv).toNat)
          case atStart => exact ⟨0, L, Nat.zero_le _, rfl, rfl, ⟨HA.out.1, HA.out.2.1, HA.out.2.2, by rw [HLL.out]; rfl, fun _ => Nat.zero_le _⟩, HOW.out, HB.out⟩
          case round =>
            obtain ⟨p, M, hp, rfl, rfl, HP, HOP, HBP⟩ := hrel
            by_cases hlp : p < q
            · have d3 : decide ((p : Int) < (q : Int)) = true := decide_eq_true (by omega)
              have d3' : decide (p < q) = true := decide_eq_true hlp
              have hpI : (p : Int) < (q : Int) := by omega
              have hJP : JRw wr (.slice sa q sc) M := jrw_of_own HOP.out HP.out.2.1.symm HP.out.1.orig HBP.out (by rw [HP.out.2.1]; omega)
              have RD := Lib.hid (ready_any _ M 0 wr hJP)
              clear hJP
              go_wp2_with fail
              refine RD.out.mono ?_; rintro e w3 ⟨⟨va, rfl, ho3⟩, b3⟩
              obtain ⟨ra, rc, rfl⟩ := own_slice ho3
              have HOQ := Lib.hid (own_older HOP.out b3)
              have HBQ := Lib.hid (below_next b3 HBP.out)
              have HU := Lib.hid (urow_of_own ho3)
              have HNE : Hid (listJ M 0 2 = [] → nL M = 0 ∨ ¬ ((m : Int) = 0 ∨ (nR M : Int) < (m : Int))) := HP.out.1.none
              have HME : Hid (∀ id ∈ listJ M 0 2, ∃ t, ∃ h : t < M.length, id = t + 1 ∧ M[t].how = 1 ∧ ((m : Int) = 0 ∨ (nR M : Int) < (m : Int))) := fun id hid => by
                obtain ⟨t, ht, rfl, hs⟩ := (mem_listJ HP.out.1.ok).1 hid
                obtain ⟨e1, e2⟩ := (HP.out.1.say ht).1 hs
                exact ⟨t, ht, rfl, e1, e2⟩
              have hl8 : (listJ M 0 2).length ≤ 8 := by have := listJ_len M 0 2; rw [HP.out.2.1] at this; omega
              obtain ⟨R, hR⟩ : ∃ R, R = listJ M 0 2 := ⟨_, rfl⟩
              rw [← hR] at HU HNE HME hl8 ⊢
              clear b3 ho3 hR RD HOP
              cases R with
              | nil =>
                have hfin := HNE.out rfl
                have HEQ : Hid ((m = 0 ∧ p = lf) ∨ (0 < m ∧ ((lf ≤ m ∧ p = lf) ∨ (m < lf ∧ p = m)))) := by
                  obtain ⟨_, _, e1, e2, e3⟩ := HP.out
                  rw [e1] at hfin
                  unfold Hid
                  rcases Nat.eq_zero_or_pos m with h0 | h0
                  · left; refine ⟨h0, ?_⟩
                    rcases hfin with h | h
                    · omega
                    · exact absurd (.inl (by omega)) h
                  · right; refine ⟨h0, ?_⟩
                    have := e3 h0
                    rcases hfin with h | h
                    · left; omega
                    · have : ¬ ((p : Int) < (m : Int)) := fun h2 => h (.inr h2)
                      rcases Nat.lt_or_ge m lf with h3 | h3
                      · right; omega
                      · left; omega
                clear hfin HNE HME HU
                have heq := HEQ.out
                rcases heq with ⟨h0, h1⟩ | ⟨h0, h1⟩
                · subst h1
                  have q8 : decide ((m : Int) > 0) = false := decide_eq_false (by omega)
                  have q8' : decide (0 < m) = false := decide_eq_false (by omega)
                  have q8n : decide (0 < (m : Int)) = false := decide_eq_false (by omega)
                  go_wp2_with fail
                  refine (K.out _).mono ?_; rintro e w4 ⟨rfl, b4⟩
                  have HB4 := below_next b4 HBQ.out
                  clear b4
                  go_wp2_with fail
                  go_ret
                  exact ⟨rfl, HB4⟩
                · have q8 : decide ((m : Int) > 0) = true := decide_eq_true (by omega)
                  have q8' : decide (0 < m) = true := decide_eq_true (by omega)
                  have q8n : decide (0 < (m : Int)) = true := decide_eq_true (by omega)
                  have hmin : min (lf : Int) (m : Int) = (p : Int) := by omega
                  clear h1
                  go_wp2_with fail
                  refine (K.out _).mono ?_; rintro e w4 ⟨rfl, b4⟩
                  have HB4 := below_next b4 HBQ.out
                  clear b4
                  go_wp2_with fail
                  go_ret
                  exact ⟨rfl, HB4⟩
              | cons id R2 =>
                obtain ⟨t, htM, hid, hhow, hmm⟩ := HME.out id (List.mem_cons_self ..)
                obtain ⟨uc, oc2, e, hxc⟩ := RowG.at HU.out (show 0 < (id :: R2).length by simp)
                subst e
                have xc0 : w3.cell? ⟨uc, oc2, none⟩ = some (.int .u32 (id : Nat)) := by have := hxc w3 (Below.refl _ _) 0 _ rfl; simpa using this
                obtain ⟨PL, hPL⟩ : ∃ x, x = (id :: R2).length := ⟨_, rfl⟩
                have hPL1 : 1 ≤ PL := by rw [hPL]; simp
                have hPL2 : PL ≤ 8 := by rw [hPL]; exact hl8
                rw [← hPL]
                have htq : t < q := by rw [← HP.out.2.1]; exact htM
                obtain ⟨gX, e, hgX1, _⟩ := own_some HOQ.out (by omega)
                subst e
                obtain ⟨⟨u0, z0⟩, f0, ho8, hc8⟩ := own_how HOQ.out HP.out.2.1.symm htq 3
                obtain ⟨hA8, hR8, hL8⟩ := HP.out.1.start htM hhow
                have HB8 := Lib.hid (below_set HBQ.out hgX1 (t * 26 + 19) (.int .i64 3))
                have HO8 := Lib.hid ho8
                have HP8 : Hid (Ar w m (setH M t 3) ∧ (setH M t 3).length = q ∧ nR (setH M t 3) = p + 1 ∧ nL (setH M t 3) + (p + 1) = lf ∧ (0 < m → p + 1 ≤ m)) := by
                  obtain ⟨_, e0, e1, e2, e3⟩ := HP.out
                  rw [e1] at hmm
                  exact ⟨hA8, by rw [setH_len]; exact e0, by rw [hR8, e1], by omega, fun h => by omega⟩
                have hidb : (id : Int) < 1000 := by omega
                have q1 : ((id : Int) == 0) = false := by simp; omega
                have q1' : (id == 0) = false := by simp; omega
                have q2 : decide ((id : Int) > (q : Int)) = false := decide_eq_false (by omega)
                have q2' : decide (q < id) = false := decide_eq_false (by omega)
                have hk1' : IntKind.u32.wrap ((id : Int) - 1) = (t : Int) := by
                  have : (id : Int) - 1 = (t : Int) := by omega
                  rw [this]; exact Int.emod_eq_of_lt (by omega) (by show _ < (4294967296 : Int); omega)
                have hkI : (t : Int) < (q : Int) := by omega
                have hkd : decide ((t : Int) < (q : Int)) = true := decide_eq_true hkI
                have q4 : ((PL : Int) == 0) = false := by simp; omega
                have q4' : (PL == 0) = false := by simp; omega
                have hPI : (0 : Int) < (PL : Int) := by omega
                clear hid hhow hmm hxc hPL htM htq ho8 hc8 hA8 hR8 hL8 HNE HME HU hl8
                go_wp2_with fail
                go_roundw
                case rel => exact ⟨p + 1, setH M t 3, hlp, by go_num, by go_num, HP8.out, HO8.out, HB8.out⟩
                case measure => simp [RowKit.intOf]; omega
            · have d3 : decide ((p : Int) < (q : Int)) = false := decide_eq_false (by omega)
              have d3' : decide (p < q) = false := decide_eq_false hlp
              have HEQ : Hid ((m = 0 ∧ p = lf) ∨ (0 < m ∧ ((lf ≤ m ∧ p = lf) ∨ (m < lf ∧ p = m)))) := by
                obtain ⟨_, _, e1, e2, e3⟩ := HP.out
                unfold Hid
                have : nL L ≤ q := by have := nL_le L; rw [HA.out.2.1] at this; exact this
                have h4 := HLL.out
                omega
              have HBQ := Lib.hid HBP.out
              have heq := HEQ.out
              rcases heq with ⟨h0, h1⟩ | ⟨h0, h1⟩
              · subst h1
                have q8 : decide ((m : Int) > 0) = false := decide_eq_false (by omega)
                have q8' : decide (0 < m) = false := decide_eq_false (by omega)
                have q8n : decide (0 < (m : Int)) = false := decide_eq_false (by omega)
                go_wp2_with fail
                refine (K.out _).mono ?_; rintro e w4 ⟨rfl, b4⟩
                have HB4 := below_next b4 HBQ.out
                clear b4
                go_wp2_with fail
                go_ret
                exact ⟨rfl, HB4⟩
              · have q8 : decide ((m : Int) > 0) = true := decide_eq_true (by omega)
                have q8' : decide (0 < m) = true := decide_eq_true (by omega)
                have q8n : decide (0 < (m : Int)) = true := decide_eq_true (by omega)
                have hmin : min (lf : Int) (m : Int) = (p : Int) := by omega
                clear h1
                go_wp2_with fail
                refine (K.out _).mono ?_; rintro e w4 ⟨rfl, b4⟩
                have HB4 := below_next b4 HBQ.out
                clear b4
                go_wp2_with fail
                go_ret
                exact ⟨rfl, HB4⟩


set_option maxRecDepth 100000 in
theorem lifted (os : Os) (started : os.Started) (H : Type) (enc : TypeId × Value → H) :
    ReturnsInHanded {} Try.checked os 6 .any (Rows.waitsArraysSpec.pre6 enc Try.prog Try.f6 Rows.waitsArraysRow.domain false) (Rows.waitsArraysSpec.post enc Try.prog Try.f6 false true false false) := by
  refine returnsInHanded_of_change (C := Try.checked) own started (by kernel_rfl) Try.func6
    (ChangeSpec.witness6 (enc := enc) (C := Try.checked) false ⟨#[], #[.int .i64 0, .int .i64 0, .slice none 0 0], []⟩ 8 (by kernel_rfl) (by kernel_rfl) (by kernel_rfl) (by kernel_rfl)) ?_
  intro W base args ds gs before hval0 hW _ _
  have hval : ∀ (j : Nat) t v, Try.f6.params[j]? = some t → args[j]? = some v → Value.okWide Try.prog W .any base t v := hval0
  have hW' := hW
  obtain ⟨p, q, hA0, hV, rfl, hfz, hnd⟩ := hW
  have hA : DataW.TrodAll enc Try.prog W 0 (fun _ => true) true Try.f6.params.toList args.toList ds p := hA0
  rw [Try.params6] at hA hval
  obtain ⟨v0, vs0, d0, ds0, p0, q0, hargs, rfl, rfl, h0, r0⟩ := trodAll_cons hA
  obtain ⟨v1, vs1, d1, ds1, p1, q1, rfl, rfl, rfl, h1, r1⟩ := trodAll_cons r0
  obtain ⟨v2, vs2, d2, ds2, p2, q2, rfl, rfl, rfl, h2, r2⟩ := trodAll_cons r1
  obtain ⟨rfl, rfl, rfl⟩ := trodAll_nil r2
  obtain rfl : args = #[v0, v1, v2] := by cases args; simp_all
  obtain ⟨n, rfl, rfl, rfl, w0⟩ := open_int Try.underlying3 (hval 0 3 v0 rfl rfl) h0
  obtain ⟨most, rfl, rfl, rfl, w1⟩ := open_int Try.underlying3 (hval 1 3 v1 rfl rfl) h1
  obtain ⟨how, w2⟩ := open_ints_arg Try.underlying52 Try.underlying5 (by kernel_rfl) h2 (okWide_slice Try.underlying52 (hval 2 52 v2 rfl rfl))
  clear hA0 hval0
  refine (walk n most v2 how W w0 w1 w2).mono fun e W' ⟨he, hb⟩ => ?_
  subst he
  exact ⟨_, rfl, law_post (by kernel_rfl) (by kernel_rfl) rfl Try.underlying4 rfl hW' rfl hb⟩

theorem over : Rows.waitsArraysRow.holds Try.pinned (OpenSpec.ofChange Rows.waitsArraysSpec) :=
  OpenClaim.holds_of_wide 6 Try.f6 rfl rfl rfl rfl rfl rfl rfl ⟨rfl, rfl, rfl, rfl, rfl⟩ rfl rfl rfl rfl rfl (by kernel_rfl) Try.func6 (by kernel_rfl)
    (of_decide_eq_true (by kernel_rfl)) (by unfold Func.isWrapper; first | (rw [if_pos (by decide +kernel)]; kernel_rfl) | (rw [if_neg (by decide +kernel)]; exact ⟨rfl, rfl⟩))
    (fun os started H enc _ => lifted os started H enc)

theorem proved : Rows.WaitsArraysSaid :=
  over
#print axioms proved
end Go.Proofs.Ytfabjlhepadkpaa.waitsArrays
