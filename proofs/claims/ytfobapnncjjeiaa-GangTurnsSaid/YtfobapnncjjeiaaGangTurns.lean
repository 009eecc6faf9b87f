/-
  GangTurns: in as many turns as there are rows each row is active once, and each job runs at least once; then it is as it was: so the law returns true for every input.
-/
import Derived.Test.YtfobapnncjjeiaaGaTn
import Derived.Test.YtfobapnncjjeiaaLaw
import Derived.Test.YtfobapnncjjeiaaRows
import Derived.Test.YtfobapnncjjeiaaArgs2
namespace Go.Proofs.Ytfobapnncjjeiaa.gangTurns
open Go.ChangeShapes Go.WideShapes Go.ChangeAt Go.RowKit
set_option linter.unusedVariables false

theorem own : ownKnob Try.prog.godebug = none := by kernel_rfl

open Go Go.ChangeShapes Go.WideShapes Go.ChangeAt Go.RowKit Go.Lib Go.Deep
set_option maxRecDepth 100000 in
set_option maxHeartbeats 8000000 in
theorem walk (v : Value) (L : List AcI) (w : World) (hA : AcArg w v L) :
    Calls Try.prog 6 #[v] w fun e w' => e = .returned (.bool true) ∧ Below w.heap.size w w' := by
  have MX := Lib.hid (matrix_any v L w hA)
  have K : Hid (∀ w1, Calls Try.prog 10 #[] w1 fun e w' => e = .returned (.bool true) ∧ Below w1.heap.size w1 w') := known16_any
  obtain ⟨i0, hi, hz0, hz1, hz2⟩ := info_parts Try.infoU32
  have HI := Lib.hid (And.intro hi (And.intro hz0 (And.intro hz1 hz2)))
  clear hi hz0 hz1 hz2
  go_enter Try.func6, Try.ntmps6
  go_wp2_with fail
  refine MX.out.mono ?_; rintro e w1 ⟨⟨m, a, l, rfl, hg1⟩, b1⟩
  obtain ⟨o1, ho1⟩ : ∃ own : Nat → Prop, own = fun k => w.heap.size ≤ k := ⟨_, rfl⟩
  rw [← ho1] at hg1
  have HO1 : Hid (∀ k, o1 k → w.heap.size ≤ k) := fun k h => by rw [ho1] at h; exact h
  have HOK := Lib.hid hg1.ok
  have hlen := hg1.ok.len
  have HG1 := Lib.hid hg1
  have HB1 := Lib.hid b1
  have CE := Lib.hid (cells_any m 4 a o1 l w1 hg1.gn)
  clear ho1 hg1 b1 MX hA
  go_wp2_with fail
  refine CE.out.mono ?_; rintro e w2 ⟨⟨va, rfl, ova⟩, b2⟩
  have HS2 := Lib.hid (TSt.start HG1.out HO1.out ova b2 HB1.out)
  obtain ⟨aa, ac, rfl⟩ := own_slice ova
  obtain ⟨B1, hB1⟩ : ∃ b, b = w1.heap.size := ⟨_, rfl⟩
  obtain ⟨B, hB⟩ : ∃ b, b = w2.heap.size := ⟨_, rfl⟩
  rw [← hB1, ← hB] at HS2
  have hact := HG1.out.act
  have ha15 := HG1.out.a16
  obtain ⟨R, hR⟩ : ∃ n, n = rowsG l := ⟨_, rfl⟩
  have hR16 : R ≤ 16 := by rw [hR]; exact rowsG_16 HOK.out
  have ACTV : Hid (∀ ak zv zs wq, TSt w m l (.slice aa l.length ac) B1 B ak zv zs wq → Calls Try.prog 19 #[.pointer (some ⟨m, 0, none⟩)] wq fun e w' => e = .returned (.int .i64 (ak : Nat)) ∧ w' = wq) := fun ak zv zs wq h => by
    obtain ⟨ow, hg⟩ := h.gn
    exact active_same m 4 ak ow l wq hg
  have ROWS : Hid (∀ ak zv zs wq, TSt w m l (.slice aa l.length ac) B1 B ak zv zs wq → Calls Try.prog 17 #[.pointer (some ⟨m, 0, none⟩)] wq fun e w' => e = .returned (.int .i64 (R : Nat)) ∧ Below wq.heap.size wq w') := fun ak zv zs wq h => by
    obtain ⟨ow, hg⟩ := h.gn
    rw [hR]; exact rows_any m 4 ak ow l wq hg
  have RUNS : Hid (∀ ak zv zs wq, TSt w m l (.slice aa l.length ac) B1 B ak zv zs wq → Calls Try.prog 15 #[.pointer (some ⟨m, 0, none⟩)] wq fun e w' => ∃ v ys, e = .returned v ∧ ys.length ≤ 262144 ∧ (∀ c ∈ l, c.row = ak → c.1 ∈ ys) ∧ URow w' v ys ∧ Below wq.heap.size wq w') := fun ak zv zs wq h => by
    obtain ⟨ow, hg⟩ := h.gn
    refine (runsAll_any m 4 ak ow l wq hg h.act).mono ?_
    rintro e w' ⟨⟨v, ys, rfl, hp, _, ho⟩, hb⟩
    refine ⟨v, ys, rfl, ?_, fun c hc hr => ?_, urow_of_own ho, hb⟩
    · rw [hp.length_eq]; unfold ids; rw [List.length_map]; exact runs_len HOK.out
    · rw [hp.mem_iff]
      exact (mem_ids HOK.out (runs_ok HOK.out h.act).sub hc).2 ((runs_ok HOK.out h.act).act c hc hr)
  have TURN : Hid (∀ ak zv zs wq, TSt w m l (.slice aa l.length ac) B1 B ak zv zs wq → Calls Try.prog 27 #[.pointer (some ⟨m, 0, none⟩)] wq fun e w' => e = .returned (.tuple #[]) ∧ TSt w m l (.slice aa l.length ac) B1 B (turnA l ak) zv zs w') := fun ak zv zs wq h => h.turn
  have CELLS : Hid (∀ ak zv zs wq, TSt w m l (.slice aa l.length ac) B1 B ak zv zs wq → Calls Try.prog 14 #[.pointer (some ⟨m, 0, none⟩)] wq fun e w' => ∃ v', e = .returned v' ∧ CRow w' v' l ∧ Below wq.heap.size wq w') := fun ak zv zs wq h => by
    obtain ⟨ow, hg⟩ := h.gn
    refine (cells_any m 4 ak ow l wq hg).mono ?_
    rintro e w' ⟨⟨v', rfl, ho⟩, hb⟩
    exact ⟨v', rfl, crow_of_own ho, hb⟩
  obtain ⟨LL, hLL⟩ : ∃ n, n = l.length := ⟨_, rfl⟩
  have HLL := Lib.hid hLL
  have hactR : a < R ∨ a = 0 := by rw [hR]; exact hact
  have HRL : Hid (∀ c ∈ l, c.2.1 < R) := fun c hc => by rw [hR]; exact rowsG_lt HOK.out.srt hc
  have HTN : Hid (∀ k, a < R → turnA l ((a + k) % R) = (a + (k + 1)) % R) := fun k h => by rw [hR] at h ⊢; exact turn_at h
  rw [← hLL] at hlen HS2 ACTV ROWS RUNS TURN CELLS ⊢
  clear ova b2 HG1 HB1 CE hLL hR hact hB hB1
  go_wp2_with fail
  refine (ACTV.out _ _ _ _ HS2.out).mono ?_; rintro e w3 ⟨rfl, hw⟩
  replace hw := hw.symm; subst hw
  go_wp2_with fail
  refine (ROWS.out _ _ _ _ HS2.out).mono ?_; rintro e w3 ⟨rfl, b3⟩
  have HS3 := Lib.hid (HS2.out.kept b3)
  clear b3 HS2
  go_wp2_with fail
  go_loopw [7, 8] (fun zv iv wr => ∃ (k : Nat) (zs : List Nat) (ak : Nat), k ≤ R ∧ iv = .int .i64 (k : Nat) ∧ zs.length ≤ k * 262144 ∧ Hid (ak = if R = 0 then a else (a + k) % R) ∧ Hid (∀ c ∈ l, ∀ j, j < k → c.2.1 = (a + j) % R → c.1 ∈ zs) ∧ Hid (TSt w m l (.slice aa LL ac) B1 B ak zv zs wr)) (fun _ iv _ => R - (RowKit.intOf iv).toNat)
  case atStart =>
    refine ⟨0, [], a, Nat.zero_le _, rfl, Nat.le_refl _, ?_, fun c _ j h => absurd h (Nat.not_lt_zero _), HS3.out⟩
    unfold Hid
    split
    · rfl
    · rw [Nat.add_zero, Nat.mod_eq_of_lt (by omega)]
  case round =>
    obtain ⟨k, zs, ak, hk, rfl, hzl, HAK, HMZ, HS⟩ := hrel
    by_cases hlt : k < R
    · have d1 : decide ((k : Int) < (R : Int)) = true := decide_eq_true (by omega)
      have d1' : decide (k < R) = true := decide_eq_true hlt
      have haR : a < R := by omega
      have hR0 : ¬ R = 0 := by omega
      have hak : ak = (a + k) % R := by rw [HAK.out, if_neg hR0]
      have hrem : ((a : Int) + (k : Int)).tmod (R : Int) = (ak : Int) := by
        rw [Int.tmod_eq_emod_of_nonneg (by omega), hak]
        rw [Int.natCast_emod, Int.natCast_add]
      have hsw : IntKind.i64.wrap ((a : Int) + (k : Int)) = (a : Int) + (k : Int) := by rw [IntKind.wrap_i64]; omega
      have hq0 : ((ak : Int) != (ak : Int)) = false := by simp
      have hak16 : ak < R := by rw [hak]; exact Nat.mod_lt _ (by omega)
      have HAK2 := Lib.hid hak
      have HTK := Lib.hid (HTN.out k haR)
      rw [← HAK2.out] at HTK
      have AC : Hid (∀ q, Calls Try.prog 19 #[.pointer (some ⟨m, 0, none⟩)] (wr.drewN q) fun e w' => e = .returned (.int .i64 (ak : Nat)) ∧ w' = wr.drewN q) := fun q => ACTV.out _ _ _ _ (HS.out.kept (below_drewN (Below.refl _ _) q))
      clear hak HAK
      go_wp2_with fail
      go_quiet (first | (go_at_call 19; exact Calls.quiet_of_same (AC.out _)))
      obtain ⟨W, hW⟩ : ∃ W, W = wr.drewN nq := ⟨_, rfl⟩
      have HSW : Hid (TSt w m l (.slice aa LL ac) B1 B ak u7 zs W) := by unfold Hid; rw [hW]; exact HS.out.kept (below_drewN (Below.refl _ _) nq)
      rw [← hW]
      clear hW HS AC hrem hsw
      go_wp2_with fail
      refine (RUNS.out _ _ _ _ HSW.out).mono ?_; rintro e w4 ⟨vr, ys, rfl, hy26, hym, hyr, b4⟩
      have HS4 := Lib.hid (HSW.out.kept b4)
      have HSRC := Lib.hid (src_u2 hyr)
      have HMZ2 : Hid (∀ c ∈ l, ∀ j, j < k + 1 → c.2.1 = (a + j) % R → c.1 ∈ zs ++ ys) := fun c hc j hj hr => by
        rcases Nat.lt_or_ge j k with h | h
        · exact List.mem_append.2 (.inl (HMZ.out c hc j h hr))
        · obtain rfl : j = k := by omega
          exact List.mem_append.2 (.inr (hym c hc (by rw [HAK2.out]; exact hr)))
      have HLZ : Hid ((zs ++ ys).length ≤ (k + 1) * 262144) := by unfold Hid; rw [List.length_append]; omega
      have HROW := Lib.hid HS4.out.row
      have HBS := Lib.hid HS4.out.base
      have HAPP : Hid (∀ v8 w8, w8.ownsRow B 32 1 v8 (zs.length + ys.length) (uL zs ++ uL ys) → w4.grownBy w8 u7.ownBlock → (v8.ownBlock = u7.ownBlock ∨ v8.ownBlock = some w4.heap.size) → TSt w m l (.slice aa LL ac) B1 B ak v8 (zs ++ ys) w8) := fun v8 w8 h1 h2 h3 => by
        refine HS4.out.app ?_ h2 h3
        show w8.ownsRow B 32 1 v8 (zs ++ ys).length (uL (zs ++ ys))
        rw [List.length_append]
        unfold uL at h1 ⊢
        rw [List.flatMap_append]
        exact h1
      obtain ⟨hi, hz0, hz1, hz2⟩ := HI.out
      obtain ⟨ZN, hZN⟩ : ∃ n, n = zs.length := ⟨_, rfl⟩
      obtain ⟨YN, hYN⟩ : ∃ n, n = ys.length := ⟨_, rfl⟩
      have HROW' : Hid (w4.ownsRow B 32 1 u7 ZN (uL zs)) := by unfold Hid; rw [hZN]; exact HROW.out
      rw [← hYN] at HSRC hy26
      rw [← hZN] at hzl
      rw [← hZN, ← hYN] at HAPP
      clear hym hyr b4 HMZ HSW HROW hZN hYN
      go_upto_region 14 with (first | (at_builtin; refine wpList_app rfl _ _ 37 rfl B 32 i0 _ 1 4 Try.underlying37 hi hz0 hz1 hz2 rfl (by decide) _ ZN (uL zs) rfl HROW'.out _ YN (uL ys) rfl HSRC.out (uL_one _) (by unfold maxLen; omega) (by omega) HBS.out ?_; intro v8 w8 hown8 hgrow8 hat8; have HS8 := Lib.hid (HAPP.out v8 w8 hown8 hgrow8 hat8); clear hown8 hgrow8 hat8))
      clear hi hz0 hz1 hz2 HAPP HROW' HSRC HS4 HBS
      go_wp2_with fail
      refine (TURN.out _ _ _ _ HS8.out).mono ?_; rintro e w9 ⟨rfl, hs9⟩
      rw [HTK.out] at hs9
      have HS9 := Lib.hid hs9
      clear hs9 HS8
      go_wp2_with fail
      go_roundw
      case rel => exact ⟨k + 1, zs ++ ys, _, hlt, by go_num, HLZ.out, by unfold Hid; rw [if_neg hR0], HMZ2.out, HS9.out⟩
      case measure => simp [RowKit.intOf]; omega
    · have d1 : decide ((k : Int) < (R : Int)) = false := decide_eq_false (by omega)
      have d1' : decide (k < R) = false := decide_eq_false hlt
      obtain rfl : k = R := by omega
      have haa : ak = a := by
        rw [HAK.out]
        split
        · rfl
        · rename_i h0
          rw [Nat.add_mod_right, Nat.mod_eq_of_lt (by omega)]
      have HALL : Hid (∀ c ∈ l, c.1 ∈ zs) := fun c hc => by
        have hc1 := HRL.out c hc
        have haR : a < k := by omega
        by_cases h : a ≤ c.2.1
        · exact HMZ.out c hc (c.2.1 - a) (by omega) (by rw [show a + (c.2.1 - a) = c.2.1 by omega, Nat.mod_eq_of_lt hc1])
        · exact HMZ.out c hc (c.2.1 + k - a) (by omega) (by rw [show a + (c.2.1 + k - a) = c.2.1 + k by omega, Nat.add_mod_right, Nat.mod_eq_of_lt hc1])
      rw [haa] at HS
      have hz4 : zs.length ≤ 4194304 := by omega
      clear HMZ HAK haa HTN
      obtain ⟨X, hX⟩ : ∃ x, x = wr := ⟨_, rfl⟩
      subst hX
      have RA := Lib.hid HS.out.cells
      have RZ := Lib.hid (urow_of_own HS.out.row)
      go_wp2_with fail
      go_loopw [9] (fun iv wr => ∃ i : Nat, i ≤ LL ∧ iv = .int .i64 (i : Nat) ∧ Hid (Below X.heap.size X wr)) (fun iv _ => LL - (RowKit.intOf iv).toNat)
      case atStart => exact ⟨0, Nat.zero_le _, rfl, Below.refl _ _⟩
      case round =>
        obtain ⟨i, hi, rfl, HBr⟩ := hrel
        by_cases hlti : i < LL
        · have e1 : decide ((i : Int) < (LL : Int)) = true := decide_eq_true (by omega)
          have e1' : decide (i < LL) = true := decide_eq_true hlti
          have hlx : i < l.length := by rw [← HLL.out]; exact hlti
          cases aa with
          | none => have := crow_none RA.out; rw [this] at hlx; simp at hlx
          | some A =>
          obtain ⟨b1, o1', rfl⟩ := crow_some RA.out (by omega)
          obtain ⟨c0, c1, c2, c3⟩ := CRow.cells RA.out hlx HBr.out
          have hin := HALL.out l[i] (List.getElem_mem hlx)
          have IC := Lib.hid (in_any u7 zs l[i].1 wr (RZ.out.kept HBr.out) hz4)
          rw [decide_eq_true hin] at IC
          obtain ⟨c, hc⟩ : ∃ c, c = l[i] := ⟨_, rfl⟩
          rw [← hc] at c0 c1 c2 c3 IC
          obtain ⟨x0, x1, x2, x3⟩ := c
          dsimp only at c0 c1 c2 c3 IC
          have hii : (i : Int) < (LL : Int) := by omega
          clear hin hc hlx
          go_wp2_with fail
          refine IC.out.mono ?_; rintro e w4 ⟨rfl, hw⟩
          replace hw := hw.symm; subst hw
          go_wp2_with fail
          go_roundw
          case rel => exact ⟨i + 1, hlti, by go_num, HBr⟩
          case measure => simp [RowKit.intOf]; omega
        · have e1 : decide ((i : Int) < (LL : Int)) = false := decide_eq_false (by omega)
          have e1' : decide (i < LL) = false := decide_eq_false hlti
          have HSr := Lib.hid (HS.out.kept HBr.out)
          go_wp2_with fail
          refine (CELLS.out _ _ _ _ HSr.out).mono ?_; rintro e w5 ⟨vb, rfl, hvb, b5⟩
          have HS5 := Lib.hid (HSr.out.kept b5)
          have SM := Lib.hid (same16_any vb (.slice aa LL ac) l l w5 hvb HS5.out.cells (by rw [← HLL.out]; omega) (by rw [← HLL.out]; omega))
          rw [decide_eq_true rfl] at SM
          clear hvb b5 HSr
          go_wp2_with fail
          refine SM.out.mono ?_; rintro e w6 ⟨rfl, b6⟩
          have HS6 := Lib.hid (HS5.out.kept b6)
          clear b6 HS5 SM
          go_wp2_with fail
          refine (ACTV.out _ _ _ _ HS6.out).mono ?_; rintro e w7 ⟨rfl, hw⟩
          replace hw := hw.symm; subst hw
          have t1 : ((a : Int) == (a : Int)) = true := by simp
          go_wp2_with fail
          refine (K.out _).mono ?_; rintro e w9 ⟨rfl, b9⟩
          have HB9 := below_next b9 HS6.out.bel
          clear b9
          go_wp2_with fail
          go_ret
          exact ⟨rfl, HB9⟩





set_option maxRecDepth 100000 in
theorem lifted (os : Os) (started : os.Started) (H : Type) (enc : TypeId × Value → H) :
    ReturnsInHanded {} Try.checked os 6 .any (Rows.gangTurnsSpec.pre6 enc Try.prog Try.f6 Rows.gangTurnsRow.domain false) (Rows.gangTurnsSpec.post enc Try.prog Try.f6 false true false false) := by
  refine returnsInHanded_of_change (C := Try.checked) own started (by kernel_rfl) Try.func6
    (ChangeSpec.witness6 (enc := enc) (C := Try.checked) false ⟨#[], #[.slice none 0 0], []⟩ 8 (by kernel_rfl) (by kernel_rfl) (by kernel_rfl) (by kernel_rfl)) ?_
  intro W base args ds gs before hval0 hW _ _
  have hval : ∀ (j : Nat) t v, Try.f6.params[j]? = some t → args[j]? = some v → Value.okWide Try.prog W .any base t v := hval0
  have hW' := hW
  obtain ⟨p, q, hA0, hV, rfl, hfz, hnd⟩ := hW
  have hA : DataW.TrodAll enc Try.prog W 0 (fun _ => true) true Try.f6.params.toList args.toList ds p := hA0
  rw [Try.params6] at hA hval
  obtain ⟨v0, vs0, d0, ds0, p0, q0, hargs, rfl, rfl, h0, r0⟩ := trodAll_cons hA
  obtain ⟨rfl, rfl, rfl⟩ := trodAll_nil r0
  obtain rfl : args = #[v0] := by cases args; simp_all
  obtain ⟨L, w0⟩ := open_acts h0 (okWide_slice Try.underlying22 (hval 0 22 v0 rfl rfl))
  clear hA0 hval0
  refine (walk v0 L W w0).mono fun e W' ⟨he, hb⟩ => ?_
  subst he
  exact ⟨_, rfl, law_post (by kernel_rfl) (by kernel_rfl) rfl Try.underlying4 rfl hW' rfl hb⟩

theorem over : Rows.gangTurnsRow.holds Try.pinned (OpenSpec.ofChange Rows.gangTurnsSpec) :=
  OpenClaim.holds_of_wide 6 Try.f6 rfl rfl rfl rfl rfl rfl rfl ⟨rfl, rfl, rfl, rfl, rfl⟩ rfl rfl rfl rfl rfl (by kernel_rfl) Try.func6 (by kernel_rfl)
    (of_decide_eq_true (by kernel_rfl)) (by unfold Func.isWrapper; first | (rw [if_pos (by decide +kernel)]; kernel_rfl) | (rw [if_neg (by decide +kernel)]; exact ⟨rfl, rfl⟩))
    (fun os started H enc _ => lifted os started H enc)

theorem proved : Rows.GangTurnsSaid :=
  over
#print axioms proved
end Go.Proofs.Ytfobapnncjjeiaa.gangTurns
