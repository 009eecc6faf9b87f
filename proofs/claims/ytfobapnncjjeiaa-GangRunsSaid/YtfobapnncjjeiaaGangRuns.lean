/-
  GangRuns: all of the active row run; no two who run have a worker in common; whoever does not run has one in common with one who runs: so the law returns true for every input.
-/
import Derived.Test.YtfobapnncjjeiaaGaLw
import Derived.Test.YtfobapnncjjeiaaGaRs
import Derived.Test.YtfobapnncjjeiaaLaw
import Derived.Test.YtfobapnncjjeiaaRows
import Derived.Test.YtfobapnncjjeiaaArgs2
namespace Go.Proofs.Ytfobapnncjjeiaa.gangRuns
open Go.ChangeShapes Go.WideShapes Go.ChangeAt Go.RowKit
set_option linter.unusedVariables false

theorem own : ownKnob Try.prog.godebug = none := by kernel_rfl

open Go Go.ChangeShapes Go.WideShapes Go.ChangeAt Go.RowKit Go.Lib Go.Deep
set_option maxRecDepth 100000 in
set_option maxHeartbeats 8000000 in
theorem walk (v : Value) (L : List AcI) (w : World) (hA : AcArg w v L) :
    Calls Try.prog 5 #[v] w fun e w' => e = .returned (.bool true) ∧ Below w.heap.size w w' := by
  have MX := Lib.hid (matrix_any v L w hA)
  have K : Hid (∀ w1, Calls Try.prog 10 #[] w1 fun e w' => e = .returned (.bool true) ∧ Below w1.heap.size w1 w') := known16_any
  go_enter Try.func5, Try.ntmps5
  go_wp2_with fail
  refine MX.out.mono ?_; rintro e w1 ⟨⟨m, a, l, rfl, hg1⟩, b1⟩
  obtain ⟨o1, ho1⟩ : ∃ own : Nat → Prop, own = fun k => w.heap.size ≤ k := ⟨_, rfl⟩
  rw [← ho1] at hg1
  have HOK := Lib.hid hg1.ok
  have hlen := hg1.ok.len
  have HG1 := Lib.hid hg1
  have HB1 := Lib.hid b1
  have CE := Lib.hid (cells_any m 4 a o1 l w1 hg1.gn)
  clear ho1 hg1 b1 MX hA
  go_wp2_with fail
  refine CE.out.mono ?_; rintro e w2 ⟨⟨va, rfl, ova⟩, b2⟩
  have HG2 := Lib.hid (HG1.out.kept b2)
  have HB2 := Lib.hid (below_next b2 HB1.out)
  have RA2 := Lib.hid (crow_of_own ova)
  obtain ⟨aa, ac, rfl⟩ := own_slice ova
  have RU := Lib.hid (runsAll_any m 4 a o1 l w2 HG2.out.gn HG2.out.act)
  obtain ⟨LL, hLL⟩ : ∃ n, n = l.length := ⟨_, rfl⟩
  have HLL := Lib.hid hLL
  rw [← hLL] at hlen ⊢
  clear ova b2 HG1 HB1 CE hLL
  go_wp2_with fail
  refine RU.out.mono ?_; rintro e X ⟨⟨vr, ys, rfl, hperm, _, ovr⟩, b3⟩
  have HGX := Lib.hid (HG2.out.kept b3)
  have HBX := Lib.hid (below_next b3 HB2.out)
  have RA : Hid (CRow X (.slice aa l.length ac) l) := RowG.kept RA2.out b3
  have RY := Lib.hid (urow_of_own ovr)
  obtain ⟨ra, rc, rfl⟩ := own_slice ovr
  obtain ⟨R, hR⟩ : ∃ R, R = runsG l a := ⟨_, rfl⟩
  have HRO : Hid (RunsOk l a R) := by unfold Hid; rw [hR]; exact runs_ok HOK.out HG2.out.act
  have hyl : ys.length = R.length := by rw [hperm.length_eq, hR]; simp [ids]
  have hy26 : ys.length ≤ 262144 := by rw [hyl, hR]; exact runs_len HOK.out
  have HMY : Hid (∀ c ∈ l, (c.1 ∈ ys ↔ c ∈ R)) := fun c hc => by
    rw [hperm.mem_iff, ← hR]; exact mem_ids HOK.out HRO.out.sub hc
  have IN : Hid (∀ (id : Nat) (wq : World), Below X.heap.size X wq → Calls Try.prog 26 #[.slice ra ys.length rc, .int .u32 (id : Nat)] wq fun e w' => e = .returned (.bool (decide (id ∈ ys))) ∧ w' = wq) := fun id wq hq => in_any _ ys id wq (RY.out.kept hq) (by omega)
  have ACTV : Hid (∀ wq, Below X.heap.size X wq → Calls Try.prog 19 #[.pointer (some ⟨m, 0, none⟩)] wq fun e w' => e = .returned (.int .i64 (a : Nat)) ∧ w' = wq) := fun wq hq => active_same m 4 a o1 l wq (HGX.out.kept hq).gn
  have ha15 := HG2.out.a16
  obtain ⟨YL, hYL⟩ : ∃ n, n = ys.length := ⟨_, rfl⟩
  rw [← hYL] at IN hyl hy26 ⊢
  have HYL : Hid (YL = R.length) := hyl
  clear ovr b3 HG2 HB2 RU RA2 hR hperm hYL HGX RY hyl
  go_wp2_with fail
  go_loopw [6, 7] (fun nv iv wr => ∃ i n : Nat, i ≤ LL ∧ n ≤ LL ∧ iv = .int .i64 (i : Nat) ∧ nv = .int .i64 (n : Nat) ∧ Hid (n = cntOn l R i) ∧ Hid (Below X.heap.size X wr)) (fun _ iv _ => LL - (RowKit.intOf iv).toNat)
  case atStart => exact ⟨0, 0, Nat.zero_le _, Nat.zero_le _, rfl, rfl, (cntOn_zero l R).symm, Below.refl _ _⟩
  case round =>
    obtain ⟨i, n, hi, hnL, rfl, rfl, HN, HBr⟩ := hrel
    by_cases hlt : i < LL
    · have d1 : decide ((i : Int) < (LL : Int)) = true := decide_eq_true (by omega)
      have d1' : decide (i < LL) = true := decide_eq_true hlt
      have hlx : i < l.length := by rw [← HLL.out]; exact hlt
      cases aa with
      | none => have := crow_none RA.out; rw [this] at hlx; simp at hlx
      | some A =>
      obtain ⟨b1, o1', rfl⟩ := crow_some RA.out (by omega)
      have HCL := Lib.hid (clash_iff HOK.out HRO.out hlx)
      have HCN := Lib.hid (cntOn_succ (R := R) hlx)
      have HCLe := Lib.hid (cntOn_le l R (i + 1))
      obtain ⟨c, hc⟩ : ∃ c, c = l[i] := ⟨_, rfl⟩
      rw [← hc] at HCL HCN
      have hmem : c ∈ l := by rw [hc]; exact List.getElem_mem hlx
      have hco := (HOK.out.ce c hmem).ord
      have hce := (HOK.out.ce c hmem).en
      have HMC := Lib.hid (HMY.out c hmem)
      have HAC := Lib.hid (HRO.out.act c hmem)
      have HCA : Hid (∀ w', Below X.heap.size X w' → w'.cell? ⟨b1, o1' + i * 4, none⟩ = some (.int .u32 (c.1 : Int)) ∧ w'.cell? ⟨b1, o1' + i * 4 + 1, none⟩ = some (.int .i64 (c.2.1 : Int)) ∧ w'.cell? ⟨b1, o1' + i * 4 + 2, none⟩ = some (.int .i64 (c.2.2.1 : Int)) ∧ w'.cell? ⟨b1, o1' + i * 4 + 3, none⟩ = some (.int .i64 (c.2.2.2 : Int))) := fun w' hb => by rw [hc]; exact CRow.cells RA.out hlx hb
      have hii : (i : Int) < (LL : Int) := by omega
      obtain ⟨c0, c1, c2, c3⟩ := HCA.out _ HBr.out
      have hx2 : c.2.2.1 ≤ 4096 := by
        have h2 : c.2.2.1 ≤ c.en := Nat.le_of_succ_le (en_st c)
        omega
      obtain ⟨β, hβ⟩ : ∃ β, β = decide (c.1 ∈ ys) := ⟨_, rfl⟩
      have IC := Lib.hid (IN.out c.1 wr HBr.out)
      rw [← hβ] at IC
      have HBE : Hid (BIs β (c ∈ R)) := by unfold Hid BIs; rw [hβ, decide_eq_true_eq]; exact HMC.out
      obtain ⟨n', hn'⟩ : ∃ x, x = cntOn l R (i + 1) := ⟨_, rfl⟩
      have HN' := Lib.hid hn'
      have hn'L : n' ≤ LL := by rw [hn', HLL.out]; exact HCLe.out
      have HNN : Hid (n' = n + if β = true then 1 else 0) := by
        unfold Hid; rw [hn', HCN.out, HN.out]
        congr 1
        by_cases hb : c ∈ R
        · rw [if_pos hb, if_pos (HBE.out.all hb)]
        · rw [if_neg hb, if_neg (fun h => hb (HBE.out.1 h))]
      clear hc hmem hce hβ hn' HCN HCLe HMC HN hlx
      obtain ⟨x0, x1, x2, x3⟩ := c
      dsimp only [Ce.row, Ce.ord] at c0 c1 c2 c3 hco hx2 HCA HAC IC
      go_wp2_with fail
      refine IC.out.mono ?_; rintro e w4 ⟨rfl, hw⟩
      replace hw := hw.symm; subst hw
      clear IC
      go_upto_if 32 with fail
      go_cut [6] (fun nv wx => nv = .int .i64 (n' : Nat) ∧ Hid (wr = wx))
      case first =>
        cases β with
        | true =>
          have hnn : (n : Int) + 1 = (n' : Int) := by have := HNN.out; simp at this; omega
          go_wp2_with fail
          go_meet
          exact ⟨by first | rfl | (rw [← hnn]; go_num) | go_num, rfl⟩
        | false =>
          have hnn : n' = n := by have := HNN.out; simpa using this
          have HNE := Lib.hid hnn
          clear hnn
          go_wp2_with fail
          go_meet
          exact ⟨by rw [HNE.out], rfl⟩
      case rest =>
        obtain ⟨rfl, hw⟩ := hcut
        obtain rfl := hw.out
        clear HNN hw
        go_upto_region 13 with fail
        go_cut [46] from 35 to 46 (fun cv wx => cv = .bool false ∧ Hid (Below X.heap.size X wx))
        case first =>
          have AC : Hid (∀ q, Calls Try.prog 19 #[.pointer (some ⟨m, 0, none⟩)] (wr.drewN q) fun e w' => e = .returned (.int .i64 (a : Nat)) ∧ w' = wr.drewN q) := fun q => ACTV.out _ (below_drewN HBr.out q)
          by_cases hxa : x1 = a
          · have e1 : ((x1 : Int) == (a : Int)) = true := by simp; omega
            have e1' : (x1 == a) = true := by simp; omega
            obtain rfl : β = true := HBE.out.all (HAC.out hxa)
            have HXA := Lib.hid hxa
            clear hxa
            go_wp2_with fail
            go_quiet (first | (go_at_call 19; exact Calls.quiet_of_same (AC.out _)))
            go_wp2_with fail
            go_meet
            exact ⟨rfl, below_drewN HBr.out _⟩
          · have e1 : ((x1 : Int) == (a : Int)) = false := by simp; omega
            have e1' : (x1 == a) = false := by simp; omega
            go_wp2_with fail
            go_quiet (first | (go_at_call 19; exact Calls.quiet_of_same (AC.out _)))
            go_wp2_with fail
            go_meet
            exact ⟨rfl, below_drewN HBr.out _⟩
        case rest =>
          obtain ⟨rfl, HBc⟩ := hcut
          clear HBr c0 c1 c2 c3 HAC
          go_wp2_with fail
          go_loopw [9, 10] (fun cv kv wr => ∃ (k : Nat) (γ : Bool), k ≤ LL ∧ kv = .int .i64 (k : Nat) ∧ cv = .bool γ ∧ Hid (BIs γ (ClashK l R i k (x0, x1, x2, x3))) ∧ Hid (Below X.heap.size X wr)) (fun _ kv _ => LL - (RowKit.intOf kv).toNat)
          case atStart => exact ⟨0, false, Nat.zero_le _, rfl, rfl, BIs.no (fun ⟨j, _, h, _⟩ => absurd h (Nat.not_lt_zero _)), HBc.out⟩
          case round =>
            obtain ⟨k, γ, hk, rfl, rfl, HF, HBr⟩ := hrel
            by_cases hlk : k < LL
            · have d2 : decide ((k : Int) < (LL : Int)) = true := decide_eq_true (by omega)
              have d2' : decide (k < LL) = true := decide_eq_true hlk
              have hki : (k : Int) < (LL : Int) := by omega
              have hkx : k < l.length := by rw [← HLL.out]; exact hlk
              obtain ⟨c0, c1, c2, c3⟩ := HCA.out _ HBr.out
              obtain ⟨e0, e1, e2, e3⟩ := CRow.cells RA.out hkx HBr.out
              have HFS := Lib.hid (clashK_succ (R := R) (i := i) (c := (x0, x1, x2, x3)) hkx)
              have hmk : l[k] ∈ l := List.getElem_mem hkx
              obtain ⟨y, hy⟩ : ∃ y, y = l[k] := ⟨_, rfl⟩
              rw [← hy] at e0 e1 e2 e3 HFS hmk
              have hyo := (HOK.out.ce y hmk).ord
              have hye := (HOK.out.ce y hmk).en
              have hy2 : y.2.2.1 ≤ 4096 := by
                have h2 : y.2.2.1 ≤ y.en := Nat.le_of_succ_le (en_st y)
                omega
              have HMC := Lib.hid (HMY.out y hmk)
              obtain ⟨δ, hδ⟩ : ∃ δ, δ = decide (y.1 ∈ ys) := ⟨_, rfl⟩
              have IC : Hid (∀ wq, Below X.heap.size X wq → Calls Try.prog 26 #[.slice ra YL rc, .int .u32 (y.1 : Nat)] wq fun e w' => e = .returned (.bool δ) ∧ w' = wq) := fun wq hq => by rw [hδ]; exact IN.out y.1 wq hq
              have HDE : Hid (BIs δ (y ∈ R)) := by unfold Hid BIs; rw [hδ, decide_eq_true_eq]; exact HMC.out
              clear hy hkx hmk hye hδ HMC
              obtain ⟨y0, y1, y2, y3⟩ := y
              dsimp only [Ce.st, Ce.ord] at e0 e1 e2 e3 HFS hyo hy2 IC
              by_cases hik : k = i
              · have n1 : ((k : Int) != (i : Int)) = false := by simp; omega
                have n1' : (k != i) = false := by simp; omega
                have HF2 : Hid (BIs γ (ClashK l R i (k + 1) (x0, x1, x2, x3))) := by
                  unfold Hid BIs; rw [HFS.out]
                  exact HF.out.trans ⟨.inl, fun h => h.elim id (fun h => absurd hik h.1)⟩
                have HIK := Lib.hid hik
                clear hik HFS HF IC HDE
                go_wp2_with fail
                go_quiet (fail)
                go_wp2_with fail
                go_roundw
                case rel => exact ⟨k + 1, γ, hlk, by go_num, rfl, HF2, below_drewN HBr.out _⟩
                case measure => simp [RowKit.intOf]; omega
              · have n1 : ((k : Int) != (i : Int)) = true := by simp; omega
                have n1' : (k != i) = true := by simp; omega
                cases δ with
                | false =>
                  have HF2 : Hid (BIs γ (ClashK l R i (k + 1) (x0, x1, x2, x3))) := by
                    unfold Hid BIs; rw [HFS.out]
                    exact HF.out.trans ⟨.inl, fun h => h.elim id (fun h => absurd h.2.1 HDE.out.f)⟩
                  have ICq : Hid (∀ q, Calls Try.prog 26 #[.slice ra YL rc, .int .u32 (y0 : Nat)] (wr.drewN q) fun e w' => e = .returned (.bool false) ∧ w' = wr.drewN q) := fun q => IC.out _ (below_drewN HBr.out q)
                  clear HFS HF IC HDE
                  go_wp2_with fail
                  go_quiet (first | (go_at_call 26; exact Calls.quiet_of_same (ICq.out _)))
                  go_wp2_with fail
                  go_roundw
                  case rel => exact ⟨k + 1, γ, hlk, by go_num, rfl, HF2, below_drewN HBr.out _⟩
                  case measure => simp [RowKit.intOf]; omega
                | true =>
                  have MT : Hid (∀ wq, Calls Try.prog 25 #[.agg #[.int .i64 (y2 : Nat), .int .i64 (y3 : Nat)], .agg #[.int .i64 (x2 : Nat), .int .i64 (x3 : Nat)]] wq fun e w' => e = .returned (.bool (decide (meetC y2 y3 x2 x3))) ∧ Below wq.heap.size wq w') := fun wq => meet_any y2 y3 x2 x3 (by omega) (by omega) hy2 hx2 wq
                  obtain ⟨ε, hε⟩ : ∃ ε, ε = decide (meetC y2 y3 x2 x3) := ⟨_, rfl⟩
                  have HF2 : Hid (BIs (γ || ε) (ClashK l R i (k + 1) (x0, x1, x2, x3))) := by
                    unfold Hid BIs; rw [HFS.out, hε, Bool.or_eq_true, decide_eq_true_eq]
                    constructor
                    · rintro (h | h)
                      · exact .inl (HF.out.1 h)
                      · exact .inr ⟨hik, HDE.out.t, h⟩
                    · rintro (h | h)
                      · exact .inl (HF.out.2 h)
                      · exact .inr h.2.2
                  rw [← hε] at MT
                  clear hε HFS HF HDE
                  go_wp2_with fail
                  go_region_held3 (fun w' => w'.cell? ⟨b1, o1' + k * 4, none⟩ = some (.int .u32 (y0 : Nat)) ∧ w'.cell? ⟨b1, o1' + k * 4 + 2, none⟩ = some (.int .i64 (y2 : Nat)) ∧ w'.cell? ⟨b1, o1' + k * 4 + 3, none⟩ = some (.int .i64 (y3 : Nat)) ∧ w'.cell? ⟨b1, o1' + i * 4 + 2, none⟩ = some (.int .i64 (x2 : Nat)) ∧ w'.cell? ⟨b1, o1' + i * 4 + 3, none⟩ = some (.int .i64 (x3 : Nat)) ∧ Below X.heap.size X w')
                    (first
                      | exact ⟨e0, e2, e3, c2, c3, HBr.out.drew⟩
                      | (rcases ‹_ ∧ _ ∧ _ ∧ _ ∧ _ ∧ Below X.heap.size X _› with ⟨g0, g1, g2, g3, g4, g5⟩; exact ⟨cell_next (by assumption) g0, cell_next (by assumption) g1, cell_next (by assumption) g2, cell_next (by assumption) g3, cell_next (by assumption) g4, below_next (by assumption) g5⟩)
                      | assumption)
                    (first
                      | (go_at_call 25; ((with_reducible refine (MT.out _).mono ?_); rintro e wm ⟨rfl, bm⟩))
                      | (go_at_call 26; ((with_reducible refine (IC.out _ (‹_ ∧ _ ∧ _ ∧ _ ∧ _ ∧ Below X.heap.size X _›).2.2.2.2.2).mono ?_); rintro e wm ⟨rfl, hw⟩; subst hw)))
                  all_goals (have HB5 := (‹_ ∧ _ ∧ _ ∧ _ ∧ _ ∧ Below X.heap.size X _›).2.2.2.2.2)
                  cases ε with
                  | true =>
                    all_goals (go_wp2_with fail)
                    all_goals go_roundw
                    case rel => exact ⟨k + 1, true, hlk, by go_num, rfl, by simpa using HF2, HB5⟩
                    case measure => simp [RowKit.intOf]; omega
                  | false =>
                    all_goals (go_wp2_with fail)
                    all_goals go_roundw
                    case rel => exact ⟨k + 1, γ, hlk, by go_num, rfl, by simpa using HF2, HB5⟩
                    case measure => simp [RowKit.intOf]; omega
            · have d2 : decide ((k : Int) < (LL : Int)) = false := decide_eq_false (by omega)
              have d2' : decide (k < LL) = false := decide_eq_false hlk
              have hgb : (β == γ) = false := by
                have h1 := HF.out
                rw [show k = l.length by rw [← HLL.out]; omega] at h1
                have h2 := HCL.out
                by_cases hb : (x0, x1, x2, x3) ∈ R
                · have e1 : β = true := HBE.out.all hb
                  have e2 : γ = false := by cases γ with | false => rfl | true => exact absurd hb (h2.1 h1.t)
                  rw [e1, e2]; rfl
                · have e1 : β = false := by cases β with | false => rfl | true => exact absurd HBE.out.t hb
                  have e2 : γ = true := h1.all (h2.2 hb)
                  rw [e1, e2]; rfl
              clear HF
              go_wp2_with fail
              go_roundw
              case rel => exact ⟨i + 1, n', hlt, hn'L, by go_num, rfl, HN', HBr⟩
              case measure => simp [RowKit.intOf]; omega
    · have d1 : decide ((i : Int) < (LL : Int)) = false := decide_eq_false (by omega)
      have d1' : decide (i < LL) = false := decide_eq_false hlt
      have hny : n = YL := by rw [HN.out, HYL.out]; exact cntOn_all HOK.out HRO.out (by rw [← HLL.out]; omega)
      have t1 : ((n : Int) == (YL : Int)) = true := by simp; omega
      have t1' : (n == YL) = true := by simp; omega
      have HNY := Lib.hid hny
      clear hny HN
      go_wp2_with fail
      refine (K.out _).mono ?_; rintro e w9 ⟨rfl, b9⟩
      have HB9 := below_next b9 (HBX.out.trans (HBr.out.mono HBX.out.size))
      clear b9
      go_wp2_with fail
      go_ret
      exact ⟨rfl, HB9⟩


set_option maxRecDepth 100000 in
theorem lifted (os : Os) (started : os.Started) (H : Type) (enc : TypeId × Value → H) :
    ReturnsInHanded {} Try.checked os 5 .any (Rows.gangRunsSpec.pre6 enc Try.prog Try.f5 Rows.gangRunsRow.domain false) (Rows.gangRunsSpec.post enc Try.prog Try.f5 false true false false) := by
  refine returnsInHanded_of_change (C := Try.checked) own started (by kernel_rfl) Try.func5
    (ChangeSpec.witness6 (enc := enc) (C := Try.checked) false ⟨#[], #[.slice none 0 0], []⟩ 8 (by kernel_rfl) (by kernel_rfl) (by kernel_rfl) (by kernel_rfl)) ?_
  intro W base args ds gs before hval0 hW _ _
  have hval : ∀ (j : Nat) t v, Try.f5.params[j]? = some t → args[j]? = some v → Value.okWide Try.prog W .any base t v := hval0
  have hW' := hW
  obtain ⟨p, q, hA0, hV, rfl, hfz, hnd⟩ := hW
  have hA : DataW.TrodAll enc Try.prog W 0 (fun _ => true) true Try.f5.params.toList args.toList ds p := hA0
  rw [Try.params5] at hA hval
  obtain ⟨v0, vs0, d0, ds0, p0, q0, hargs, rfl, rfl, h0, r0⟩ := trodAll_cons hA
  obtain ⟨rfl, rfl, rfl⟩ := trodAll_nil r0
  obtain rfl : args = #[v0] := by cases args; simp_all
  obtain ⟨L, w0⟩ := open_acts h0 (okWide_slice Try.underlying22 (hval 0 22 v0 rfl rfl))
  clear hA0 hval0
  refine (walk v0 L W w0).mono fun e W' ⟨he, hb⟩ => ?_
  subst he
  exact ⟨_, rfl, law_post (by kernel_rfl) (by kernel_rfl) rfl Try.underlying4 rfl hW' rfl hb⟩

theorem over : Rows.gangRunsRow.holds Try.pinned (OpenSpec.ofChange Rows.gangRunsSpec) :=
  OpenClaim.holds_of_wide 5 Try.f5 rfl rfl rfl rfl rfl rfl rfl ⟨rfl, rfl, rfl, rfl, rfl⟩ rfl rfl rfl rfl rfl (by kernel_rfl) Try.func5 (by kernel_rfl)
    (of_decide_eq_true (by kernel_rfl)) (by unfold Func.isWrapper; first | (rw [if_pos (by decide +kernel)]; kernel_rfl) | (rw [if_neg (by decide +kernel)]; exact ⟨rfl, rfl⟩))
    (fun os started H enc _ => lifted os started H enc)

theorem proved : Rows.GangRunsSaid :=
  over
#print axioms proved
end Go.Proofs.Ytfobapnncjjeiaa.gangRuns
