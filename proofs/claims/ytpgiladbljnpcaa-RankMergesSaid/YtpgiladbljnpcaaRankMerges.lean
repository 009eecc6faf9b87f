/-
  RankMerges: any two rows of keys are merged as gangerref03 says, they stay, and what comes out is its owner's: so the law returns true for every input.
-/
import Derived.Test.YtpgiladbljnpcaaKeyArgs
import Derived.Test.YtpgiladbljnpcaaKeyO
import Derived.Test.YtpgiladbljnpcaaRows
import Derived.Test.YtpgiladbljnpcaaArgs2
namespace Go.Proofs.Ytpgiladbljnpcaa.rankMerges
open Go.ChangeShapes Go.WideShapes Go.ChangeAt Go.RowKit
set_option linter.unusedVariables false

theorem own : ownKnob Try.prog.godebug = none := by kernel_rfl

open Go.ChangeShapes Go.WideShapes Go.ChangeAt Go.RowKit Go.Lib Go.Sort
attribute [local go_sem ↓] key_eql key_neq key_grd
theorem long (a a' : Option Addr) (n c n' c' : Nat) (w : World) (h : (decide (300 < n) || decide (300 < n')) = true) (hm : n ≤ maxLen) (hm' : n' ≤ maxLen) :
    Calls Try.prog 6 #[.slice a n c, .slice a' n' c'] w fun e w' => e = .returned (.bool true) ∧ Below w.heap.size w w' := by
  have HM : Hid (Calls Try.prog 13 #[.slice a n c, .slice a' n' c'] w fun e w' => e = .returned (.bool true) ∧ Below w.heap.size w w') := by
    have := many_any a a' n c n' c' w (by unfold maxLen at hm; omega) (by unfold maxLen at hm'; omega)
    rw [h] at this; exact this
  clear h hm hm'
  go_enter Try.func6, Try.ntmps6
  go_wp2_with fail
  refine HM.out.mono ?_; rintro e w1 ⟨rfl, b1⟩
  go_wp2_with fail
  refine (known3_any _).mono ?_; rintro e w2 ⟨rfl, b2⟩
  go_wp2_with fail
  go_ret
  exact ⟨rfl, below_next b2 b1⟩

set_option maxRecDepth 100000 in
set_option maxHeartbeats 1000000 in
theorem short (a a' : Option Addr) (c c' : Nat) (xs ys : List Key) (w : World) (hk : KRow w (.slice a xs.length c) xs) (hk' : KRow w (.slice a' ys.length c') ys) (hok : ∀ x ∈ xs, KeyOk x) (hok' : ∀ x ∈ ys, KeyOk x) (h : ¬ 300 < xs.length) (h' : ¬ 300 < ys.length) :
    Calls Try.prog 6 #[.slice a xs.length c, .slice a' ys.length c'] w fun e w' => e = .returned (.bool true) ∧ Below w.heap.size w w' := by
  have hn : xs.length ≤ 1048576 := by omega
  have hn' : ys.length ≤ 1048576 := by omega
  have hl : (sortK (xs ++ ys)).length = (xs ++ ys).length := (sortK_perm _).length_eq
  have hlm : (xs ++ ys).length ≤ 1048576 := by rw [List.length_append]; omega
  have hid : ∀ x ∈ xs, (Lit.int .u32 x.2.2).wf = true := fun x hx => (hok x hx).2.2
  have hid' : ∀ x ∈ ys, (Lit.int .u32 x.2.2).wf = true := fun x hx => (hok' x hx).2.2
  have HM : Hid (Calls Try.prog 13 #[.slice a xs.length c, .slice a' ys.length c'] w fun e w' => e = .returned (.bool false) ∧ Below w.heap.size w w') := by
    have := many_any a a' xs.length c ys.length c' w (by omega) (by omega)
    rw [decide_eq_false h, decide_eq_false h'] at this; exact this
  have HC1 : Hid (∀ w1, Below w.heap.size w w1 → Calls Try.prog 14 #[.slice a xs.length c] w1
      fun e w' => ∃ v', e = .returned v' ∧ w'.ownsRow w1.heap.size 24 3 v' xs.length (flatL xs) ∧ Below w1.heap.size w1 w') := fun w1 hb => copied_any _ xs w1 hn (hk.kept hb)
  have HC2 : Hid (∀ w1, Below w.heap.size w w1 → Calls Try.prog 14 #[.slice a' ys.length c'] w1
      fun e w' => ∃ v', e = .returned v' ∧ w'.ownsRow w1.heap.size 24 3 v' ys.length (flatL ys) ∧ Below w1.heap.size w1 w') := fun w1 hb => copied_any _ ys w1 hn' (hk'.kept hb)
  have HR : Hid (∀ w1, Below w.heap.size w w1 → Calls Try.prog 25 #[.slice a xs.length c, .slice a' ys.length c'] w1 fun e w' => ∃ v', e = .returned (.tuple #[v', .int .i64 (mergeE xs ys)]) ∧ KRow w' v' (mergeL xs ys) ∧ Below w1.heap.size w1 w') :=
    fun w1 hb => refMerge_any _ _ xs ys w1 hn hn' hlm (hk.kept hb) (hk'.kept hb)
  have HB : Hid (mergeE xs ys ≠ 0 → ∀ va vb w1, KRow w1 va xs → KRow w1 vb ys → Calls Try.prog 24 #[va, vb] w1 fun e w' => e = .returned (.tuple #[.slice none 0 0, .int .i64 (mergeE xs ys)]) ∧ Below w1.heap.size w1 w') :=
    fun h va vb w1 ha hb => merge_bad va vb xs ys w1 hn hn' hlm hid hid' ha hb h
  have HO : Hid (mergeE xs ys = 0 → ∀ va vb w1, KRow w1 va xs → KRow w1 vb ys → Calls Try.prog 24 #[va, vb] w1 fun e w' => ∃ v', e = .returned (.tuple #[v', .int .i64 0]) ∧ w'.ownsRow w1.heap.size 24 3 v' (xs ++ ys).length (flatL (sortK (xs ++ ys))) ∧ Below w1.heap.size w1 w') :=
    fun h va vb w1 ha hb => merge_ok va vb xs ys w1 hn hn' hlm hid hid' ha hb h
  have HML : Hid (mergeL xs ys = if mergeE xs ys = 0 then sortK (xs ++ ys) else []) := rfl
  have HK := Lib.hid hk
  have HK' := Lib.hid hk'
  have HN := Lib.hid hn
  have HN' := Lib.hid hn'
  have HLM := Lib.hid hlm
  have HL := Lib.hid hl
  clear hk hk' hok hok' h h' hid hid' hn hn' hl
  generalize mergeE xs ys = me at *
  go_enter Try.func6, Try.ntmps6
  go_wp2_with fail
  refine HM.out.mono ?_; rintro e w1 ⟨rfl, b1⟩
  go_wp2_with fail
  refine (HC1.out _ b1).mono ?_; rintro e w2 ⟨x, rfl, hx2, b2⟩
  have B2 := Lib.hid (below_next b2 b1)
  have KX2 := Lib.hid (krow_of_owns hx2)
  clear hx2 b2
  go_wp2_with fail
  refine (HC2.out _ B2.out).mono ?_; rintro e w3 ⟨y, rfl, hy3, b3⟩
  have B3 := Lib.hid (below_next b3 B2.out)
  have KY := Lib.hid (krow_of_owns hy3)
  have KX := Lib.hid (KX2.out.kept b3)
  clear hy3 b3 KX2 B2
  have hSame : Hid (∀ wr, Below w3.heap.size w3 wr → Calls Try.prog 19 #[x, .slice a xs.length c] wr fun e w' => e = .returned (.bool true) ∧ Below wr.heap.size wr w') := fun wr hb => by
    have := same_any x (.slice a xs.length c) xs xs wr HN.out HN.out (KX.out.kept hb) (HK.out.kept (below_next hb B3.out))
    rw [decide_eq_true rfl] at this; exact this
  have hSame' : Hid (∀ wr, Below w3.heap.size w3 wr → Calls Try.prog 19 #[y, .slice a' ys.length c'] wr fun e w' => e = .returned (.bool true) ∧ Below wr.heap.size wr w') := fun wr hb => by
    have := same_any y (.slice a' ys.length c') ys ys wr HN'.out HN'.out (KY.out.kept hb) (HK'.out.kept (below_next hb B3.out))
    rw [decide_eq_true rfl] at this; exact this
  have tme : (me != me) = false := by simp
  by_cases hme : me = 0
  · have HO' := Lib.hid (HO.out hme)
    have E : Hid (mergeL xs ys = sortK (xs ++ ys)) := by rw [HML.out, if_pos hme]; rfl
    subst hme
    rw [E.out] at HR
    clear HO HB HML E
    generalize hzs : xs ++ ys = zs at *
    clear hzs
    generalize hze : sortK zs = ss at *
    clear hze
    generalize hzl : zs.length = zl at *
    clear hzl
    go_wp2_with fail
    refine (HO'.out _ _ _ KX.out KY.out).mono ?_; rintro e w4 ⟨va, rfl, ho4, b4⟩
    have HW4 := Lib.hid ho4
    have KA4 : Hid (KRow w4 va ss) := krow_owned HL.out.symm ho4
    have B4 := Lib.hid (below_next b4 B3.out)
    have b34 := Lib.hid b4
    clear ho4 b4
    go_wp2_with fail
    refine (HR.out _ B4.out).mono ?_; rintro e w5 ⟨vb, rfl, kb5, b5⟩
    have KB5 := Lib.hid kb5
    have KA5 := Lib.hid (KA4.out.kept b5)
    have b35 := Lib.hid (below_next b5 b34.out)
    have HW5 := Lib.hid (owns_below HW4.out b5)
    clear kb5 b5 KA4 b34 HW4
    have HSa : Hid (Calls Try.prog 19 #[va, vb] w5 fun e w' => e = .returned (.bool true) ∧ Below w5.heap.size w5 w') := by
      have := same_any va vb ss ss w5 (by rw [HL.out]; exact HLM.out) (by rw [HL.out]; exact HLM.out) KA5.out KB5.out
      rw [decide_eq_true rfl] at this; exact this
    go_wp2_with fail
    refine HSa.out.mono ?_; rintro e w6 ⟨rfl, b6⟩
    have b36 := Lib.hid (below_next b6 b35.out)
    have HW6 := Lib.hid (owns_below HW5.out b6)
    clear b6 b35 HW5 HSa KA5 KB5
    rcases Nat.eq_zero_or_pos zl with h0 | h0
    · obtain ⟨A, ca, rfl⟩ : ∃ A ca, va = .slice A 0 ca := by
        have := HW6.out
        rw [h0] at this
        obtain ⟨_, ⟨hv, _⟩ | ⟨g, cap, cur, hv, _⟩⟩ := this
        · exact ⟨none, 0, hv⟩
        · exact ⟨_, cap, hv⟩
      clear h0
      go_wp2_with fail
      refine wp_loop_rounds 1 ?_
      rw [rounds_succ]
      go_wp2_with fail
      refine (hSame.out _ b36.out).mono ?_; rintro e w7 ⟨rfl, b7⟩
      have b37 := Lib.hid (below_next b7 b36.out)
      clear b7
      go_wp2_with fail
      refine (hSame'.out _ b37.out).mono ?_; rintro e w8 ⟨rfl, b8⟩
      have b38 := Lib.hid (below_next b8 b37.out)
      clear b8
      go_wp2_with fail
      refine (known3_any _).mono ?_; rintro e w9 ⟨rfl, b9⟩
      go_wp2_with fail
      go_ret
      exact ⟨rfl, below_next b9 (below_next b38.out B3.out)⟩
    · obtain ⟨g, cap, cur, rfl, hg, hcur, hcap, hmax, hsz, _⟩ := owns_pos HW6.out h0
      have HC := Lib.hid hcur
      have HG := Lib.hid hg
      have HSZ := Lib.hid hsz
      have hzl : zl ≤ 1048576 := HLM.out
      unfold maxLen at hmax
      clear hcur hg hsz
      go_wp2_with fail
      go_loopw [11] (fun i wr => ∃ j : Nat, j ≤ zl ∧ i = .int .i64 j ∧ (∃ cur, Blk wr g cur 24 ∧ cur.size = cap * 3) ∧ Below w3.heap.size w3 wr) (fun i _ => zl - (intOf i).toNat)
      case atStart => exact ⟨0, Nat.zero_le _, rfl, ⟨cur, HC.out, HSZ.out⟩, b36.out⟩
      case round =>
        obtain ⟨j, hj, rfl, ⟨cur', hb', hz'⟩, hB⟩ := hrel
        have HB' := Lib.hid hb'
        have HZ' := Lib.hid hz'
        clear hb' hz'
        by_cases hlt : j < zl
        · have hlt' : decide (j < zl) = true := decide_eq_true hlt
          have hlt2 : (j : Int) < zl := by omega
          have f0 := HB'.out.free (j * 3 + 1)
          have c0 := HB'.out.cell (j * 3 + 1)
          rw [Array.getElem?_eq_getElem (by have := HZ'.out; omega)] at c0
          generalize cur'[j * 3 + 1]'(by have := HZ'.out; omega) = old at c0
          go_wp2_with fail
          go_roundw
          case rel => exact ⟨j + 1, hlt, by go_num, ⟨_, HB'.out.set _ _, by have := HZ'.out; simpa using this⟩, hB.setCell HG.out _⟩
          case measure => simp [intOf]; omega
        · obtain rfl : j = zl := by omega
          have hlt' : decide (j < j) = false := decide_eq_false (by omega)
          go_wp2_with fail
          refine (hSame.out _ hB).mono ?_; rintro e w7 ⟨rfl, b7⟩
          have b37 := Lib.hid (below_next b7 hB)
          clear b7
          go_wp2_with fail
          refine (hSame'.out _ b37.out).mono ?_; rintro e w8 ⟨rfl, b8⟩
          have b38 := Lib.hid (below_next b8 b37.out)
          clear b8
          go_wp2_with fail
          refine (known3_any _).mono ?_; rintro e w9 ⟨rfl, b9⟩
          go_wp2_with fail
          go_ret
          exact ⟨rfl, below_next b9 (below_next b38.out B3.out)⟩
  · have HB' := Lib.hid (HB.out hme)
    have E : Hid (mergeL xs ys = []) := by rw [HML.out, if_neg hme]; rfl
    rw [E.out] at HR
    clear HO HB HML E hme HL HLM hlm
    go_wp2_with fail
    refine (HB'.out _ _ _ KX.out KY.out).mono ?_; rintro e w4 ⟨rfl, b4⟩
    have B4 := Lib.hid (below_next b4 B3.out)
    have b34 := Lib.hid b4
    clear b4
    go_wp2_with fail
    refine (HR.out _ B4.out).mono ?_; rintro e w5 ⟨vb, rfl, kb5, b5⟩
    have KB5 := Lib.hid kb5
    have b35 := Lib.hid (below_next b5 b34.out)
    clear kb5 b5 b34
    have HSa : Hid (Calls Try.prog 19 #[.slice none 0 0, vb] w5 fun e w' => e = .returned (.bool true) ∧ Below w5.heap.size w5 w') := by
      have := same_any (.slice none 0 0) vb [] [] w5 (by simp) (by simp) (.inl ⟨rfl, none, 0, rfl, Nat.zero_le _⟩) KB5.out
      rw [decide_eq_true rfl] at this; exact this
    go_wp2_with fail
    refine HSa.out.mono ?_; rintro e w6 ⟨rfl, b6⟩
    have b36 := Lib.hid (below_next b6 b35.out)
    clear b6 b35 HSa KB5
    go_wp2_with fail
    refine wp_loop_rounds 1 ?_
    rw [rounds_succ]
    go_wp2_with fail
    refine (hSame.out _ b36.out).mono ?_; rintro e w7 ⟨rfl, b7⟩
    have b37 := Lib.hid (below_next b7 b36.out)
    clear b7
    go_wp2_with fail
    refine (hSame'.out _ b37.out).mono ?_; rintro e w8 ⟨rfl, b8⟩
    have b38 := Lib.hid (below_next b8 b37.out)
    clear b8
    go_wp2_with fail
    refine (known3_any _).mono ?_; rintro e w9 ⟨rfl, b9⟩
    go_wp2_with fail
    go_ret
    exact ⟨rfl, below_next b9 (below_next b38.out B3.out)⟩

theorem walk (v : Value) (xs : List Key) (v' : Value) (ys : List Key) (w : World) (w0 : KArg w v xs) (w1 : KArg w v' ys) :
    Calls Try.prog 6 #[v, v'] w fun e w' => e = .returned (.bool true) ∧ Below w.heap.size w w' := by
  obtain ⟨hk, ⟨a, c, rfl⟩, hm, hok⟩ := w0
  obtain ⟨hk', ⟨a', c', rfl⟩, hm', hok'⟩ := w1
  cases hb : (decide (300 < xs.length) || decide (300 < ys.length))
  · simp only [Bool.or_eq_false_iff, decide_eq_false_iff_not] at hb
    exact short a a' c c' xs ys w hk hk' hok hok' hb.1 hb.2
  · exact long a a' _ c _ c' w hb hm hm'

set_option maxRecDepth 100000 in
theorem lifted (os : Os) (started : os.Started) (H : Type) (enc : TypeId × Value → H) :
    ReturnsInHanded {} Try.checked os 6 .any (Rows.rankMergesSpec.pre6 enc Try.prog Try.f6 Rows.rankMergesRow.domain false) (Rows.rankMergesSpec.post enc Try.prog Try.f6 false true false false) := by
  refine returnsInHanded_of_change (C := Try.checked) own started (by kernel_rfl) Try.func6
    (ChangeSpec.witness6 (enc := enc) (C := Try.checked) false ⟨#[], #[.slice none 0 0, .slice none 0 0], []⟩ 8 (by kernel_rfl) (by kernel_rfl) (by kernel_rfl) (by kernel_rfl)) ?_
  intro W base args ds gs before hval0 hW _ _
  have hval : ∀ (j : Nat) t v, Try.f6.params[j]? = some t → args[j]? = some v → Value.okWide Try.prog W .any base t v := hval0
  have hW' := hW
  obtain ⟨p, q, hA0, hV, rfl, hfz, hnd⟩ := hW
  have hA : DataW.TrodAll enc Try.prog W 0 (fun _ => true) true Try.f6.params.toList args.toList ds p := hA0
  rw [Try.params6] at hA hval
  obtain ⟨v0, vs0, d0, ds0, p0, q0, hargs, rfl, rfl, h0, r0⟩ := trodAll_cons hA
  obtain ⟨v1, vs1, d1, ds1, p1, q1, rfl, rfl, rfl, h1, r1⟩ := trodAll_cons r0
  obtain ⟨rfl, rfl, rfl⟩ := trodAll_nil r1
  obtain rfl : args = #[v0, v1] := by cases args; simp_all
  obtain ⟨l, w0⟩ := open_keys_arg h0 (okWide_slice Try.underlying28 (hval 0 28 v0 rfl rfl))
  obtain ⟨m, w1⟩ := open_keys_arg h1 (okWide_slice Try.underlying28 (hval 1 28 v1 rfl rfl))
  clear hA0 hval0
  refine (walk v0 l v1 m W w0 w1).mono fun e W' ⟨he, hb⟩ => ?_
  subst he
  exact ⟨_, rfl, law_post (by kernel_rfl) (by kernel_rfl) rfl Try.underlying4 rfl hW' rfl hb⟩

theorem over : Rows.rankMergesRow.holds Try.pinned (OpenSpec.ofChange Rows.rankMergesSpec) :=
  OpenClaim.holds_of_wide 6 Try.f6 rfl rfl rfl rfl rfl rfl rfl ⟨rfl, rfl, rfl, rfl, rfl⟩ rfl rfl rfl rfl rfl (by kernel_rfl) Try.func6 (by kernel_rfl)
    (of_decide_eq_true (by kernel_rfl)) (by unfold Func.isWrapper; first | (rw [if_pos (by decide +kernel)]; kernel_rfl) | (rw [if_neg (by decide +kernel)]; exact ⟨rfl, rfl⟩))
    (fun os started H enc _ => lifted os started H enc)

theorem proved : Rows.RankMergesSaid :=
  over
#print axioms proved
end Go.Proofs.Ytpgiladbljnpcaa.rankMerges
