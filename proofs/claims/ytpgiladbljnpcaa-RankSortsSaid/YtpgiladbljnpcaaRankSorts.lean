/-
  RankSorts: any keys are checked and sorted as gangerref03 says, they stay, and what comes out is its owner's: so the law returns true for every input.
-/
import Derived.Test.YtpgiladbljnpcaaKeyArgs
import Derived.Test.YtpgiladbljnpcaaRows
import Derived.Test.YtpgiladbljnpcaaArgs2
namespace Go.Proofs.Ytpgiladbljnpcaa.rankSorts
open Go.ChangeShapes Go.WideShapes Go.ChangeAt Go.RowKit
set_option linter.unusedVariables false

theorem own : ownKnob Try.prog.godebug = none := by kernel_rfl

open Go.ChangeShapes Go.WideShapes Go.ChangeAt Go.RowKit Go.Lib Go.Sort
attribute [local go_sem ↓] key_eql key_neq key_grd
theorem long (a : Option Addr) (n c : Nat) (w : World) (h : 300 < n) (hm : n ≤ maxLen) :
    Calls Try.prog 4 #[.slice a n c] w fun e w' => e = .returned (.bool true) ∧ Below w.heap.size w w' := by
  have HM : Hid (Calls Try.prog 13 #[.slice a n c, .slice none 0 0] w fun e w' => e = .returned (.bool true) ∧ Below w.heap.size w w') := by
    have := many_any a none n c 0 0 w (by unfold maxLen at hm; omega) (by omega)
    rw [decide_eq_true h] at this; exact this
  clear h hm
  go_enter Try.func4, Try.ntmps4
  go_wp2_with fail
  refine HM.out.mono ?_; rintro e w1 ⟨rfl, b1⟩
  go_wp2_with fail
  refine (known3_any _).mono ?_; rintro e w2 ⟨rfl, b2⟩
  go_wp2_with fail
  go_ret
  exact ⟨rfl, below_next b2 b1⟩

set_option maxRecDepth 100000 in
set_option maxHeartbeats 1000000 in
theorem short (a : Option Addr) (c : Nat) (xs : List Key) (w : World) (hk : KRow w (.slice a xs.length c) xs) (hok : ∀ x ∈ xs, KeyOk x) (h : ¬ 300 < xs.length) :
    Calls Try.prog 4 #[.slice a xs.length c] w fun e w' => e = .returned (.bool true) ∧ Below w.heap.size w w' := by
  have hn : xs.length ≤ 1048576 := by omega
  have hid : ∀ x ∈ xs, (Lit.int .u32 x.2.2).wf = true := fun x hx => (hok x hx).2.2
  have HM : Hid (Calls Try.prog 13 #[.slice a xs.length c, .slice none 0 0] w fun e w' => e = .returned (.bool false) ∧ Below w.heap.size w w') := by
    have := many_any a none xs.length c 0 0 w (by omega) (by omega)
    rw [decide_eq_false h] at this; exact this
  have HCo : Hid (∀ w1, Below w.heap.size w w1 → Calls Try.prog 14 #[.slice a xs.length c] w1
      fun e w' => ∃ v', e = .returned v' ∧ w'.ownsRow w1.heap.size 24 3 v' xs.length (flatL xs) ∧ Below w1.heap.size w1 w') := fun w1 hb => copied_any _ xs w1 hn (hk.kept hb)
  have HCk : Hid (∀ v w1, KRow w1 v xs → Calls Try.prog 15 #[v] w1 fun e w' => e = .returned (.int .i64 (checkV xs)) ∧ Below w1.heap.size w1 w') := fun v w1 hk => check_any v xs w1 hn hid hk
  have HRc : Hid (∀ w1, Below w.heap.size w w1 → Calls Try.prog 18 #[.slice a xs.length c] w1 fun e w' => e = .returned (.int .i64 (checkV xs)) ∧ Below w1.heap.size w1 w') :=
    fun w1 hb => refCheck_any _ xs w1 hn (hk.kept hb)
  have HK := Lib.hid hk
  have HN := Lib.hid hn
  have hl : (sortK xs).length = xs.length := (sortK_perm xs).length_eq
  generalize checkV xs = cv at *
  cases ht : twiceB xs
  · have HS : Hid (∀ v w1, KRow w1 v xs → Calls Try.prog 16 #[v] w1 fun e w' => ∃ v', e = .returned (.tuple #[v', .int .i64 0]) ∧ w'.ownsRow w1.heap.size 24 3 v' xs.length (flatL (sortK xs)) ∧ Below w1.heap.size w1 w') :=
      fun v w1 hk => sort_ok v xs w1 hn hid hk ht
    have HR : Hid (∀ w1, Below w.heap.size w w1 → Calls Try.prog 17 #[.slice a xs.length c] w1 fun e w' => ∃ v', e = .returned (.tuple #[v', .int .i64 0]) ∧ KRow w' v' (sortK xs) ∧ Below w1.heap.size w1 w') :=
      fun w1 hb => refSort_ok _ xs w1 hn (hk.kept hb) ht
    clear hk hok h hid ht hn
    go_enter Try.func4, Try.ntmps4
    go_wp2_with fail
    refine HM.out.mono ?_; rintro e w1 ⟨rfl, b1⟩
    go_wp2_with fail
    refine (HCo.out _ b1).mono ?_; rintro e w2 ⟨x, rfl, hx2, b2⟩
    have B2 := Lib.hid (below_next b2 b1)
    have KX := Lib.hid (krow_of_owns hx2)
    clear hx2 b2
    go_wp2_with fail
    refine (HCk.out _ _ KX.out).mono ?_; rintro e w3 ⟨rfl, b3⟩
    have B3 := Lib.hid (below_next b3 B2.out)
    go_wp2_with fail
    refine (HS.out _ _ (KX.out.kept b3)).mono ?_; rintro e w4 ⟨va, rfl, ho4, b4⟩
    have HO := Lib.hid ho4
    have KA : Hid (KRow w4 va (sortK xs)) := krow_of_owns (by rw [hl]; exact ho4)
    have B4 := Lib.hid (below_next b4 B3.out)
    have b34 := Lib.hid b4
    clear ho4 b4
    go_wp2_with fail
    refine (HR.out _ B4.out).mono ?_; rintro e w5 ⟨vb, rfl, kb5, b5⟩
    have KB := Lib.hid kb5
    have KA5 := Lib.hid (KA.out.kept b5)
    have B5 := Lib.hid (below_next b5 B4.out)
    have b35 := Lib.hid (below_next b5 b34.out)
    have HO5 := Lib.hid (owns_below HO.out b5)
    clear kb5 KA B4 b34 HO b5
    go_wp2_with fail
    refine (HRc.out _ B5.out).mono ?_; rintro e w6 ⟨rfl, b6⟩
    have KB6 := Lib.hid (KB.out.kept b6)
    have KA6 := Lib.hid (KA5.out.kept b6)
    have b36 := Lib.hid (below_next b6 b35.out)
    have HO6 := Lib.hid (owns_below HO5.out b6)
    clear KB KA5 b35 HO5 b6
    have HSa : Hid (Calls Try.prog 19 #[va, vb] w6 fun e w' => e = .returned (.bool true) ∧ Below w6.heap.size w6 w') := by
      have := same_any va vb (sortK xs) (sortK xs) w6 (by rw [hl]; exact HN.out) (by rw [hl]; exact HN.out) KA6.out KB6.out
      rw [decide_eq_true rfl] at this; exact this
    have tcv : (cv != cv) = false := by simp
    go_wp2_with fail
    refine HSa.out.mono ?_; rintro e w7 ⟨rfl, b7⟩
    have b37 := Lib.hid (below_next b7 b36.out)
    have HO7 := Lib.hid (owns_below HO6.out b7)
    clear KB6 KA6 b36 HO6 b7 HSa
    have hSame : Hid (∀ wr, Below w3.heap.size w3 wr → Calls Try.prog 19 #[x, .slice a xs.length c] wr fun e w' => e = .returned (.bool true) ∧ Below wr.heap.size wr w') := fun wr hb => by
      have := same_any x (.slice a xs.length c) xs xs wr HN.out HN.out ((KX.out.kept b3).kept hb) (HK.out.kept (below_next hb B3.out))
      rw [decide_eq_true rfl] at this; exact this
    have hs3 : w3.heap.size ≤ w7.heap.size := b37.out.size
    rcases Nat.eq_zero_or_pos xs.length with h0 | h0
    · obtain ⟨A, ca, rfl⟩ : ∃ A ca, va = .slice A 0 ca := by
        have := HO7.out
        rw [h0] at this
        obtain ⟨_, ⟨hv, _⟩ | ⟨g, cap, cur, hv, _⟩⟩ := this
        · exact ⟨none, 0, hv⟩
        · exact ⟨_, cap, hv⟩
      clear h0
      go_wp2_with fail
      refine wp_loop_rounds 1 ?_
      rw [rounds_succ]
      go_wp2_with fail
      refine (hSame.out _ b37.out).mono ?_; rintro e w8 ⟨rfl, b8⟩
      go_wp2_with fail
      refine (known3_any _).mono ?_; rintro e w9 ⟨rfl, b9⟩
      go_wp2_with fail
      go_ret
      exact ⟨rfl, below_next b9 (below_next b8 (below_next b37.out B3.out))⟩
    · obtain ⟨g, cap, cur, rfl, hg, hcur, hcap, hmax, hsz, _⟩ := owns_pos HO7.out h0
      have HC := Lib.hid hcur
      have HG := Lib.hid hg
      have HSZ := Lib.hid hsz
      unfold maxLen at hmax
      clear hcur hg hsz
      go_wp2_with fail
      go_loopw [9] (fun i wr => ∃ j : Nat, j ≤ xs.length ∧ i = .int .i64 j ∧ (∃ cur, Blk wr g cur 24 ∧ cur.size = cap * 3) ∧ Below w3.heap.size w3 wr) (fun i _ => xs.length - (intOf i).toNat)
      case atStart => exact ⟨0, Nat.zero_le _, rfl, ⟨cur, HC.out, HSZ.out⟩, b37.out⟩
      case round =>
        obtain ⟨j, hj, rfl, ⟨cur', hb', hz'⟩, hB⟩ := hrel
        have HB' := Lib.hid hb'
        have HZ' := Lib.hid hz'
        clear hb' hz'
        by_cases hlt : j < xs.length
        · have hlt' : decide (j < xs.length) = true := decide_eq_true hlt
          have hlt2 : (j : Int) < xs.length := by omega
          have f0 := HB'.out.free (j * 3 + 2)
          have c0 := HB'.out.cell (j * 3 + 2)
          rw [Array.getElem?_eq_getElem (by have := HZ'.out; omega)] at c0
          generalize cur'[j * 3 + 2]'(by have := HZ'.out; omega) = old at c0
          go_wp2_with fail
          go_roundw
          case rel => exact ⟨j + 1, hlt, by go_num, ⟨_, HB'.out.set _ _, by have := HZ'.out; simpa using this⟩, hB.setCell HG.out _⟩
          case measure => simp [intOf]; omega
        · obtain rfl : j = xs.length := by omega
          have hlt' : decide (xs.length < xs.length) = false := decide_eq_false (by omega)
          go_wp2_with fail
          refine (hSame.out _ hB).mono ?_; rintro e w8 ⟨rfl, b8⟩
          go_wp2_with fail
          refine (known3_any _).mono ?_; rintro e w9 ⟨rfl, b9⟩
          go_wp2_with fail
          go_ret
          exact ⟨rfl, below_next b9 (below_next b8 (below_next hB B3.out))⟩
  · have HS : Hid (∀ v w1, KRow w1 v xs → Calls Try.prog 16 #[v] w1 fun e w' => e = .returned (.tuple #[.slice none 0 0, .int .i64 30]) ∧ Below w1.heap.size w1 w') :=
      fun v w1 hk => sort_twice v xs w1 hn hid hk ht
    have HR : Hid (∀ w1, Below w.heap.size w w1 → Calls Try.prog 17 #[.slice a xs.length c] w1 fun e w' => e = .returned (.tuple #[.slice none 0 0, .int .i64 30]) ∧ Below w1.heap.size w1 w') :=
      fun w1 hb => refSort_twice _ xs w1 hn (hk.kept hb) ht
    clear hk hok h hid ht hn hl
    go_enter Try.func4, Try.ntmps4
    go_wp2_with fail
    refine HM.out.mono ?_; rintro e w1 ⟨rfl, b1⟩
    go_wp2_with fail
    refine (HCo.out _ b1).mono ?_; rintro e w2 ⟨x, rfl, hx2, b2⟩
    have B2 := Lib.hid (below_next b2 b1)
    have KX := Lib.hid (krow_of_owns hx2)
    clear hx2 b2
    go_wp2_with fail
    refine (HCk.out _ _ KX.out).mono ?_; rintro e w3 ⟨rfl, b3⟩
    have B3 := Lib.hid (below_next b3 B2.out)
    go_wp2_with fail
    refine (HS.out _ _ (KX.out.kept b3)).mono ?_; rintro e w4 ⟨rfl, b4⟩
    have B4 := Lib.hid (below_next b4 B3.out)
    have b34 := Lib.hid b4
    clear b4
    go_wp2_with fail
    refine (HR.out _ B4.out).mono ?_; rintro e w5 ⟨rfl, b5⟩
    have B5 := Lib.hid (below_next b5 B4.out)
    have b35 := Lib.hid (below_next b5 b34.out)
    clear B4 b34 b5
    go_wp2_with fail
    refine (HRc.out _ B5.out).mono ?_; rintro e w6 ⟨rfl, b6⟩
    have b36 := Lib.hid (below_next b6 b35.out)
    clear b35 b6
    have tcv : (cv != cv) = false := by simp
    go_wp2_with fail
    refine (same_nil none none 0 0 _).mono ?_; rintro e w7 ⟨rfl, b7⟩
    have b37 := Lib.hid (below_next b7 b36.out)
    clear b36 b7
    have hSame : Hid (Calls Try.prog 19 #[x, .slice a xs.length c] w7 fun e w' => e = .returned (.bool true) ∧ Below w7.heap.size w7 w') := by
      have := same_any x (.slice a xs.length c) xs xs w7 HN.out HN.out ((KX.out.kept b3).kept b37.out) (HK.out.kept (below_next b37.out B3.out))
      rw [decide_eq_true rfl] at this; exact this
    go_wp2_with fail
    refine wp_loop_rounds 1 ?_
    rw [rounds_succ]
    go_wp2_with fail
    refine hSame.out.mono ?_; rintro e w8 ⟨rfl, b8⟩
    go_wp2_with fail
    refine (known3_any _).mono ?_; rintro e w9 ⟨rfl, b9⟩
    go_wp2_with fail
    go_ret
    exact ⟨rfl, below_next b9 (below_next b8 (below_next b37.out B3.out))⟩

theorem walk (v : Value) (xs : List Key) (w : World) (w0 : KArg w v xs) :
    Calls Try.prog 4 #[v] w fun e w' => e = .returned (.bool true) ∧ Below w.heap.size w w' := by
  obtain ⟨hk, ⟨a, c, rfl⟩, hm, hok⟩ := w0
  by_cases h : 300 < xs.length
  · exact long a _ c w h hm
  · exact short a c xs w hk hok h

set_option maxRecDepth 100000 in
theorem lifted (os : Os) (started : os.Started) (H : Type) (enc : TypeId × Value → H) :
    ReturnsInHanded {} Try.checked os 4 .any (Rows.rankSortsSpec.pre6 enc Try.prog Try.f4 Rows.rankSortsRow.domain false) (Rows.rankSortsSpec.post enc Try.prog Try.f4 false true false false) := by
  refine returnsInHanded_of_change (C := Try.checked) own started (by kernel_rfl) Try.func4
    (ChangeSpec.witness6 (enc := enc) (C := Try.checked) false ⟨#[], #[.slice none 0 0], []⟩ 8 (by kernel_rfl) (by kernel_rfl) (by kernel_rfl) (by kernel_rfl)) ?_
  intro W base args ds gs before hval0 hW _ _
  have hval : ∀ (j : Nat) t v, Try.f4.params[j]? = some t → args[j]? = some v → Value.okWide Try.prog W .any base t v := hval0
  have hW' := hW
  obtain ⟨p, q, hA0, hV, rfl, hfz, hnd⟩ := hW
  have hA : DataW.TrodAll enc Try.prog W 0 (fun _ => true) true Try.f4.params.toList args.toList ds p := hA0
  rw [Try.params4] at hA hval
  obtain ⟨v0, vs0, d0, ds0, p0, q0, hargs, rfl, rfl, h0, r0⟩ := trodAll_cons hA
  obtain ⟨rfl, rfl, rfl⟩ := trodAll_nil r0
  obtain rfl : args = #[v0] := by cases args; simp_all
  obtain ⟨l, w0⟩ := open_keys_arg h0 (okWide_slice Try.underlying28 (hval 0 28 v0 rfl rfl))
  clear hA0 hval0
  refine (walk v0 l W w0).mono fun e W' ⟨he, hb⟩ => ?_
  subst he
  exact ⟨_, rfl, law_post (by kernel_rfl) (by kernel_rfl) rfl Try.underlying4 rfl hW' rfl hb⟩

theorem over : Rows.rankSortsRow.holds Try.pinned (OpenSpec.ofChange Rows.rankSortsSpec) :=
  OpenClaim.holds_of_wide 4 Try.f4 rfl rfl rfl rfl rfl rfl rfl ⟨rfl, rfl, rfl, rfl, rfl⟩ rfl rfl rfl rfl rfl (by kernel_rfl) Try.func4 (by kernel_rfl)
    (of_decide_eq_true (by kernel_rfl)) (by unfold Func.isWrapper; first | (rw [if_pos (by decide +kernel)]; kernel_rfl) | (rw [if_neg (by decide +kernel)]; exact ⟨rfl, rfl⟩))
    (fun os started H enc _ => lifted os started H enc)

theorem proved : Rows.RankSortsSaid :=
  over
#print axioms proved
end Go.Proofs.Ytpgiladbljnpcaa.rankSorts
