/-
  gangerref20: word, Right, Check, Total, Of: at any charges.
-/
import Derived.Test.YtlafjjdponeeeaaDoorBkF
import Derived.Test.YtlafjjdponeeeaaDoorNmR
import Derived.Test.YtlafjjdponeeeaaDoorNumRef4
namespace Go.Proofs.YtlafjjdponeeeaaDoor
open Go Go.RowKit Go.Lib
set_option linter.unusedVariables false

theorem word_any (how : Int) (w : World) : Calls Tryd.prog 50 #[.int .i64 how] w fun e w' => e = .returned (.string (howS how)) ∧ w' = w := by
  by_cases h0 : how = 0
  · subst h0
    go_enter Tryd.func50, Tryd.ntmps50
    go_wp2_with fail
    go_ret
    exact ⟨rfl, rfl⟩
  by_cases h5 : how = 5
  · subst h5
    go_enter Tryd.func50, Tryd.ntmps50
    go_wp2_with fail
    go_ret
    exact ⟨rfl, rfl⟩
  by_cases h6 : how = 6
  · subst h6
    go_enter Tryd.func50, Tryd.ntmps50
    go_wp2_with fail
    go_ret
    exact ⟨rfl, rfl⟩
  by_cases h7 : how = 7
  · subst h7
    go_enter Tryd.func50, Tryd.ntmps50
    go_wp2_with fail
    go_ret
    exact ⟨rfl, rfl⟩
  by_cases h8 : how = 8
  · subst h8
    go_enter Tryd.func50, Tryd.ntmps50
    go_wp2_with fail
    go_ret
    exact ⟨rfl, rfl⟩
  have e : howS how = ⟨#[]⟩ := by unfold howS howT; rw [if_neg h0, if_neg h5, if_neg h6, if_neg h7, if_neg h8]
  rw [e]
  have t0 : (how == 0) = false := by simpa using h0
  have t5 : (how == 5) = false := by simpa using h5
  have t6 : (how == 6) = false := by simpa using h6
  have t7 : (how == 7) = false := by simpa using h7
  have t8 : (how == 8) = false := by simpa using h8
  clear h0 h5 h6 h7 h8 e
  go_enter Tryd.func50, Tryd.ntmps50
  go_wp2_with fail
  go_ret
  exact ⟨rfl, rfl⟩
theorem howS_empty (how : Int) : (howS how).toList.isEmpty = !(decide (how = 0) || decide (5 ≤ how ∧ how ≤ 8)) := by
  rw [ByteArray.toList_eq]
  by_cases h0 : how = 0
  · subst h0; rfl
  by_cases h5 : how = 5
  · subst h5; rfl
  by_cases h6 : how = 6
  · subst h6; rfl
  by_cases h7 : how = 7
  · subst h7; rfl
  by_cases h8 : how = 8
  · subst h8; rfl
  have e : howS how = ⟨#[]⟩ := by unfold howS howT; rw [if_neg h0, if_neg h5, if_neg h6, if_neg h7, if_neg h8]
  rw [e, decide_eq_false h0, decide_eq_false (by omega)]; rfl
set_option maxRecDepth 100000 in
set_option maxHeartbeats 8000000 in
theorem right_any (c : Chg) (w : World) (hw : ChWf c) :
    Calls Tryd.prog 29 #[chV c] w fun e w' => e = .returned (.bool (okCh c)) ∧ Below w.heap.size w w' := by
  have hb := Blk.new w (chCs c) 24
  have HC := Lib.hid (ch0 (c := c) hb)
  have HW := Lib.hid ((Below.refl w.heap.size w).alloc (Nat.le_refl _) (.cells (chCs c) 24))
  have HN : Hid (∀ w1, Calls Tryd.prog 49 #[.string c.acct] w1 fun e w' => e = .returned (.bool (nameB c.acct)) ∧ w' = w1) := fun w1 => refName_any c.acct w1 hw.acct
  have HD : Hid (∀ w1, Calls Tryd.prog 50 #[.int .i64 c.how] w1 fun e w' => e = .returned (.string (howS c.how)) ∧ w' = w1) := fun w1 => word_any c.how w1
  have he := howS_empty c.how
  have hr : Hid (okCh c = (!(decide (c.id = 0) || !nameB c.acct || decide (c.wk < 1) || decide (1024 < c.wk) || decide (c.sc < 0) || decide (1073741824 < c.sc) || decide (c.ax < 0) || decide (1099511627776 < c.ax)) && !(howS c.how).toList.isEmpty)) := by
    unfold Hid okCh numsB howB
    rw [howS_empty, Bool.eq_iff_iff]
    simp only [Bool.and_eq_true, Bool.or_eq_true, decide_eq_true_eq, Bool.not_eq_true', Bool.or_eq_false_iff, decide_eq_false_iff_not, Bool.not_eq_false', Bool.not_not]
    constructor
    · rintro ⟨⟨⟨h1, h2⟩, h3⟩, h4⟩
      exact ⟨⟨⟨⟨⟨⟨⟨⟨h1, h4⟩, by omega⟩, by omega⟩, by omega⟩, by omega⟩, by omega⟩, by omega⟩, h3⟩
    · rintro ⟨⟨⟨⟨⟨⟨⟨⟨h1, h4⟩, h5⟩, h6⟩, h7⟩, h8⟩, h9⟩, h10⟩, h3⟩
      exact ⟨⟨⟨h1, ⟨⟨by omega, by omega⟩, by omega⟩⟩, h3⟩, h4⟩
  have e1 : (c.id == 0) = decide (c.id = 0) := by rw [Bool.eq_iff_iff]; simp
  obtain ⟨id, acct, wk, sc, how, ax⟩ := c
  dsimp only at *
  generalize okCh _ = R at *
  generalize decide (id = 0) = q1 at *
  generalize nameB acct = q2 at *
  generalize hS : howS how = S at *
  obtain ⟨c0, c1, c2, c3, c4, c5⟩ := HC.out
  clear hb hw HC he hS
  go_enter Tryd.func29, Tryd.ntmps29
  go_upto_region 1 with fail
  generalize hg : w.heap.size = g at *
  have HW2 : Hid (Below g w (w.alloc (.cells #[.int .u32 id, .string acct, .int .i64 wk, .int .i64 sc, .int .i64 how, .int .i64 ax] 24))) := HW.out
  generalize w.alloc (.cells #[.int .u32 id, .string acct, .int .i64 wk, .int .i64 sc, .int .i64 how, .int .i64 ax] 24) = W at *
  go_cut [41] (fun bv wx => bv = .bool (q1 || !q2 || decide (wk < 1) || decide (1024 < wk) || decide (sc < 0) || decide (1073741824 < sc) || decide (ax < 0) || decide (1099511627776 < ax)) ∧ wx = W)
  case first =>
    cases q1
    case true =>
      go_wp2_with fail
      go_meet
      case rel => exact ⟨rfl, rfl⟩
    cases q2
    case false =>
      go_wp2_with fail
      refine (HN.out _).mono ?_; rintro e w1 ⟨rfl, rfl⟩
      go_wp2_with fail
      go_meet
      case rel => exact ⟨rfl, rfl⟩
    case true =>
      go_wp2_with fail
      refine (HN.out _).mono ?_; rintro e w1 ⟨rfl, rfl⟩
      go_wp2_with fail
      all_goals
        go_meet
        case rel => exact ⟨by first | rfl | (simp; done) | (simp; omega) | (rename_i h; simp [h]), rfl⟩
  case rest =>
    obtain ⟨rfl, rfl⟩ := hcut
    generalize (q1 || !q2 || decide (wk < 1) || decide (1024 < wk) || decide (sc < 0) || decide (1073741824 < sc) || decide (ax < 0) || decide (1099511627776 < ax)) = Q at *
    clear e1 HN
    cases Q
    · go_wp2_with fail
      refine (HD.out _).mono ?_; rintro e w1 ⟨rfl, rfl⟩
      go_wp2_with fail
      go_returns
      exact ⟨ret_bl (by rw [hr.out]; simp), by first | exact HW2.out | (rw [hg]; exact HW2.out)⟩
    · go_wp2_with fail
      go_returns
      exact ⟨ret_bl (by rw [hr.out]; rfl), by first | exact HW2.out | (rw [hg]; exact HW2.out)⟩
end Go.Proofs.YtlafjjdponeeeaaDoor
