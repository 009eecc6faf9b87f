/-
  gangerref03.Sort, gangerlaw03.copied, many: at any keys.
-/
import Derived.Test.YtpgiladbljnpcaaKeyL
namespace Go.Proofs.Ytpgiladbljnpcaa
open Go.ChangeShapes Go.WideShapes Go.ChangeAt Go.RowKit Go.Lib Go.Sort Go.Maps
set_option linter.unusedVariables false

theorem layK_perm (l : List Key) (k : Key) : (layK l k).Perm (k :: l) := by
  unfold layK
  refine List.perm_middle.trans (List.Perm.cons _ ?_)
  rw [List.takeWhile_append_dropWhile]
theorem mem_takeW {α : Type} {p : α → Bool} {l : List α} : ∀ {x}, x ∈ l.takeWhile p → p x = true := by
  induction l with
  | nil => intro x h; cases h
  | cons a l ih =>
    intro x h
    rw [List.takeWhile_cons] at h
    split at h
    · rcases List.mem_cons.1 h with rfl | h
      · assumption
      · exact ih h
    · cases h
theorem layK_sorted {l : List Key} (k : Key) (h : l.Pairwise fun x y => kLess y x = false) : (layK l k).Pairwise fun x y => kLess y x = false := by
  have hs : l.takeWhile (fun x => kLess x k) ++ l.dropWhile (fun x => kLess x k) = l := List.takeWhile_append_dropWhile
  rw [← hs] at h
  obtain ⟨h1, h2, h3⟩ := List.pairwise_append.1 h
  unfold layK
  have hp : ∀ x ∈ l.takeWhile (fun x => kLess x k), kLess k x = false := fun x hx => less_asymm (mem_takeW (p := fun x => kLess x k) hx)
  have hq : ∀ y ∈ l.dropWhile (fun x => kLess x k), kLess y k = false := by
    cases hd : l.dropWhile (fun x => kLess x k) with
    | nil => intro y hy; cases hy
    | cons x0 r =>
      have e0 : kLess x0 k = false := by
        have := List.head?_dropWhile_not (fun x => kLess x k) l
        rw [hd] at this; simpa using this
      rw [hd] at h2
      intro y hy
      rcases List.mem_cons.1 hy with rfl | hy
      · exact e0
      · exact swoK.ntrans _ _ _ ((List.pairwise_cons.1 h2).1 y hy) e0
  rw [List.pairwise_append]
  refine ⟨h1, List.pairwise_cons.2 ⟨hq, h2⟩, fun x hx y hy => ?_⟩
  rcases List.mem_cons.1 hy with rfl | hy
  · exact hp x hx
  · exact h3 x hx y hy
def insK (xs : List Key) : List Key := xs.foldl layK []
theorem insK_aux (xs : List Key) : ∀ l : List Key, (l.Pairwise fun x y => kLess y x = false) → (xs.foldl layK l).Perm (xs ++ l) ∧ (xs.foldl layK l).Pairwise fun x y => kLess y x = false := by
  induction xs with
  | nil => intro l h; exact ⟨List.Perm.refl _, h⟩
  | cons x xs ih =>
    intro l h
    obtain ⟨h1, h2⟩ := ih (layK l x) (layK_sorted x h)
    refine ⟨h1.trans ?_, h2⟩
    exact ((layK_perm l x).append_left xs).trans (List.perm_middle)
theorem insK_eq (xs : List Key) : insK xs = sortK xs := by
  obtain ⟨h1, h2⟩ := insK_aux xs [] List.Pairwise.nil
  rw [List.append_nil] at h1; exact sortK_eq h1 h2
theorem insK_succ (xs : List Key) (j : Nat) (h : j < xs.length) : insK (xs.take (j + 1)) = layK (insK (xs.take j)) (at_ xs j) := by
  unfold insK
  rw [List.take_add_one, at_get h, List.foldl_append]; rfl
theorem insK_len (xs : List Key) : (insK xs).length = xs.length := by rw [insK_eq]; exact (sortK_perm xs).length_eq

theorem refSort_twice (v : Value) (xs : List Key) (w : World) (hn : xs.length ≤ 1048576) (h : KRow w v xs) (ht : twiceB xs = true) :
    Calls Try.prog 17 #[v] w fun e w' => e = .returned (.tuple #[.slice none 0 0, .int .i64 30]) ∧ Below w.heap.size w w' := by
  have H1 : Hid (Calls Try.prog 37 #[v] w fun e w' => e = .returned (.bool true) ∧ Below w.heap.size w w') := by have := twice_any v xs w hn h; rw [ht] at this; exact this
  clear hn h ht
  go_enter Try.func17, Try.ntmps17
  go_wp2_with fail
  refine H1.out.mono ?_; rintro e w1 ⟨rfl, b1⟩
  go_wp2_with fail
  go_ret2
  exact ⟨rfl, b1⟩
theorem refSort_nil (a : Option Addr) (c : Nat) (w : World) :
    Calls Try.prog 17 #[.slice a 0 c] w fun e w' => e = .returned (.tuple #[.slice none 0 0, .int .i64 0]) ∧ Below w.heap.size w w' := by
  go_enter Try.func17, Try.ntmps17
  go_wp2_with fail
  refine (twice_nil a c _).mono ?_; rintro e w1 ⟨rfl, b1⟩
  go_wp2_with fail
  refine wp_loop_rounds 1 ?_
  rw [rounds_succ]
  go_wp2_with fail
  go_ret2
  exact ⟨rfl, b1⟩
set_option maxHeartbeats 1000000 in
theorem refSort_row (b off c : Nat) (xs : List Key) (w : World) (hn : xs.length ≤ 1048576) (h0 : 0 < xs.length) (hc : KCells w b off xs) (ht : twiceB xs = false) :
    Calls Try.prog 17 #[.slice (some ⟨b, off, none⟩) xs.length c] w
      fun e w' => ∃ v', e = .returned (.tuple #[v', .int .i64 0]) ∧ KRow w' v' (sortK xs) ∧ Below w.heap.size w w' := by
  have H1 : Hid (Calls Try.prog 37 #[.slice (some ⟨b, off, none⟩) xs.length c] w fun e w' => e = .returned (.bool false) ∧ Below w.heap.size w w') := by have := twice_row b off c xs w hn hc; rw [ht] at this; exact this
  have HC := Lib.hid hc
  have HR : Hid (insK (xs.take xs.length) = sortK xs) := by rw [List.take_length]; exact insK_eq xs
  clear hc ht
  generalize sortK xs = res at *
  go_enter Try.func17, Try.ntmps17
  go_wp2_with fail
  refine H1.out.mono ?_; rintro e w1 ⟨rfl, b1⟩
  go_wp2_with fail
  go_loopw [4, 5] (fun o i wr => ∃ j : Nat, j ≤ xs.length ∧ i = .int .i64 j ∧ KRow wr o (insK (xs.take j)) ∧ Below w.heap.size w wr)
    (fun _ i _ => xs.length - (intOf i).toNat)
  case atStart => exact ⟨0, Nat.zero_le _, rfl, .inl ⟨rfl, none, 0, rfl, Nat.zero_le _⟩, b1⟩
  case round =>
    obtain ⟨j, hj, rfl, hk, hB⟩ := hrel
    by_cases hlt : j < xs.length
    · have hlt' : decide (j < xs.length) = true := decide_eq_true hlt
      have hlt2 : (j : Int) < xs.length := by omega
      obtain ⟨c0, c1, c2⟩ := HC.out.at hB hlt
      have hl : (insK (xs.take j)).length = j := by rw [insK_len, List.length_take]; omega
      have HL := Lib.hid (lay_any _ _ (at_ xs j) wr (by omega) hk)
      have HS := Lib.hid (insK_succ xs j hlt)
      rw [hl] at HL
      unfold keyV at HL
      generalize at_ xs j = x at *
      rw [← HS.out] at HL
      clear hk hl
      go_wp2_with fail
      refine HL.out.mono ?_; rintro e w2 ⟨v2, rfl, ho2, b2⟩
      have HK2 : Hid (KRow w2 v2 (insK (xs.take (j + 1)))) := by
        have hl2 : (insK (xs.take (j + 1))).length = j + 1 := by rw [insK_len, List.length_take]; omega
        exact krow_of_owns (by rw [hl2]; exact ho2)
      clear ho2
      go_wp2_with fail
      go_roundw
      case rel => exact ⟨j + 1, hlt, by go_num, HK2.out, below_next b2 hB⟩
      case measure => simp [intOf]; omega
    · obtain rfl : j = xs.length := by omega
      have hlt' : decide (xs.length < xs.length) = false := decide_eq_false (by omega)
      have HK := Lib.hid hk
      rw [HR.out] at HK
      clear hk
      go_wp2_with fail
      go_ret2
      exact ⟨_, rfl, HK.out, hB⟩
theorem refSort_ok (v : Value) (xs : List Key) (w : World) (hn : xs.length ≤ 1048576) (h : KRow w v xs) (ht : twiceB xs = false) :
    Calls Try.prog 17 #[v] w fun e w' => ∃ v', e = .returned (.tuple #[v', .int .i64 0]) ∧ KRow w' v' (sortK xs) ∧ Below w.heap.size w w' := by
  rcases h with ⟨rfl, a, c, rfl, _⟩ | ⟨b, off, c, rfl, h0, h1, h2, hc⟩
  · exact (refSort_nil a c w).mono fun e w' ⟨he, hb⟩ => ⟨_, he, .inl ⟨by simp [sortK], none, 0, rfl, Nat.zero_le _⟩, hb⟩
  · exact refSort_row b off c xs w hn h0 hc ht

theorem many_any (a a' : Option Addr) (n c n' c' : Nat) (w : World) (hn : n ≤ 9223372036854775807) (hn' : n' ≤ 9223372036854775807) :
    Calls Try.prog 13 #[.slice a n c, .slice a' n' c'] w fun e w' => e = .returned (.bool (decide (300 < n) || decide (300 < n'))) ∧ Below w.heap.size w w' := by
  by_cases h : 300 < n
  · have t : decide (300 < n) = true := decide_eq_true h
    have t2 : decide ((n : Int) > 300) = true := decide_eq_true (by omega)
    rw [t]
    clear h hn hn'
    go_enter Try.func13, Try.ntmps13
    go_wp2_with fail
    go_ret
    exact ⟨rfl, Below.refl _ _⟩
  · have t : decide (300 < n) = false := decide_eq_false h
    have t2 : decide ((n : Int) > 300) = false := decide_eq_false (by omega)
    rw [t]
    by_cases h' : 300 < n'
    · have s : decide (300 < n') = true := decide_eq_true h'
      have s2 : decide ((n' : Int) > 300) = true := decide_eq_true (by omega)
      rw [s]
      clear h h' hn hn'
      go_enter Try.func13, Try.ntmps13
      go_wp2_with fail
      go_ret
      exact ⟨rfl, Below.refl _ _⟩
    · have s : decide (300 < n') = false := decide_eq_false h'
      have s2 : decide ((n' : Int) > 300) = false := decide_eq_false (by omega)
      rw [s]
      clear h h' hn hn'
      go_enter Try.func13, Try.ntmps13
      go_wp2_with fail
      go_ret
      exact ⟨rfl, Below.refl _ _⟩

set_option maxRecDepth 100000 in
theorem copied_some (a : Addr) (c : Nat) (xs : List Key) (w : World) (hn : xs.length ≤ 1048576) (hc : ∀ j u, (flatL xs)[j]? = some u → w.cell? (a.add j) = some u) :
    Calls Try.prog 14 #[.slice (some a) xs.length c] w
      fun e w' => ∃ v', e = .returned v' ∧ w'.ownsRow w.heap.size 24 3 v' xs.length (flatL xs) ∧ Below w.heap.size w w' := by
  obtain ⟨i0, hi, hz0, hz1, hz2⟩ := info_parts Try.infoKey
  have HC := Lib.hid hc
  clear hc
  go_enter Try.func14, Try.ntmps14
  go_wp2_with (at_builtin; refine wpList_append_own _ rfl _ _ 28 rfl w.heap.size 24 i0 _ 3 24 Try.underlying28 hi hz0 hz1 hz2 rfl (by decide) _ 0 _ rfl (World.ownsRow_nil _ _ _ _) a xs.length c (flatL xs) rfl (flatL_len xs) HC.out (flatL_one xs) (by unfold maxLen; omega) (by omega) (Nat.le_refl _) ?_; intro v1 w1 hown hgrow hnil)
  go_ret
  rw [Nat.zero_add, List.nil_append] at hown
  exact ⟨v1, rfl, hown, (Below.refl _ w).grown hgrow (Nat.le_refl _) (fun j hj => nomatch (show (none : Option Nat) = some j from hj))⟩
theorem copied_none (c : Nat) (w : World) :
    Calls Try.prog 14 #[.slice none 0 c] w fun e w' => e = .returned (.slice none 0 0) ∧ Below w.heap.size w w' := by
  go_enter Try.func14, Try.ntmps14
  go_wp2_with fail
  go_ret
  exact ⟨rfl, Below.refl _ _⟩
theorem copied_any (v : Value) (xs : List Key) (w : World) (hn : xs.length ≤ 1048576) (h : KRow w v xs) :
    Calls Try.prog 14 #[v] w
      fun e w' => ∃ v', e = .returned v' ∧ w'.ownsRow w.heap.size 24 3 v' xs.length (flatL xs) ∧ Below w.heap.size w w' := by
  rcases h with ⟨rfl, a, c, rfl, _⟩ | ⟨b, off, c, rfl, h0, h1, h2, hc⟩
  · cases a with
    | none => exact (copied_none c w).mono fun e w' ⟨he, hb⟩ => ⟨_, he, World.ownsRow_nil _ _ _ _, hb⟩
    | some a => exact copied_some a c [] w (by simp) (fun j u hj => by simp [flatL] at hj)
  · exact copied_some _ c xs w hn (news_of_row hc)
end Go.Proofs.Ytpgiladbljnpcaa
