/-
  rank.Merge, gangerref03.Merge: at any two rows of keys.
-/
import Derived.Test.YtpgiladbljnpcaaKeyN
namespace Go.Proofs.Ytpgiladbljnpcaa
open Go.ChangeShapes Go.WideShapes Go.ChangeAt Go.RowKit Go.Lib Go.Sort Go.Maps
set_option linter.unusedVariables false

def mergeE (xs ys : List Key) : Int := if checkV xs ≠ 0 then checkV xs else if checkV ys ≠ 0 then checkV ys else if twiceB (xs ++ ys) then 30 else 0
def mergeL (xs ys : List Key) : List Key := if mergeE xs ys = 0 then sortK (xs ++ ys) else []
theorem krow_owned {w : World} {base n : Nat} {v : Value} {xs : List Key} (hn : n = xs.length) (h : w.ownsRow base 24 3 v n (flatL xs)) : KRow w v xs := by subst hn; exact krow_of_owns h

theorem merge_zero {xs ys : List Key} (h : mergeE xs ys = 0) : checkV xs = 0 ∧ checkV ys = 0 ∧ twiceB (xs ++ ys) = false := by
  unfold mergeE at h
  by_cases ha : checkV xs = 0
  · by_cases hb : checkV ys = 0
    · refine ⟨ha, hb, ?_⟩
      cases ht : twiceB (xs ++ ys)
      · rfl
      · simp [ha, hb, ht] at h
    · simp [ha, hb] at h
  · simp [ha] at h

section
variable (va vb : Value) (xs ys : List Key) (w : World) (hn : xs.length ≤ 1048576) (hn' : ys.length ≤ 1048576) (hs : (xs ++ ys).length ≤ 1048576)
  (hid : ∀ x ∈ xs, (Lit.int .u32 x.2.2).wf = true) (hid' : ∀ x ∈ ys, (Lit.int .u32 x.2.2).wf = true) (ha : KRow w va xs) (hb : KRow w vb ys)
include hn hn' hs hid hid' ha hb

set_option maxHeartbeats 1000000 in
theorem merge_bad (h : mergeE xs ys ≠ 0) :
    Calls Try.prog 24 #[va, vb] w fun e w' => e = .returned (.tuple #[.slice none 0 0, .int .i64 (mergeE xs ys)]) ∧ Below w.heap.size w w' := by
  have HA : Hid (Calls Try.prog 15 #[va] w fun e w' => e = .returned (.int .i64 (checkV xs)) ∧ Below w.heap.size w w') := check_any va xs w hn hid ha
  have HB : Hid (∀ w1, Below w.heap.size w w1 → Calls Try.prog 15 #[vb] w1 fun e w' => e = .returned (.int .i64 (checkV ys)) ∧ Below w1.heap.size w1 w') := fun w1 h1 => check_any vb ys w1 hn' hid' (hb.kept h1)
  have HC : Hid (∀ B w1, Below w.heap.size w w1 → Blk w1 B #[va, vb] 28 → Calls Try.prog 43 #[.slice (some ⟨B, 0, none⟩) 2 2] w1
      fun e w' => ∃ v', e = .returned v' ∧ w'.ownsRow w1.heap.size 24 3 v' (xs ++ ys).length (flatL (xs ++ ys)) ∧ Below w1.heap.size w1 w') := fun B w1 h1 hB => concat_any B va vb xs ys _ w1 hn hn' (ha.kept h1) (hb.kept h1) hB
  have HS : Hid (twiceB (xs ++ ys) = true → ∀ v w1, KRow w1 v (xs ++ ys) → Calls Try.prog 16 #[v] w1 fun e w' => e = .returned (.tuple #[.slice none 0 0, .int .i64 30]) ∧ Below w1.heap.size w1 w') :=
    fun ht v w1 hk => sort_twice v _ w1 hs (fun x hx => by rcases List.mem_append.1 hx with h | h; exact hid x h; exact hid' x h) hk ht
  have HO : Hid (∀ base v w1, w1.ownsRow base 24 3 v (xs ++ ys).length (flatL (xs ++ ys)) → KRow w1 v (xs ++ ys)) := fun base v w1 h => krow_of_owns h
  have E : Hid (mergeE xs ys = if checkV xs ≠ 0 then checkV xs else if checkV ys ≠ 0 then checkV ys else if twiceB (xs ++ ys) then 30 else 0) := rfl
  have HNE := Lib.hid h
  obtain ⟨a, c, rfl⟩ := krow_slice ha
  obtain ⟨a', c', rfl⟩ := krow_slice hb
  clear hn hn' hs hid hid' ha hb h
  generalize mergeE xs ys = me at *
  generalize checkV xs = ca at *
  generalize checkV ys = cb at *
  by_cases ha : ca = 0
  · subst ha
    by_cases hb : cb = 0
    · subst hb
      have E2 := E.out
      cases ht : twiceB (xs ++ ys)
      · rw [ht] at E2; exact absurd E2 HNE.out
      · rw [ht] at E2
        obtain rfl : me = 30 := E2
        have HS2 := Lib.hid (HS.out ht)
        clear E HS ht HNE
        generalize xs ++ ys = zs at *
        go_enter Try.func24, Try.ntmps24
        go_wp2_with fail
        refine HA.out.mono ?_; rintro e w1 ⟨rfl, b1⟩
        go_wp2_with fail
        refine (HB.out _ b1).mono ?_; rintro e w2 ⟨rfl, b2⟩
        have B2 := Lib.hid (below_next b2 b1)
        clear b1 b2
        go_wp2_with fail
        refine (HC.out w2.heap.size _ (B2.out.alloc B2.out.size _) (Blk.new _ _ _)).mono ?_; rintro e w3 ⟨v3, rfl, ho3, b3⟩
        have K3 := Lib.hid (HO.out _ _ _ ho3)
        have B3 := Lib.hid (below_next b3 (B2.out.alloc B2.out.size _))
        clear ho3 b3
        go_wp2_with fail
        refine (HS2.out _ _ K3.out).mono ?_; rintro e w4 ⟨rfl, b4⟩
        go_wp2_with fail
        go_ret2
        exact ⟨rfl, below_next b4 B3.out⟩
    · have E2 : me = cb := by have := E.out; simpa [hb] using this
      subst E2
      have t : (me != 0) = true := by simpa using hb
      clear E HS HNE hb HC HO
      go_enter Try.func24, Try.ntmps24
      go_wp2_with fail
      refine HA.out.mono ?_; rintro e w1 ⟨rfl, b1⟩
      go_wp2_with fail
      refine (HB.out _ b1).mono ?_; rintro e w2 ⟨rfl, b2⟩
      go_wp2_with fail
      go_ret2
      exact ⟨rfl, below_next b2 b1⟩
  · have E2 : me = ca := by have := E.out; simpa [ha] using this
    subst E2
    have t : (me != 0) = true := by simpa using ha
    clear E HS HNE ha HC HO HB
    go_enter Try.func24, Try.ntmps24
    go_wp2_with fail
    refine HA.out.mono ?_; rintro e w1 ⟨rfl, b1⟩
    go_wp2_with fail
    go_ret2
    exact ⟨rfl, b1⟩

set_option maxHeartbeats 1000000 in
theorem merge_ok (h : mergeE xs ys = 0) :
    Calls Try.prog 24 #[va, vb] w fun e w' => ∃ v', e = .returned (.tuple #[v', .int .i64 0]) ∧ w'.ownsRow w.heap.size 24 3 v' (xs ++ ys).length (flatL (sortK (xs ++ ys))) ∧ Below w.heap.size w w' := by
  obtain ⟨h1, h2, ht⟩ := merge_zero h
  have HA : Hid (Calls Try.prog 15 #[va] w fun e w' => e = .returned (.int .i64 0) ∧ Below w.heap.size w w') := by have := check_any va xs w hn hid ha; rw [h1] at this; exact this
  have HB : Hid (∀ w1, Below w.heap.size w w1 → Calls Try.prog 15 #[vb] w1 fun e w' => e = .returned (.int .i64 0) ∧ Below w1.heap.size w1 w') := fun w1 hw => by have := check_any vb ys w1 hn' hid' (hb.kept hw); rw [h2] at this; exact this
  have HC : Hid (∀ B w1, Below w.heap.size w w1 → Blk w1 B #[va, vb] 28 → Calls Try.prog 43 #[.slice (some ⟨B, 0, none⟩) 2 2] w1
      fun e w' => ∃ v', e = .returned v' ∧ w'.ownsRow w1.heap.size 24 3 v' (xs ++ ys).length (flatL (xs ++ ys)) ∧ Below w1.heap.size w1 w') := fun B w1 h1 hB => concat_any B va vb xs ys _ w1 hn hn' (ha.kept h1) (hb.kept h1) hB
  have HS : Hid (∀ v w1, KRow w1 v (xs ++ ys) → Calls Try.prog 16 #[v] w1 fun e w' => ∃ v', e = .returned (.tuple #[v', .int .i64 0]) ∧ w'.ownsRow w1.heap.size 24 3 v' (xs ++ ys).length (flatL (sortK (xs ++ ys))) ∧ Below w1.heap.size w1 w') :=
    fun v w1 hk => sort_ok v _ w1 hs (fun x hx => by rcases List.mem_append.1 hx with h | h; exact hid x h; exact hid' x h) hk ht
  have HO : Hid (∀ base v w1, w1.ownsRow base 24 3 v (xs ++ ys).length (flatL (xs ++ ys)) → KRow w1 v (xs ++ ys)) := fun base v w1 h => krow_of_owns h
  obtain ⟨a, c, rfl⟩ := krow_slice ha
  obtain ⟨a', c', rfl⟩ := krow_slice hb
  clear hn hn' hs hid hid' ha hb h h1 h2 ht
  generalize xs ++ ys = zs at *
  go_enter Try.func24, Try.ntmps24
  go_wp2_with fail
  refine HA.out.mono ?_; rintro e w1 ⟨rfl, b1⟩
  go_wp2_with fail
  refine (HB.out _ b1).mono ?_; rintro e w2 ⟨rfl, b2⟩
  have B2 := Lib.hid (below_next b2 b1)
  clear b1 b2
  go_wp2_with fail
  refine (HC.out w2.heap.size _ (B2.out.alloc B2.out.size _) (Blk.new _ _ _)).mono ?_; rintro e w3 ⟨v3, rfl, ho3, b3⟩
  have K3 := Lib.hid (HO.out _ _ _ ho3)
  have B3 := Lib.hid (below_next b3 (B2.out.alloc B2.out.size _))
  clear ho3 b3
  go_wp2_with fail
  refine (HS.out _ _ K3.out).mono ?_; rintro e w4 ⟨v4, rfl, ho4, b4⟩
  have HO4 := Lib.hid ho4
  clear ho4
  go_wp2_with fail
  go_ret2
  exact ⟨v4, rfl, owns_mono HO4.out B3.out.size, below_next b4 B3.out⟩

end
section
variable (va vb : Value) (xs ys : List Key) (w : World) (hn : xs.length ≤ 1048576) (hn' : ys.length ≤ 1048576) (hs : (xs ++ ys).length ≤ 1048576) (ha : KRow w va xs) (hb : KRow w vb ys)
include hn hn' hs ha hb

set_option maxRecDepth 100000 in
set_option maxHeartbeats 1000000 in
theorem refMerge_any :
    Calls Try.prog 25 #[va, vb] w fun e w' => ∃ v', e = .returned (.tuple #[v', .int .i64 (mergeE xs ys)]) ∧ KRow w' v' (mergeL xs ys) ∧ Below w.heap.size w w' := by
  obtain ⟨i0, hi, hz0, hz1, hz2⟩ := info_parts Try.infoKey
  have HA : Hid (Calls Try.prog 18 #[va] w fun e w' => e = .returned (.int .i64 (checkV xs)) ∧ Below w.heap.size w w') := refCheck_any va xs w hn ha
  have HB : Hid (∀ w1, Below w.heap.size w w1 → Calls Try.prog 18 #[vb] w1 fun e w' => e = .returned (.int .i64 (checkV ys)) ∧ Below w1.heap.size w1 w') := fun w1 h1 => refCheck_any vb ys w1 hn' (hb.kept h1)
  have HS : Hid (∀ v w1, KRow w1 v (xs ++ ys) → Calls Try.prog 17 #[v] w1 fun e w' => ∃ v', e = .returned (.tuple #[v', .int .i64 (if twiceB (xs ++ ys) then 30 else 0)]) ∧ KRow w' v' (if twiceB (xs ++ ys) then [] else sortK (xs ++ ys)) ∧ Below w1.heap.size w1 w') := by
    intro v w1 hk
    cases ht : twiceB (xs ++ ys)
    · exact refSort_ok v _ w1 hs hk ht
    · exact (refSort_twice v _ w1 hs hk ht).mono fun e w' ⟨he, hw⟩ => ⟨_, he, .inl ⟨rfl, none, 0, rfl, Nat.zero_le _⟩, hw⟩
  have SA := Lib.hid (src_keys ha)
  have SB := Lib.hid (src_keys hb)
  have H1 : Hid (∀ u ∈ flatL xs, u.oneCell' = true) := flatL_one xs
  have H2 : Hid (∀ u ∈ flatL ys, u.oneCell' = true) := flatL_one ys
  have HO : Hid (∀ base v w1, w1.ownsRow base 24 3 v (xs.length + ys.length) (flatL xs ++ flatL ys) → KRow w1 v (xs ++ ys)) := fun base v w1 h => krow_owned List.length_append.symm (by rw [flatL_append]; exact h)
  have E : Hid (mergeE xs ys = if checkV xs ≠ 0 then checkV xs else if checkV ys ≠ 0 then checkV ys else if twiceB (xs ++ ys) then 30 else 0) := rfl
  have HL : Hid (mergeL xs ys = if mergeE xs ys = 0 then sortK (xs ++ ys) else []) := rfl
  have hnn := hn
  have hmm := hn'
  clear hn hn' hs ha hb
  generalize mergeL xs ys = res at *
  generalize mergeE xs ys = me at *
  generalize checkV xs = ca at *
  generalize checkV ys = cb at *
  generalize flatL xs = fx at *
  generalize flatL ys = fy at *
  generalize xs.length = n at *
  generalize ys.length = m at *
  by_cases ha : ca = 0
  · subst ha
    by_cases hb : cb = 0
    · subst hb
      have E2 : Hid ((if twiceB (xs ++ ys) then (30 : Int) else 0) = me) := by have := E.out; simp at this; exact this.symm
      have E3 : Hid ((if twiceB (xs ++ ys) then [] else sortK (xs ++ ys)) = res) := by
        rw [HL.out]
        have := E2.out
        unfold Hid
        rw [← this]
        cases ht : twiceB (xs ++ ys) <;> simp
      rw [E2.out, E3.out] at HS
      clear E E2 E3
      clear HL
      go_enter Try.func25, Try.ntmps25
      go_wp2_with fail
      refine HA.out.mono ?_; rintro e w1 ⟨rfl, b1⟩
      go_wp2_with fail
      refine (HB.out _ b1).mono ?_; rintro e w2 ⟨rfl, b2⟩
      have B2 := Lib.hid (below_next b2 b1)
      clear b1 b2
      go_wp2_with (first
        | (at_builtin; refine wpList_app rfl _ _ 28 rfl w.heap.size 24 i0 _ 3 24 Try.underlying28 hi hz0 hz1 hz2 rfl (by decide) _ 0 [] rfl (World.ownsRow_nil _ _ _ _) _ n fx rfl (SA.out.kept B2.out) H1.out (by unfold maxLen; omega) (by omega) B2.out.size ?_; intro v3 w3 ho3 hg3 hl3;
           have B3 : Hid (Below w.heap.size w w3) := B2.out.grown hg3 B2.out.size (fun j hj => nomatch (show (none : Option Nat) = some j from hj)))
        | (at_builtin; refine wpList_app rfl _ _ 28 rfl w.heap.size 24 i0 _ 3 24 Try.underlying28 hi hz0 hz1 hz2 rfl (by decide) _ (0 + n) ([] ++ fx) rfl ho3 _ m fy rfl (SB.out.kept B3.out) H2.out (by unfold maxLen; omega) (by omega) B3.out.size ?_; intro v4 w4 ho4 hg4 hl4;
           have B4 : Hid (Below w.heap.size w w4) := B3.out.grown hg4 B3.out.size (fun j hj => (ho3.lt j hj).1);
           have K4 := Lib.hid (HO.out w.heap.size v4 w4 (by rw [Nat.zero_add, List.nil_append] at ho4; exact ho4))))
      refine (HS.out _ _ K4.out).mono ?_; rintro e w5 ⟨v5, rfl, hk5, b5⟩
      have K5 := Lib.hid hk5
      clear hk5
      go_wp2_with fail
      go_ret2
      exact ⟨v5, rfl, K5.out, below_next b5 B4.out⟩
    · have E2 : me = cb := by have := E.out; simpa [hb] using this
      subst E2
      have t : (me != 0) = true := by simpa using hb
      have K0 : Hid (∀ w, KRow w (.slice none 0 0) res) := fun w => by rw [HL.out, if_neg hb]; exact .inl ⟨rfl, none, 0, rfl, Nat.zero_le _⟩
      clear E HS hb HO HL
      go_enter Try.func25, Try.ntmps25
      go_wp2_with fail
      refine HA.out.mono ?_; rintro e w1 ⟨rfl, b1⟩
      go_wp2_with fail
      refine (HB.out _ b1).mono ?_; rintro e w2 ⟨rfl, b2⟩
      go_wp2_with fail
      go_ret2
      exact ⟨_, rfl, K0.out _, below_next b2 b1⟩
  · have E2 : me = ca := by have := E.out; simpa [ha] using this
    subst E2
    have t : (me != 0) = true := by simpa using ha
    have K0 : Hid (∀ w, KRow w (.slice none 0 0) res) := fun w => by rw [HL.out, if_neg ha]; exact .inl ⟨rfl, none, 0, rfl, Nat.zero_le _⟩
    clear E HS ha HO HB HL
    go_enter Try.func25, Try.ntmps25
    go_wp2_with fail
    refine HA.out.mono ?_; rintro e w1 ⟨rfl, b1⟩
    go_wp2_with fail
    go_ret2
    exact ⟨_, rfl, K0.out _, b1⟩
end
end Go.Proofs.Ytpgiladbljnpcaa
