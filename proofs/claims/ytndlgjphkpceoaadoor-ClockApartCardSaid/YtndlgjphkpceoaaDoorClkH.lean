/-
  gangerref07.Parse: at any text.
-/
import Derived.Test.YtndlgjphkpceoaaDoorClkG
import Derived.Test.YtndlgjphkpceoaaDoorClkR
namespace Go.Proofs.YtndlgjphkpceoaaDoor
open Go Go.RowKit Go.Lib
set_option linter.unusedVariables false

def numAt (ws : List Bs) (k i : Nat) : Nat := if i < k then numD ws i else 0
def nArr (ws : List Bs) (k : Nat) : Array Value := #[.int .i64 (numAt ws k 0), .int .i64 (numAt ws k 1), .int .i64 (numAt ws k 2), .int .i64 (numAt ws k 3)]
theorem nArr_zero (ws : List Bs) : nArr ws 0 = #[.int .i64 0, .int .i64 0, .int .i64 0, .int .i64 0] := rfl
theorem nArr_set (ws : List Bs) (k : Nat) (h : k < 4) : (nArr ws k).setIfInBounds k (.int .i64 (numD ws k)) = nArr ws (k + 1) := by
  have : k = 0 ∨ k = 1 ∨ k = 2 ∨ k = 3 := by omega
  rcases this with rfl | rfl | rfl | rfl <;> simp [nArr, numAt]
theorem numAt_lt (ws : List Bs) (k i : Nat) : numAt ws k i < 1000000 := by
  unfold numAt; split
  · exact numD_lt ws i
  · decide
/-- What Parse comes to, the parts all numbers. -/
theorem parseB_good {s : Bs} (hl : (cutW s).1.length ≤ 4) (h : ∀ i, i < (cutW s).1.length → numW (nthW (cutW s).1 i) ≠ none) :
    parseB s = formB (cutW s).2 ((cutW s).1.map fun w => (numW w).getD 0) := by
  have hm := mapM_all (ws := (cutW s).1) fun w hw => by
    obtain ⟨i, hi, rfl⟩ := List.mem_iff_getElem.1 hw
    have := h i hi
    have e := nthW_get hi
    rw [List.getElem?_eq_getElem hi] at e
    rw [Option.some.inj e]; exact this
  unfold parseB
  rw [if_neg (by omega), hm]
theorem parseB_bad {s : Bs} {i : Nat} (hi : i < (cutW s).1.length) (h : numW (nthW (cutW s).1 i) = none) : parseB s = (0, 60) := by
  unfold parseB
  split
  · rfl
  · rw [mapM_no (List.mem_of_getElem? (nthW_get hi)) h]
theorem parseB_long {s : Bs} (h : 4 < (cutW s).1.length) : parseB s = (0, 60) := by unfold parseB; rw [if_pos h]

theorem part_len (s : Bs) : ∀ i, i < (cutW s).1.length → (nthW (cutW s).1 i).length ≤ s.length := by
  have key : ∀ w ∈ (cutW s).1, w.length ≤ s.length := by
    induction s with
    | nil => intro w hw; simp [cutW] at hw; subst hw; exact Nat.le_refl _
    | cons c s ih =>
      intro w hw
      unfold cutW at hw
      have hne := cut_ne s
      split at hw
      · rcases List.mem_cons.1 hw with rfl | hw
        · simp
        · have := ih w hw; simp; omega
      · cases h : (cutW s).1 with
        | nil => exact absurd h hne
        | cons a l =>
          rw [h] at hw ih
          rcases List.mem_cons.1 hw with rfl | hw
          · have := ih a List.mem_cons_self; simp; omega
          · have := ih w (List.mem_cons_of_mem _ hw); simp; omega
  intro i hi
  exact key _ (List.mem_of_getElem? (nthW_get hi))

def formC (G : Bs) (a b c d : Nat) : Int × Int :=
  match G with
  | [] => endA false (a * 60)
  | [58] => endA (decide (59 < b)) (a * 60 + b)
  | [58, 58] => endA (decide (59 < b) || decide (59 < c)) ((a * 60 + b) * 60 + c)
  | [45] => endA (decide (23 < b)) ((a * 24 + b) * 60 * 60)
  | [45, 58] => endA (decide (59 < c) || decide (23 < b)) (((a * 24 + b) * 60 + c) * 60)
  | [45, 58, 58] => endA (decide (59 < c) || decide (23 < b) || decide (59 < d)) (((a * 24 + b) * 60 + c) * 60 + d)
  | _ => (0, 60)
theorem form_at (ws : List Bs) (G : Bs) (hl : ws.length = G.length + 1) :
    formB G (ws.map fun w => (numW w).getD 0) = formC G (numAt ws ws.length 0) (numAt ws ws.length 1) (numAt ws ws.length 2) (numAt ws ws.length 3) := by
  unfold formC
  split
  · match ws, hl with | [a], _ => rfl
  · match ws, hl with | [a, b], _ => rfl
  · match ws, hl with | [a, b, c], _ => rfl
  · match ws, hl with | [a, b], _ => rfl
  · match ws, hl with | [a, b, c], _ => rfl
  · match ws, hl with | [a, b, c, d], _ => rfl
  · rename_i h0 h1 h2 h3 h4 h5
    exact form_none (fun n hn => by
      have : n = 0 ∨ n = 1 ∨ n = 2 := by omega
      rcases this with rfl | rfl | rfl <;> assumption) (fun n hn => by
      have : n = 0 ∨ n = 1 ∨ n = 2 := by omega
      rcases this with rfl | rfl | rfl <;> assumption)

set_option maxHeartbeats 4000000 in
theorem refParse_any (s : ByteArray) (w : World) (hs : s.size < 4294967281) :
    Calls Tryd.prog 12 #[.string s] w fun e w' => e = .returned (.tuple #[.int .i64 (parseB s.data.toList).1, .int .i64 (parseB s.data.toList).2]) ∧ Below w.heap.size w w' := by
  have HS := Lib.hid (refCut_any s w hs)
  have hlong := Lib.hid (@parseB_long s.data.toList)
  have hbad := Lib.hid (fun i => @parseB_bad s.data.toList i)
  have hgood := Lib.hid (@parseB_good s.data.toList)
  have hlen := Lib.hid (cut_len s.data.toList)
  have hwl : Hid (∀ i, i < (cutW s.data.toList).1.length → (nthW (cutW s.data.toList).1 i).length ≤ s.data.toList.length) := fun i hi => part_len s.data.toList i hi
  rw [show s.data.toList.length = s.size from Array.length_toList] at hwl
  generalize (cutW s.data.toList).1 = ws at *
  generalize (cutW s.data.toList).2 = G at *
  generalize parseB s.data.toList = res at *
  go_enter Tryd.func12, Tryd.ntmps12
  go_wp2_with fail
  refine HS.out.mono ?_
  rintro e w1 ⟨v, rfl, ⟨b, c, rfl, hW⟩, hB⟩
  have HW := Lib.hid hW
  have HB := Lib.hid hB
  clear HS hW hB
  by_cases hl4 : 4 < ws.length
  · have t1 : decide (4 < ws.length) = true := decide_eq_true hl4
    have hr := Lib.hid (hlong.out hl4)
    clear hlong hbad hgood hwl
    go_wp2_with fail
    go_ret2
    exact ⟨by rw [hr.out]; rfl, HB.out⟩
  · have t1 : decide (4 < ws.length) = false := decide_eq_false hl4
    clear hlong
    go_wp2_with fail
    go_loopw [7] (fun i wr => ∃ k : Nat, k ≤ ws.length ∧ i = .int .i64 k ∧ Hid (∀ j, j < k → numW (nthW ws j) ≠ none) ∧ Blk wr w1.heap.size (nArr ws k) 51 ∧ Below w1.heap.size w1 wr)
      (fun i _ => ws.length - (RowKit.intOf i).toNat)
    case atStart => exact ⟨0, Nat.zero_le _, rfl, (fun j hj => absurd hj (Nat.not_lt_zero _)), Blk.new _ _ _, (Below.refl _ _).alloc (Nat.le_refl _) _⟩
    case round =>
      obtain ⟨k, hk, rfl, hn, hb, hB2⟩ := hrel
      by_cases hlt : k < ws.length
      · have t3 : decide (k < ws.length) = true := decide_eq_true hlt
        have t4 : decide ((k : Int) < ws.length) = true := decide_eq_true (by omega)
        have hlt2 : (k : Int) < ws.length := by omega
        have hk4 : (k : Int) < 4 := by omega
        have hwk := hwl.out k hlt
        have HN : Hid (∀ w2, Calls Tryd.prog 21 #[.string ⟨(nthW ws k).toArray⟩] w2 fun e w' => e = .returned (numR (numW (nthW ws k))) ∧ w' = w2) := fun w2 =>
          refNumber_any ⟨(nthW ws k).toArray⟩ w2 (by show (nthW ws k).toArray.size ≤ _; simp; omega)
        have hc1 := cell_next hB2 (HW.out k hlt)
        have hbadk := Lib.hid (hbad.out k hlt)
        have hDk : Hid (∀ n, numW (nthW ws k) = some n → numD ws k = n ∧ n < 1000000) := fun n h => ⟨by unfold numD; rw [h]; rfl, numW_lt h⟩
        have hn1 : Hid (numW (nthW ws k) ≠ none → ∀ j, j < k + 1 → numW (nthW ws j) ≠ none) := fun h j hj => by
          by_cases hjk : j = k
          · subst hjk; exact h
          · exact hn.out j (by omega)
        have HB2 := Lib.hid hB2
        have Hb := Lib.hid hb
        have hset := Lib.hid (nArr_set ws k (by omega))
        have hfz : wr.frozen? ⟨w1.heap.size, k, none⟩ = false := hb.free k
        have hcl : wr.cell? ⟨w1.heap.size, k, none⟩ = some (.int .i64 (numAt ws k k : Nat)) := by
          rw [hb.cell]
          have : k = 0 ∨ k = 1 ∨ k = 2 ∨ k = 3 := by omega
          rcases this with rfl | rfl | rfl | rfl <;> rfl
        clear hwk hbad hgood hwl hB2 hn hb
        go_wp2_with fail
        refine (HN.out _).mono ?_
        rintro e w3 ⟨rfl, hw3⟩
        subst hw3
        cases hq : numW (nthW ws k) with
        | none =>
          have hr := Lib.hid (hbadk.out hq)
          have HBf := Lib.hid (below_next HB2.out HB.out)
          clear hDk hn1 hbadk hq HB2 HB HN
          unfold numR
          go_wp2_with fail
          go_ret2
          exact ⟨by rw [hr.out]; rfl, HBf.out⟩
        | some n =>
          obtain ⟨hd, hn6⟩ := hDk.out n hq
          have hn2 := Lib.hid (hn1.out (by rw [hq]; simp))
          have Hd := Lib.hid hd
          clear hbadk hDk hn1 hq hd HN
          unfold numR
          go_wp2_with fail
          go_roundw
          case rel =>
            refine ⟨k + 1, hlt, by go_num, hn2, ?_, HB2.out.setCell (Nat.le_refl _) _⟩
            have := Hb.out.set k (.int .i64 (n : Int))
            rw [← Hd.out, hset.out] at this
            rw [← Hd.out]
            exact this
          case measure => simp [RowKit.intOf]; omega
      · have hke : k = ws.length := by omega
        have t3 : decide (k < ws.length) = false := decide_eq_false hlt
        have t4 : decide ((k : Int) < ws.length) = false := decide_eq_false (by omega)
        have hr := hgood.out (by omega) (by rw [← hke]; exact hn.out)
        have HR := Lib.hid hr
        have HBf := Lib.hid (below_next hB2 HB.out)
        have Hb := Lib.hid hb
        have hF := form_at ws G hlen.out
        rw [← hke] at hF
        rw [hF] at HR
        have hkG : k = G.length + 1 := by rw [hke]; exact hlen.out
        have c0 := hb.cell 0
        have c1 := hb.cell 1
        have c2 := hb.cell 2
        have c3 := hb.cell 3
        simp only [nArr] at c0 c1 c2 c3
        have l0 := numAt_lt ws k 0
        have l1 := numAt_lt ws k 1
        have l2 := numAt_lt ws k 2
        have l3 := numAt_lt ws k 3
        clear hr hgood hbad hwl hn hB2 hb Hb HB HW hF
        have z2 : Hid (k ≤ 2 → numAt ws k 2 = 0) := fun h => by unfold numAt; rw [if_neg (by omega)]
        have z3 : Hid (k ≤ 3 → numAt ws k 3 = 0) := fun h => by unfold numAt; rw [if_neg (by omega)]
        have HC : ∃ x0 x1 x2 x3, numAt ws k 0 = x0 ∧ numAt ws k 1 = x1 ∧ numAt ws k 2 = x2 ∧ numAt ws k 3 = x3 := ⟨_, _, _, _, rfl, rfl, rfl, rfl⟩
        obtain ⟨x0, x1, x2, x3, e0, e1, e2, e3⟩ := HC
        rw [e0, e1, e2, e3] at HR
        rw [e0] at c0 l0
        rw [e1] at c1 l1
        rw [e2] at c2 l2 z2
        rw [e3] at c3 l3 z3
        clear e0 e1 e2 e3
        by_cases g0 : G = []
        · subst g0
          have HR2 : Hid (res = endA false (x0 * 60)) := HR.out
          clear HR
          go_wp2_with fail
          all_goals
            rename_i hz
            (try simp only [beq_iff_eq, beq_eq_false_iff_ne, ne_eq] at hz)
            go_ret2
            refine ⟨?_, HBf.out⟩
            rw [HR2.out, endA_eq]
            first
              | (rw [if_pos (by simp only [Bool.false_eq_true, false_or]; omega)]; rfl)
              | (rw [if_neg (by simp only [Bool.false_eq_true, false_or]; omega)]; simp)
        by_cases g1 : G = [58]
        · subst g1
          have HR2 : Hid (res = endA (decide (59 < x1)) (x0 * 60 + x1)) := HR.out
          clear HR
          go_wp2_with fail
          all_goals
            rename_i hz
            (try simp only [beq_iff_eq, beq_eq_false_iff_ne, ne_eq] at hz)
            go_ret2
            refine ⟨?_, HBf.out⟩
            rw [HR2.out, endA_eq]
            first
              | (rw [if_pos (by simp only [decide_eq_true_eq]; omega)]; rfl)
              | (rw [if_neg (by simp only [decide_eq_true_eq]; omega)]; simp)
        by_cases g2 : G = [58, 58]
        · subst g2
          have HR2 : Hid (res = endA (decide (59 < x1) || decide (59 < x2)) ((x0 * 60 + x1) * 60 + x2)) := HR.out
          clear HR
          go_wp2_with fail
          all_goals
            rename_i hz
            (try simp only [beq_iff_eq, beq_eq_false_iff_ne, ne_eq] at hz)
            go_ret2
            refine ⟨?_, HBf.out⟩
            rw [HR2.out, endA_eq]
            first
              | (rw [if_pos (by simp only [Bool.or_eq_true, decide_eq_true_eq]; omega)]; rfl)
              | (rw [if_neg (by simp only [Bool.or_eq_true, decide_eq_true_eq]; omega)]; simp)
        by_cases g3 : G = [45]
        · subst g3
          obtain rfl := z2.out (by simp at hkG; omega)
          obtain rfl := z3.out (by simp at hkG; omega)
          have HR2 : Hid (res = endA (decide (23 < x1)) ((x0 * 24 + x1) * 60 * 60)) := HR.out
          clear HR
          go_wp2_with fail
          all_goals
            rename_i hz
            (try simp only [beq_iff_eq, beq_eq_false_iff_ne, ne_eq] at hz)
            go_ret2
            refine ⟨?_, HBf.out⟩
            rw [HR2.out, endA_eq]
            first
              | (rw [if_pos (by simp only [decide_eq_true_eq]; omega)]; rfl)
              | (rw [if_neg (by simp only [decide_eq_true_eq]; omega)]; simp)
        by_cases g4 : G = [45, 58]
        · subst g4
          obtain rfl := z3.out (by simp at hkG; omega)
          have HR2 : Hid (res = endA (decide (59 < x2) || decide (23 < x1)) (((x0 * 24 + x1) * 60 + x2) * 60)) := HR.out
          clear HR
          go_wp2_with fail
          all_goals
            rename_i hz
            (try simp only [beq_iff_eq, beq_eq_false_iff_ne, ne_eq] at hz)
            go_ret2
            refine ⟨?_, HBf.out⟩
            rw [HR2.out, endA_eq]
            first
              | (rw [if_pos (by simp only [Bool.or_eq_true, decide_eq_true_eq]; omega)]; rfl)
              | (rw [if_neg (by simp only [Bool.or_eq_true, decide_eq_true_eq]; omega)]; simp)
        by_cases g5 : G = [45, 58, 58]
        · subst g5
          have HR2 : Hid (res = endA (decide (59 < x2) || decide (23 < x1) || decide (59 < x3)) (((x0 * 24 + x1) * 60 + x2) * 60 + x3)) := HR.out
          clear HR
          go_wp2_with fail
          all_goals
            rename_i hz
            (try simp only [beq_iff_eq, beq_eq_false_iff_ne, ne_eq] at hz)
            go_ret2
            refine ⟨?_, HBf.out⟩
            rw [HR2.out, endA_eq]
            first
              | (rw [if_pos (by simp only [Bool.or_eq_true, decide_eq_true_eq]; omega)]; rfl)
              | (rw [if_neg (by simp only [Bool.or_eq_true, decide_eq_true_eq]; omega)]; simp)
        have HR2 : Hid (res = (0, 60)) := by
          have := HR.out
          unfold formC at this
          unfold Hid
          split at this <;> first | exact this | (exfalso; first | exact g0 rfl | exact g1 rfl | exact g2 rfl | exact g3 rfl | exact g4 rfl | exact g5 rfl)
        have q0 : G.isEmpty = false := by cases G with | nil => exact absurd rfl g0 | cons a l => rfl
        have q1 : (G == [58]) = false := beq_eq_false_iff_ne.2 g1
        have q2 : (G == [58, 58]) = false := beq_eq_false_iff_ne.2 g2
        have q3 : (G == [45]) = false := beq_eq_false_iff_ne.2 g3
        have q4 : (G == [45, 58]) = false := beq_eq_false_iff_ne.2 g4
        have q5 : (G == [45, 58, 58]) = false := beq_eq_false_iff_ne.2 g5
        clear HR g0 g1 g2 g3 g4 g5
        go_wp2_with fail
        go_ret2
        exact ⟨by rw [HR2.out]; rfl, HBf.out⟩
end Go.Proofs.YtndlgjphkpceoaaDoor
