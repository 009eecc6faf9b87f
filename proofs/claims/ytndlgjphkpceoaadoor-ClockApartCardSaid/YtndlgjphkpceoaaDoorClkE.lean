/-
  clock.split and clock.Parse: at any text.
-/
import Derived.Test.YtndlgjphkpceoaaDoorClkD
import Derived.Test.YtndlgjphkpceoaaDoorClkQ
namespace Go.Proofs.YtndlgjphkpceoaaDoor
open Go Go.RowKit Go.Lib
set_option linter.unusedVariables false

/-- v is read as a row of these texts. -/
def WordsR (w : World) (v : Value) (ws : List Bs) : Prop := ∃ b c, v = .slice (some ⟨b, 0, none⟩) ws.length c ∧ ∀ i, i < ws.length → w.cell? ⟨b, i, none⟩ = some (.string ⟨(nthW ws i).toArray⟩)
def UnitsR (w : World) (v : Value) (us : List (Nat × Nat)) : Prop := ∃ b o, v = .slice (some ⟨b, o, none⟩) us.length us.length ∧ ∀ i, i < us.length → w.cell? ⟨b, o + i * 2, none⟩ = some (.int .i64 (nthU us i).1) ∧ w.cell? ⟨b, o + i * 2 + 1, none⟩ = some (.int .i64 (nthU us i).2)
theorem words_of {w : World} {b c n : Nat} {arr : Array Value} {t : TypeId} {ws : List Bs} (hn : n = ws.length) (hb : Blk w b arr t) (ht : arr.toList.take n = strs ws) : WordsR w (.slice (some ⟨b, 0, none⟩) n c) ws := by
  subst hn
  refine ⟨b, c, rfl, fun i hi => ?_⟩
  rw [hb.cell, ← Array.getElem?_toList]
  have : (arr.toList.take ws.length)[i]? = arr.toList[i]? := by rw [List.getElem?_take, if_pos hi]
  rw [← this, ht]
  unfold strs
  rw [List.getElem?_map, nthW_get hi]; rfl
theorem units_of {w : World} {b o k : Nat} {t : TypeId} (hb : Blk w b unitCells t) (ho : o = 0 ∧ k = 4 ∨ o = 2 ∧ k = 3 ∨ o = 4 ∧ k = 2) : UnitsR w (.slice (some ⟨b, o, none⟩) k k) (unitsA.drop (4 - k)) := by
  rcases ho with ⟨rfl, rfl⟩ | ⟨rfl, rfl⟩ | ⟨rfl, rfl⟩
  · refine ⟨b, 0, rfl, fun i hi => ?_⟩
    have : i = 0 ∨ i = 1 ∨ i = 2 ∨ i = 3 := by have : i < 4 := hi; omega
    rcases this with rfl | rfl | rfl | rfl <;> exact ⟨hb.cell _, hb.cell _⟩
  · refine ⟨b, 2, rfl, fun i hi => ?_⟩
    have : i = 0 ∨ i = 1 ∨ i = 2 := by have : i < 3 := hi; omega
    rcases this with rfl | rfl | rfl <;> exact ⟨hb.cell _, hb.cell _⟩
  · refine ⟨b, 4, rfl, fun i hi => ?_⟩
    have : i = 0 ∨ i = 1 := by have : i < 2 := hi; omega
    rcases this with rfl | rfl <;> exact ⟨hb.cell _, hb.cell _⟩
/-- clock.split: at any text. -/
theorem split_any (s : ByteArray) (m : Int) (w : World) (hs : s.size < 4294967281) (hm : w.cell? ⟨0, 0, none⟩ = some (.int .i64 m)) :
    Calls Tryd.prog 18 #[.string s] w fun e w' => ∃ v u, e = .returned (.tuple #[v, u]) ∧ WordsR w' v (wordsA s.data.toList).1 ∧ UnitsR w' u (wordsA s.data.toList).2 ∧ Below w.heap.size w w' := by
  cases hc : cut1 45 s.data.toList with
  | none =>
    refine (split_plain s m w hs hm hc).mono ?_
    rintro e w' ⟨v, rfl, ⟨b, c, arr, rfl, _, _, hb, ht⟩, hU, hB⟩
    refine ⟨_, _, rfl, ?_, ?_, hB⟩
    · have : (wordsA s.data.toList).1 = splitK 58 3 s.data.toList := by unfold wordsA; rw [hc]; simp only; split <;> rfl
      rw [this]; exact words_of rfl hb ht
    · unfold wordsA
      rw [hc]
      simp only
      split
      · exact units_of (k := 2) hU (.inr (.inr ⟨rfl, rfl⟩))
      · exact units_of (k := 3) hU (.inr (.inl ⟨rfl, rfl⟩))
  | some p =>
    obtain ⟨d, r⟩ := p
    refine (split_days s d r m w hs hm hc).mono ?_
    rintro e w' ⟨v, rfl, ⟨b, c, rfl, hown⟩, hU, hB⟩
    have hp : wordsA s.data.toList = (d :: splitK 58 3 r, unitsA) := by unfold wordsA; rw [hc]
    refine ⟨_, _, rfl, ?_, ?_, hB⟩
    · rw [hp]
      obtain ⟨_, ⟨h1, _⟩ | ⟨g, cap, cur, h1, _, hg, _, _, _, ht⟩⟩ := hown
      · cases h1
      · obtain ⟨⟨rfl, _⟩, rfl⟩ : (b = g ∧ True) ∧ c = cap := by simpa using h1
        exact words_of (by simp; omega) hg (by rw [Nat.mul_one] at ht; exact ht)
    · rw [hp]; exact units_of (k := 4) hU (.inl ⟨rfl, rfl⟩)

theorem endA_eq (g : Bool) (t : Nat) : endA g t = if g = true ∨ t = 0 ∨ 1073741824 < t then (0, 2) else ((t : Int), 0) := rfl
set_option maxHeartbeats 2000000 in
/-- clock.Parse: at any text. -/
theorem parse_any (s : ByteArray) (m : Int) (w : World) (hs : s.size < 4294967281) (hm : w.cell? ⟨0, 0, none⟩ = some (.int .i64 m)) :
    Calls Tryd.prog 11 #[.string s] w fun e w' => e = .returned (.tuple #[.int .i64 (parseA s.data.toList).1, .int .i64 (parseA s.data.toList).2]) ∧ Below w.heap.size w w' := by
  have HS := Lib.hid (split_any s m w hs hm)
  have hlong := Lib.hid (@parse_long s.data.toList)
  have hbad := Lib.hid (fun i => @parse_bad s.data.toList i)
  have hwl := Lib.hid (fun i h => word_len s.data.toList i h)
  have hsl : s.data.toList.length = s.size := Array.length_toList
  have hgood := Lib.hid (@parse_good s.data.toList)
  have hu := words_units s.data.toList
  have hp := words_pos s.data.toList
  have hl5 := words_le s.data.toList
  rw [hsl] at hwl
  clear hm hsl
  generalize (wordsA s.data.toList).1 = ws at *
  generalize (wordsA s.data.toList).2 = us at *
  generalize parseA s.data.toList = res at *
  go_enter Tryd.func11, Tryd.ntmps11
  go_wp2_with fail
  refine HS.out.mono ?_
  rintro e w1 ⟨v, u, rfl, ⟨b, c, rfl, hW⟩, ⟨ub, uo, rfl, hU⟩, hB⟩
  clear HS
  have HU := Lib.hid hu
  have HW := Lib.hid hW
  have HUc := Lib.hid hU
  clear hW hU hu
  by_cases hlen : us.length < ws.length
  · have t1 : decide (us.length < ws.length) = true := decide_eq_true hlen
    have t2 : decide ((ws.length : Int) > us.length) = true := decide_eq_true (by omega)
    have hr := Lib.hid (hlong.out hlen)
    clear hlong hbad hgood
    go_wp2_with fail
    go_ret2
    exact ⟨by rw [hr.out]; rfl, hB⟩
  · have t1 : decide (us.length < ws.length) = false := decide_eq_false hlen
    have t2 : decide ((ws.length : Int) > us.length) = false := decide_eq_false (by omega)
    go_wp2_with fail
    go_loopw [6, 7, 24] (fun t g i wr => ∃ k : Nat, k ≤ ws.length ∧ i = .int .i64 k ∧ t = .int .i64 (totN ws us k : Nat) ∧ g = .bool (grN ws us k) ∧ Hid (∀ j, j < k → numW (nthW ws j) ≠ none) ∧ Below w1.heap.size w1 wr)
      (fun _ _ i _ => ws.length - (RowKit.intOf i).toNat)
    case atStart => exact ⟨0, Nat.zero_le _, rfl, rfl, rfl, (fun j hj => absurd hj (Nat.not_lt_zero _)), Below.refl _ _⟩
    case round =>
      obtain ⟨k, hk, rfl, rfl, rfl, hn, hB2⟩ := hrel
      by_cases hlt : k < ws.length
      · have t3 : decide (k < ws.length) = true := decide_eq_true hlt
        have t4 : decide ((k : Int) < ws.length) = true := decide_eq_true (by omega)
        have hlt2 : (k : Int) < ws.length := by omega
        have hlu : (k : Int) < us.length := by omega
        have hwk := hwl.out k hlt
        have HN : Hid (∀ w2, Calls Tryd.prog 19 #[.string ⟨(nthW ws k).toArray⟩, .int .i64 6] w2 fun e w' => e = .returned (numR (numW (nthW ws k))) ∧ Below w2.heap.size w2 w') := fun w2 =>
          number_any ⟨(nthW ws k).toArray⟩ 6 w2 (by show (nthW ws k).toArray.size ≤ _; simp; omega) (by omega)
        have hc1 := cell_next hB2 (HW.out k hlt)
        have hu1 := cell_next hB2 (HUc.out k (by omega)).1
        have hu2 := cell_next hB2 (HUc.out k (by omega)).2
        have hub := unit_bd us HU.out k (by omega)
        have htl := totN_le ws us HU.out k (by omega)
        have hbadk := Lib.hid (hbad.out k hlt)
        have hDk : Hid (∀ n, numW (nthW ws k) = some n → numD ws k = n ∧ n < 1000000) := fun n h => ⟨by unfold numD; rw [h]; rfl, numW_lt h⟩
        have hT : Hid (totN ws us (k + 1) = totN ws us k + numD ws k * (nthU us k).1) := rfl
        have hG : Hid (grN ws us (k + 1) = (grN ws us k || (decide (0 < k) && decide ((nthU us k).2 < numD ws k)))) := rfl
        have hn1 : Hid (numW (nthW ws k) ≠ none → ∀ j, j < k + 1 → numW (nthW ws j) ≠ none) := fun h j hj => by
          by_cases hjk : j = k
          · subst hjk; exact h
          · exact hn.out j (by omega)
        have HB2 := Lib.hid hB2
        have hT' : totN ws us (k + 1) ≤ 5 * 86400000000 := Nat.le_trans (totN_le ws us HU.out (k + 1) (by omega)) (by omega)
        clear hwk hlong hbad hgood hwl hB2 hn
        go_wp2_with fail
        refine (HN.out _).mono ?_
        rintro e w3 ⟨rfl, b3⟩
        have hu1' := cell_next b3 hu1
        have hu2' := cell_next b3 hu2
        have HB3 := Lib.hid (below_next b3 HB2.out)
        clear HN hc1 hu1 hu2 b3 HB2
        cases hq : numW (nthW ws k) with
        | none =>
          have hr := Lib.hid (hbadk.out hq)
          have HB := Lib.hid (below_next HB3.out hB)
          clear hDk hT hG hn1 hbadk hq hB HB3
          unfold numR
          go_wp2_with fail
          go_ret2
          exact ⟨by rw [hr.out]; rfl, HB.out⟩
        | some n =>
          obtain ⟨hd, hn6⟩ := hDk.out n hq
          have hn2 := Lib.hid (hn1.out (by rw [hq]; simp))
          rw [hd] at hT hG
          clear hbadk hDk hn1 hq hd
          have HTe := Lib.hid hT.out
          have HGe := Lib.hid hG.out
          have hTb : ((totN ws us k : Nat) : Int) + (n : Int) * ((nthU us k).1 : Int) ≤ 432000000000 := by
            have := hT.out; omega
          have hPb : (n : Int) * ((nthU us k).1 : Int) ≤ 86400000000 := by
            have := Nat.mul_le_mul (Nat.le_of_lt hn6) hub.1
            omega
          have hP0 : 0 ≤ (n : Int) * ((nthU us k).1 : Int) := by
            have := Nat.zero_le (n * (nthU us k).1); omega
          clear hT hG hT'
          generalize totN ws us k = T at *
          generalize grN ws us k = G at *
          generalize (nthU us k).1 = p at *
          generalize (nthU us k).2 = q at *
          unfold numR
          cases G with
          | true =>
            have hG1 : Hid (grN ws us (k + 1) = true) := by unfold Hid; rw [HGe.out]; rfl
            clear HGe
            go_wp2_with fail
            all_goals
              refine ⟨⟨k + 1, hlt, by go_num, ?_, ?_, hn2.out, HB3.out⟩, by simp [RowKit.intOf]; omega⟩
              · rw [HTe.out]; push_cast; rfl
              · rw [hG1.out]
          | false =>
            have hG1 : Hid (0 < k → grN ws us (k + 1) = decide (q < n)) := fun h => by rw [HGe.out, decide_eq_true h]; rfl
            have hG0 : Hid (¬ 0 < k → grN ws us (k + 1) = false) := fun h => by rw [HGe.out, decide_eq_false h]; rfl
            clear HGe
            by_cases h0 : 0 < k
            · have hG2 := Lib.hid (hG1.out h0)
              clear hG0 hG1
              have t5 : decide (0 < k) = true := decide_eq_true h0
              go_wp2_with fail
              all_goals
                refine ⟨⟨k + 1, hlt, by go_num, ?_, ?_, hn2.out, HB3.out⟩, by simp [RowKit.intOf]; omega⟩
                · rw [HTe.out]; push_cast; rfl
                · rw [hG2.out]
            · have hG2 := Lib.hid (hG0.out h0)
              clear hG0 hG1
              have t5 : decide (0 < k) = false := decide_eq_false h0
              go_wp2_with fail
              all_goals
                refine ⟨⟨k + 1, hlt, by go_num, ?_, ?_, hn2.out, HB3.out⟩, by simp [RowKit.intOf]; omega⟩
                · rw [HTe.out]; push_cast; rfl
                · rw [hG2.out]
      · have hke : k = ws.length := by omega
        have t3 : decide (k < ws.length) = false := decide_eq_false hlt
        have t4 : decide ((k : Int) < ws.length) = false := decide_eq_false (by omega)
        have hr := hgood.out (by omega) (by rw [← hke]; exact hn.out)
        rw [← hke, endA_eq] at hr
        have HR := Lib.hid hr
        have HB := Lib.hid (below_next hB2 hB)
        have htl := totN_le ws us HU.out k (by omega)
        have htl2 : totN ws us k ≤ 500000000000 := by omega
        clear hr hgood hbad hwl hn hB2 hB htl
        generalize totN ws us k = T at *
        generalize grN ws us k = G at *
        cases G with
        | true =>
          have hr := Lib.hid (HR.out.trans (if_pos (.inl rfl)))
          clear HR
          go_wp2_with fail
          go_ret2
          exact ⟨by rw [hr.out]; rfl, HB.out⟩
        | false =>
          by_cases h0 : T = 0
          · subst h0
            have hr := Lib.hid (HR.out.trans (if_pos (.inr (.inl rfl))))
            clear HR
            go_wp2_with fail
            go_ret2
            exact ⟨by rw [hr.out]; rfl, HB.out⟩
          · have t5 : ((T : Int) == 0) = false := by simpa using h0
            by_cases h1 : 1073741824 < T
            · have t6 : decide (1073741824 < (T : Int)) = true := decide_eq_true (by omega)
              have hr := Lib.hid (HR.out.trans (if_pos (.inr (.inr h1))))
              clear HR
              go_wp2_with fail
              go_ret2
              exact ⟨by rw [hr.out]; rfl, HB.out⟩
            · have t6 : decide (1073741824 < (T : Int)) = false := decide_eq_false (by omega)
              have hr := Lib.hid (HR.out.trans (if_neg (by simp; omega)))
              clear HR
              go_wp2_with fail
              go_ret2
              exact ⟨by rw [hr.out]; rfl, HB.out⟩
end Go.Proofs.YtndlgjphkpceoaaDoor
