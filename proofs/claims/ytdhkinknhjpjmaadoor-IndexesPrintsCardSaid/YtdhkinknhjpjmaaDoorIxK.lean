/-
  indexes.Check and gangerref06.Check, gangerref06.Same, gangerlaw06.has: at any indexes.
-/
import Derived.Test.YtdhkinknhjpjmaaDoorNums
import Derived.Lib.Hide
import Derived.Deep.QuietTactic
namespace Go.Proofs.YtdhkinknhjpjmaaDoor
open Go Go.RowKit Go.Lib
set_option linter.unusedVariables false

def okZ (l : List Int) (k : Nat) : Prop := 0 ≤ l.getD k 0 ∧ l.getD k 0 ≤ 1000 ∧ (0 < k → l.getD (k - 1) 0 < l.getD k 0)
def OkZ (l : List Int) (m : Int) : Prop := 0 < l.length ∧ 0 ≤ m ∧ m ≤ 1000 ∧ ∀ k, k < l.length → okZ l k
open Classical in
noncomputable def checkZ (l : List Int) (m : Int) : Int := if OkZ l m then 0 else 2
theorem checkZ_ok {l : List Int} {m : Int} (h : OkZ l m) : checkZ l m = 0 := if_pos h
theorem checkZ_no {l : List Int} {m : Int} (h : ¬ OkZ l m) : checkZ l m = 2 := if_neg h
theorem ret_i {k : IntKind} {a b : Int} (h : a = b) : Ending.returned (.int k a) = Ending.returned (.int k b) := by rw [h]
/-- v is the numbers l and the limit m. -/
abbrev arrV (v : Value) (m : Int) : Value := .agg #[v, .int .i64 m]
theorem check_nil (a : Option Addr) (c : Nat) (m : Int) (w : World) : Calls Tryd.prog 14 #[arrV (.slice a 0 c) m] w fun e w' => e = .returned (.int .i64 2) ∧ Below w.heap.size w w' := by
  have hb := Blk.new w #[.slice a 0 c, .int .i64 m] 25
  have c0 := hb.cell 0
  have c1 := hb.cell 1
  simp only [List.getElem?_toArray, List.getElem?_cons_zero, List.getElem?_cons_succ] at c0 c1
  have HB := Lib.hid ((Below.refl _ w).alloc (Nat.le_refl _) (.cells #[.slice a 0 c, .int .i64 m] 25))
  clear hb
  go_enter Tryd.func14, Tryd.ntmps14
  go_wp2_with fail
  go_ret
  exact ⟨rfl, HB.out⟩
set_option maxRecDepth 100000 in
theorem check_bad (a : Option Addr) (n c : Nat) (m : Int) (w : World) (hn : 0 < n) (h : m < 0 ∨ 1000 < m) : Calls Tryd.prog 14 #[arrV (.slice a n c) m] w fun e w' => e = .returned (.int .i64 2) ∧ Below w.heap.size w w' := by
  have hb := Blk.new w #[.slice a n c, .int .i64 m] 25
  have c0 := hb.cell 0
  have c1 := hb.cell 1
  simp only [List.getElem?_toArray, List.getElem?_cons_zero, List.getElem?_cons_succ] at c0 c1
  have t0 : ((n : Int) == 0) = false := by rw [beq_eq_false_iff_ne]; omega
  have t0b : (n == 0) = false := by rw [beq_eq_false_iff_ne]; omega
  have HB := Lib.hid ((Below.refl _ w).alloc (Nat.le_refl _) (.cells #[.slice a n c, .int .i64 m] 25))
  clear hb
  by_cases h1 : m < 0
  · have s1 : decide (m < 0) = true := decide_eq_true h1
    clear h h1
    go_enter Tryd.func14, Tryd.ntmps14
    go_wp2_with fail
    go_ret
    exact ⟨rfl, HB.out⟩
  · have s1 : decide (m < 0) = false := decide_eq_false h1
    have s2 : decide (m > 1000) = true := decide_eq_true (by omega)
    have s2b : decide (1000 < m) = true := decide_eq_true (by omega)
    clear h h1
    go_enter Tryd.func14, Tryd.ntmps14
    go_wp2_with fail
    go_ret
    exact ⟨rfl, HB.out⟩
set_option maxRecDepth 100000 in
set_option maxHeartbeats 2000000 in
theorem check_row (b off c : Nat) (l : List Int) (m : Int) (w : World) (hn : l.length ≤ 1048576) (h0 : 0 < l.length) (hm0 : 0 ≤ m) (hm1 : m ≤ 1000) (hbw : b < w.heap.size) (hc : ∀ j, j < l.length → w.cell? ⟨b, off + j, none⟩ = some (.int .i64 (l.getD j 0))) :
    Calls Tryd.prog 14 #[arrV (.slice (some ⟨b, off, none⟩) l.length c) m] w fun e w' => e = .returned (.int .i64 (checkZ l m)) ∧ Below w.heap.size w w' := by
  have hb := Blk.new w #[.slice (some ⟨b, off, none⟩) l.length c, .int .i64 m] 25
  have c0 := hb.cell 0
  have c1 := hb.cell 1
  simp only [List.getElem?_toArray, List.getElem?_cons_zero, List.getElem?_cons_succ] at c0 c1
  have t0 : ((l.length : Int) == 0) = false := by rw [beq_eq_false_iff_ne]; omega
  have t0b : (l.length == 0) = false := by rw [beq_eq_false_iff_ne]; omega
  have s1 : decide (m < 0) = false := decide_eq_false (by omega)
  have s2 : decide (m > 1000) = false := decide_eq_false (by omega)
  have s2b : decide (1000 < m) = false := decide_eq_false (by omega)
  have HBAD : Hid (∀ i, i < l.length → ¬ okZ l i → checkZ l m = 2) := fun i hi h => checkZ_no fun hh => h (hh.2.2.2 i hi)
  have HGOOD : Hid ((∀ i, i < l.length → okZ l i) → checkZ l m = 0) := fun h => checkZ_ok ⟨h0, hm0, hm1, h⟩
  have HW := Lib.hid ((Below.refl _ w).alloc (Nat.le_refl _) (.cells #[.slice (some ⟨b, off, none⟩) l.length c, .int .i64 m] 25))
  have HC : Hid (∀ j, j < l.length → (w.alloc (.cells #[.slice (some ⟨b, off, none⟩) l.length c, .int .i64 m] 25)).cell? ⟨b, off + j, none⟩ = some (.int .i64 (l.getD j 0))) := fun j hj => by
    exact cell_next HW.out (hc j hj)
  clear hb hc hm0 hm1
  go_enter Tryd.func14, Tryd.ntmps14
  go_wp2_with fail
  generalize w.alloc (.cells #[.slice (some ⟨b, off, none⟩) l.length c, .int .i64 m] 25) = W at *
  clear c0 c1 s1 s2 s2b t0 t0b
  go_loopw [3, 23] (fun p i wr => ∃ (k : Nat) (q : Int), k ≤ l.length ∧ p = .int .i64 q ∧ i = .int .i64 k ∧ Hid (q = if k = 0 then -1 else l.getD (k - 1) 0) ∧ -1 ≤ q ∧ Hid (∀ j, j < k → okZ l j) ∧ Below W.heap.size W wr)
    (fun _ i _ => l.length - (RowKit.intOf i).toNat)
  case atStart => exact ⟨0, -1, Nat.zero_le _, rfl, rfl, rfl, by omega, fun j hj => absurd hj (Nat.not_lt_zero _), Below.refl _ _⟩
  case round =>
    obtain ⟨k, q, hk, rfl, rfl, hq, hq1, hok, hB⟩ := hrel
    by_cases hlt : k < l.length
    · have hlt' : decide (k < l.length) = true := decide_eq_true hlt
      have hlt2 : (k : Int) < l.length := by omega
      have cx := cell_next hB (HC.out k hlt)
      have HBk := Lib.hid (HBAD.out k hlt)
      have HB := Lib.hid hB
      have HO := Lib.hid (below_next hB HW.out)
      have HX : Hid (okZ l k ↔ q < l.getD k 0 ∧ l.getD k 0 ≤ 1000) := by
        have := hq.out
        unfold okZ
        by_cases hk0 : k = 0
        · rw [if_pos hk0] at this
          constructor
          · rintro ⟨h1, h2, _⟩; exact ⟨by omega, h2⟩
          · rintro ⟨h1, h2⟩; exact ⟨by omega, h2, fun h => by omega⟩
        · rw [if_neg hk0] at this
          constructor
          · rintro ⟨h1, h2, h3⟩; exact ⟨by rw [this]; exact h3 (by omega), h2⟩
          · rintro ⟨h1, h2⟩; exact ⟨by omega, h2, fun _ => by rw [← this]; exact h1⟩
      have HN : Hid (okZ l k → ∀ j, j < k + 1 → okZ l j) := fun h j hj => by
        rcases Nat.lt_or_ge j k with h1 | h1
        · exact hok.out j h1
        · rw [show j = k by omega]; exact h
      have HQ : Hid (l.getD k 0 = if k + 1 = 0 then -1 else l.getD (k + 1 - 1) 0) := by
        unfold Hid; rw [if_neg (by omega), Nat.add_sub_cancel]
      clear hB hok hq
      generalize l.getD k 0 = x at *
      by_cases o1 : x ≤ q
      · have p1 : decide (x ≤ q) = true := decide_eq_true o1
        have hr := Lib.hid (HBk.out fun h => by have := HX.out.1 h; omega)
        clear HX HBk HN
        go_wp2_with fail
        go_ret
        exact ⟨ret_i hr.out.symm, HO.out⟩
      · have p1 : decide (x ≤ q) = false := decide_eq_false o1
        by_cases o2 : 1000 < x
        · have p2 : decide (x > 1000) = true := decide_eq_true o2
          have p2b : decide (1000 < x) = true := decide_eq_true o2
          have hr := Lib.hid (HBk.out fun h => by have := HX.out.1 h; omega)
          clear HX HBk HN
          go_wp2_with fail
          go_ret
          exact ⟨ret_i hr.out.symm, HO.out⟩
        · have p2 : decide (x > 1000) = false := decide_eq_false o2
          have p2b : decide (1000 < x) = false := decide_eq_false o2
          have hn' := Lib.hid (HN.out (HX.out.2 ⟨by omega, by omega⟩))
          have hxq : -1 ≤ x := by omega
          clear HX HBk HN o1 o2
          go_wp2_with fail
          go_roundw
          case rel => exact ⟨k + 1, x, hlt, rfl, by go_num, HQ, hxq, hn', HB.out⟩
          case measure => simp [RowKit.intOf]; omega
    · obtain rfl : k = l.length := by omega
      have hlt' : decide (l.length < l.length) = false := decide_eq_false hlt
      have hr := Lib.hid (HGOOD.out hok.out)
      have HO := Lib.hid (below_next hB HW.out)
      clear HBAD HGOOD hok hB hq
      go_wp2_with fail
      go_ret
      exact ⟨ret_i hr.out.symm, HO.out⟩
theorem check_any (v : Value) (l : List Int) (m : Int) (w : World) (hn : l.length ≤ 1048576) (h : NRow w v l) :
    Calls Tryd.prog 14 #[arrV v m] w fun e w' => e = .returned (.int .i64 (checkZ l m)) ∧ Below w.heap.size w w' := by
  rcases h with ⟨rfl, a, c, rfl, _⟩ | ⟨b, off, c, rfl, h0, _, _, hb, hc⟩
  · rw [checkZ_no fun h => absurd h.1 (by simp)]; exact check_nil a c m w
  · by_cases hm : m < 0 ∨ 1000 < m
    · rw [checkZ_no fun h => by have := h.2.1; have := h.2.2.1; omega]; exact check_bad _ _ c m w h0 hm
    · exact check_row b off c l m w hn h0 (by omega) (by omega) hb hc
theorem refCk_nil (a : Option Addr) (c : Nat) (m : Int) (w : World) : Calls Tryd.prog 17 #[arrV (.slice a 0 c) m] w fun e w' => e = .returned (.int .i64 2) ∧ Below w.heap.size w w' := by
  have hb := Blk.new w #[.slice a 0 c, .int .i64 m] 25
  have c0 := hb.cell 0
  have c1 := hb.cell 1
  simp only [List.getElem?_toArray, List.getElem?_cons_zero, List.getElem?_cons_succ] at c0 c1
  have HB := Lib.hid ((Below.refl _ w).alloc (Nat.le_refl _) (.cells #[.slice a 0 c, .int .i64 m] 25))
  clear hb
  go_enter Tryd.func17, Tryd.ntmps17
  go_wp2_with fail
  go_ret
  exact ⟨rfl, HB.out⟩
set_option maxRecDepth 100000 in
theorem refCk_bad (a : Option Addr) (n c : Nat) (m : Int) (w : World) (hn : 0 < n) (h : m < 0 ∨ 1000 < m) : Calls Tryd.prog 17 #[arrV (.slice a n c) m] w fun e w' => e = .returned (.int .i64 2) ∧ Below w.heap.size w w' := by
  have hb := Blk.new w #[.slice a n c, .int .i64 m] 25
  have c0 := hb.cell 0
  have c1 := hb.cell 1
  simp only [List.getElem?_toArray, List.getElem?_cons_zero, List.getElem?_cons_succ] at c0 c1
  have t0 : decide ((n : Int) < 1) = false := decide_eq_false (by omega)
  have t0b : decide (n < 1) = false := decide_eq_false (by omega)
  have HB := Lib.hid ((Below.refl _ w).alloc (Nat.le_refl _) (.cells #[.slice a n c, .int .i64 m] 25))
  clear hb
  by_cases h1 : m < 0
  · have s1 : decide (m < 0) = true := decide_eq_true h1
    clear h h1
    go_enter Tryd.func17, Tryd.ntmps17
    go_wp2_with fail
    go_ret
    exact ⟨rfl, HB.out⟩
  · have s1 : decide (m < 0) = false := decide_eq_false h1
    have s2 : decide (m > 1000) = true := decide_eq_true (by omega)
    have s2b : decide (1000 < m) = true := decide_eq_true (by omega)
    clear h h1
    go_enter Tryd.func17, Tryd.ntmps17
    go_wp2_with fail
    go_ret
    exact ⟨rfl, HB.out⟩
set_option maxRecDepth 100000 in
set_option maxHeartbeats 4000000 in
theorem refCk_row (b off c : Nat) (l : List Int) (m : Int) (w : World) (hn : l.length ≤ 1048576) (h0 : 0 < l.length) (hm0 : 0 ≤ m) (hm1 : m ≤ 1000) (hbw : b < w.heap.size) (hc : ∀ j, j < l.length → w.cell? ⟨b, off + j, none⟩ = some (.int .i64 (l.getD j 0))) :
    Calls Tryd.prog 17 #[arrV (.slice (some ⟨b, off, none⟩) l.length c) m] w fun e w' => e = .returned (.int .i64 (checkZ l m)) ∧ Below w.heap.size w w' := by
  have hb := Blk.new w #[.slice (some ⟨b, off, none⟩) l.length c, .int .i64 m] 25
  have c0 := hb.cell 0
  have c1 := hb.cell 1
  simp only [List.getElem?_toArray, List.getElem?_cons_zero, List.getElem?_cons_succ] at c0 c1
  have t0 : decide ((l.length : Int) < 1) = false := decide_eq_false (by omega)
  have t0b : decide (l.length < 1) = false := decide_eq_false (by omega)
  have s1 : decide (m < 0) = false := decide_eq_false (by omega)
  have s2 : decide (m > 1000) = false := decide_eq_false (by omega)
  have s2b : decide (1000 < m) = false := decide_eq_false (by omega)
  have HBAD : Hid (∀ i, i < l.length → ¬ okZ l i → checkZ l m = 2) := fun i hi h => checkZ_no fun hh => h (hh.2.2.2 i hi)
  have HGOOD : Hid ((∀ i, i < l.length → okZ l i) → checkZ l m = 0) := fun h => checkZ_ok ⟨h0, hm0, hm1, h⟩
  have HW := Lib.hid ((Below.refl _ w).alloc (Nat.le_refl _) (.cells #[.slice (some ⟨b, off, none⟩) l.length c, .int .i64 m] 25))
  have HC : Hid (∀ j, j < l.length → (w.alloc (.cells #[.slice (some ⟨b, off, none⟩) l.length c, .int .i64 m] 25)).cell? ⟨b, off + j, none⟩ = some (.int .i64 (l.getD j 0))) := fun j hj => by
    exact cell_next HW.out (hc j hj)
  have HK := Lib.hid c0
  clear hb hc hm0 hm1
  go_enter Tryd.func17, Tryd.ntmps17
  go_wp2_with fail
  generalize w.alloc (.cells #[.slice (some ⟨b, off, none⟩) l.length c, .int .i64 m] 25) = W at *
  clear c0 c1 s1 s2 s2b t0 t0b
  go_loopw [3] (fun i wr => ∃ (k : Nat), k ≤ l.length ∧ i = .int .i64 k ∧ Hid (∀ j, j < k → okZ l j) ∧ Below W.heap.size W wr)
    (fun i _ => l.length - (RowKit.intOf i).toNat)
  case atStart => exact ⟨0, Nat.zero_le _, rfl, fun j hj => absurd hj (Nat.not_lt_zero _), Below.refl _ _⟩
  case round =>
    obtain ⟨k, hk, rfl, hok, hB⟩ := hrel
    have c0 := cell_next hB HK.out
    have HB := Lib.hid hB
    have HO := Lib.hid (below_next hB HW.out)
    by_cases hlt : k < l.length
    · have hlt' : decide (k < l.length) = true := decide_eq_true hlt
      have hlt2 : (k : Int) < l.length := by omega
      have cx := cell_next hB (HC.out k hlt)
      have HBk := Lib.hid (HBAD.out k hlt)
      have HP : Hid (0 < k → wr.cell? ⟨b, off + (k - 1), none⟩ = some (.int .i64 (l.getD (k - 1) 0))) := fun _ => cell_next hB (HC.out (k - 1) (by omega))
      have HX : Hid (okZ l k ↔ 0 ≤ l.getD k 0 ∧ l.getD k 0 ≤ 1000 ∧ (0 < k → l.getD (k - 1) 0 < l.getD k 0)) := Iff.rfl
      have HN : Hid (okZ l k → ∀ j, j < k + 1 → okZ l j) := fun h j hj => by
        rcases Nat.lt_or_ge j k with h1 | h1
        · exact hok.out j h1
        · rw [show j = k by omega]; exact h
      clear hB hok
      generalize l.getD k 0 = x at *
      obtain ⟨y, hy⟩ : ∃ y, y = l.getD (k - 1) 0 := ⟨_, rfl⟩
      rw [← hy] at HP HX
      clear hy
      by_cases o1 : x < 0
      · have p1 : decide (x < 0) = true := decide_eq_true o1
        have hr := Lib.hid (HBk.out fun h => by have := HX.out.1 h; omega)
        clear HX HBk HN HP
        go_wp2_with fail
        go_region
        go_wp2_with fail
        go_ret
        exact ⟨ret_i hr.out.symm, below_drewN HO.out _⟩
      · have p1 : decide (x < 0) = false := decide_eq_false o1
        by_cases o2 : 1000 < x
        · have p2 : decide (x > 1000) = true := decide_eq_true o2
          have p2b : decide (1000 < x) = true := decide_eq_true o2
          have hr := Lib.hid (HBk.out fun h => by have := HX.out.1 h; omega)
          clear HX HBk HN HP
          go_wp2_with fail
          go_region
          go_wp2_with fail
          go_ret
          exact ⟨ret_i hr.out.symm, below_drewN HO.out _⟩
        · have p2 : decide (x > 1000) = false := decide_eq_false o2
          have p2b : decide (1000 < x) = false := decide_eq_false o2
          by_cases hk0 : 0 < k
          · have u1 : decide (0 < (k : Int)) = true := decide_eq_true (by omega)
            have u2 : decide (0 < k) = true := decide_eq_true hk0
            obtain ⟨t, ht⟩ : ∃ t, t = k - 1 := ⟨_, rfl⟩
            have Et : Hid (IntKind.i64.wrap ((k : Int) - 1) = (t : Int)) := by unfold Hid; rw [IntKind.wrap_i64]; omega
            have tl : (t : Int) < l.length := by omega
            have d0 := HP.out hk0
            rw [← ht] at d0
            by_cases q1 : x ≤ y
            · have v1 : decide (x ≤ y) = true := decide_eq_true q1
              have hr := Lib.hid (HBk.out fun h => by have := (HX.out.1 h).2.2 hk0; omega)
              clear HX HBk HN HP ht o1 o2 q1
              go_wp2_with fail
              have et := Et.out
              go_region
              clear et
              go_wp2_with fail
              go_ret
              exact ⟨ret_i hr.out.symm, below_drewN HO.out _⟩
            · have v1 : decide (x ≤ y) = false := decide_eq_false q1
              have hn' := Lib.hid (HN.out (HX.out.2 ⟨by omega, by omega, fun _ => by omega⟩))
              clear HX HBk HN HP ht o1 o2 q1
              go_wp2_with fail
              have et := Et.out
              go_region
              clear et
              go_wp2_with fail
              go_roundw
              case rel => exact ⟨k + 1, hlt, by go_num, hn', below_drewN HB.out _⟩
              case measure => simp [RowKit.intOf]; omega
          · have hn' := Lib.hid (HN.out (HX.out.2 ⟨by omega, by omega, fun h => absurd h hk0⟩))
            have u1 : decide (0 < (k : Int)) = false := decide_eq_false (by omega)
            have u2 : decide (0 < k) = false := decide_eq_false hk0
            have u3 : decide ((k : Int) > 0) = false := decide_eq_false (by omega)
            have HK0 := Lib.hid hk0
            clear HX HBk HN HP hk0 o1 o2
            go_wp2_with fail
            go_region
            go_wp2_with fail
            go_roundw
            case rel => exact ⟨k + 1, hlt, by go_num, hn', below_drewN HB.out _⟩
            case measure => simp [RowKit.intOf]; omega
    · obtain rfl : k = l.length := by omega
      have hlt' : decide (l.length < l.length) = false := decide_eq_false hlt
      have hr := Lib.hid (HGOOD.out hok.out)
      clear HBAD HGOOD hok hB
      go_wp2_with fail
      go_ret
      exact ⟨ret_i hr.out.symm, HO.out⟩
theorem refCk_any (v : Value) (l : List Int) (m : Int) (w : World) (hn : l.length ≤ 1048576) (h : NRow w v l) :
    Calls Tryd.prog 17 #[arrV v m] w fun e w' => e = .returned (.int .i64 (checkZ l m)) ∧ Below w.heap.size w w' := by
  rcases h with ⟨rfl, a, c, rfl, _⟩ | ⟨b, off, c, rfl, h0, _, _, hb, hc⟩
  · rw [checkZ_no fun h => absurd h.1 (by simp)]; exact refCk_nil a c m w
  · by_cases hm : m < 0 ∨ 1000 < m
    · rw [checkZ_no fun h => by have := h.2.1; have := h.2.2.1; omega]; exact refCk_bad _ _ c m w h0 hm
    · exact refCk_row b off c l m w hn h0 (by omega) (by omega) hb hc
end Go.Proofs.YtdhkinknhjpjmaaDoor
