/-
  gangerref06.Same, gangerlaw06.has: at any indexes.
-/
import Derived.Test.YtdhkinknhjpjmaaDoorIxK
namespace Go.Proofs.YtdhkinknhjpjmaaDoor
open Go Go.RowKit Go.Lib
set_option linter.unusedVariables false

theorem ret_b {a b : Bool} (h : a = b) : Ending.returned (.bool a) = Ending.returned (.bool b) := by rw [h]
/-- Two arrays in blocks of their own. -/
abbrev box2 (w : World) (v v' : Value) (m m' : Int) : World := (w.alloc (.cells #[v, .int .i64 m] 25)).alloc (.cells #[v', .int .i64 m'] 25)
structure Box2 (w W : World) (v v' : Value) (m m' : Int) : Prop where
  c0 : W.cell? ⟨w.heap.size, 0, none⟩ = some v
  c1 : W.cell? ⟨w.heap.size, 1, none⟩ = some (.int .i64 m)
  d0 : W.cell? ⟨w.heap.size + 1, 0, none⟩ = some v'
  d1 : W.cell? ⟨w.heap.size + 1, 1, none⟩ = some (.int .i64 m')
  below : Below w.heap.size w W
theorem box2_of (w : World) (v v' : Value) (m m' : Int) : Box2 w (box2 w v v' m m') v v' m m' := by
  have h1 := (Blk.new w #[v, .int .i64 m] 25).old (.cells #[v', .int .i64 m'] 25)
  have h2 := Blk.new (w.alloc (.cells #[v, .int .i64 m] 25)) #[v', .int .i64 m'] 25
  have hz : (w.alloc (.cells #[v, .int .i64 m] 25)).heap.size = w.heap.size + 1 := by simp
  rw [hz] at h2
  have c0 := h1.cell 0
  have c1 := h1.cell 1
  have d0 := h2.cell 0
  have d1 := h2.cell 1
  simp only [List.getElem?_toArray, List.getElem?_cons_zero, List.getElem?_cons_succ] at c0 c1 d0 d1
  exact ⟨c0, c1, d0, d1, ((Below.refl _ w).alloc (Nat.le_refl _) _).alloc (by rw [hz]; omega) _⟩
theorem Box2.next {w W W' : World} {v v' : Value} {m m' : Int} (h : Box2 w W v v' m m') (hb : Below W.heap.size W W') : Box2 w W' v v' m m' :=
  ⟨cell_next hb h.c0, cell_next hb h.c1, cell_next hb h.d0, cell_next hb h.d1, below_next hb h.below⟩
theorem same_len (a a' : Option Addr) (n c n' c' : Nat) (m m' : Int) (w : World) (h : n ≠ n') (h1 : n ≤ 1048576) (h2 : n' ≤ 1048576) :
    Calls Tryd.prog 13 #[arrV (.slice a n c) m, arrV (.slice a' n' c') m'] w fun e w' => e = .returned (.bool false) ∧ Below w.heap.size w w' := by
  have HX := box2_of w (.slice a n c) (.slice a' n' c') m m'
  obtain ⟨c0, c1, d0, d1, hB⟩ := HX
  have HB := Lib.hid hB
  have t0 : ((n : Int) != n') = true := by rw [bne_iff_ne]; omega
  have t0b : (n != n') = true := by rw [bne_iff_ne]; exact h
  clear hB h
  go_enter Tryd.func13, Tryd.ntmps13
  go_wp2_with fail
  go_ret
  exact ⟨rfl, HB.out⟩
theorem same_most (a a' : Option Addr) (n c c' : Nat) (m m' : Int) (w : World) (h : m ≠ m') (h1 : n ≤ 1048576) :
    Calls Tryd.prog 13 #[arrV (.slice a n c) m, arrV (.slice a' n c') m'] w fun e w' => e = .returned (.bool false) ∧ Below w.heap.size w w' := by
  have HX := box2_of w (.slice a n c) (.slice a' n c') m m'
  obtain ⟨c0, c1, d0, d1, hB⟩ := HX
  have HB := Lib.hid hB
  have t0 : ((n : Int) != n) = false := by simp
  have t0b : (n != n) = false := by simp
  have t1 : (m != m') = true := by rw [bne_iff_ne]; exact h
  clear hB h
  go_enter Tryd.func13, Tryd.ntmps13
  go_wp2_with fail
  go_ret
  exact ⟨rfl, HB.out⟩
set_option maxHeartbeats 2000000 in
theorem same_row (a a' : Option Addr) (c c' : Nat) (l l' : List Int) (m : Int) (w : World) (hn : l.length ≤ 1048576) (hl : l'.length = l.length) (hc : ∀ j, j < l.length → ∃ b off, a = some ⟨b, off, none⟩ ∧ w.cell? ⟨b, off + j, none⟩ = some (.int .i64 (l.getD j 0))) (hc' : ∀ j, j < l.length → ∃ b off, a' = some ⟨b, off, none⟩ ∧ w.cell? ⟨b, off + j, none⟩ = some (.int .i64 (l'.getD j 0))) :
    Calls Tryd.prog 13 #[arrV (.slice a l.length c) m, arrV (.slice a' l.length c') m] w fun e w' => e = .returned (.bool (decide (l = l'))) ∧ Below w.heap.size w w' := by
  have HX := box2_of w (.slice a l.length c) (.slice a' l.length c') m m
  unfold box2 at HX
  have HXX := Lib.hid HX
  have HC := Lib.hid hc
  have HC' := Lib.hid hc'
  have HW := Lib.hid HX.below
  obtain ⟨c0, c1, d0, d1, hB⟩ := HX
  have t0 : ((l.length : Int) != l.length) = false := by simp
  have t0b : (l.length != l.length) = false := by simp
  have t1 : (m != m) = false := by simp
  have HNO : Hid (∀ i, i < l.length → l.getD i 0 ≠ l'.getD i 0 → l ≠ l') := fun i hi h e => h (by rw [e])
  have HYES : Hid ((∀ i, i < l.length → l.getD i 0 = l'.getD i 0) → l = l') := fun h => by
    apply List.ext_getElem (by omega)
    intro i h1 h2
    have := h i h1
    simpa [List.getD_eq_getElem?_getD, h1, h2] using this
  clear hB hc hc' hl
  go_enter Tryd.func13, Tryd.ntmps13
  go_wp2_with fail
  generalize (w.alloc (.cells #[.slice a l.length c, .int .i64 m] 25)).alloc (.cells #[.slice a' l.length c', .int .i64 m] 25) = W at *
  clear c0 c1 d0 d1 t0 t0b t1
  go_loopw [5] (fun i wr => ∃ (k : Nat), k ≤ l.length ∧ i = .int .i64 k ∧ Hid (∀ j, j < k → l.getD j 0 = l'.getD j 0) ∧ Below W.heap.size W wr)
    (fun i _ => l.length - (RowKit.intOf i).toNat)
  case atStart => exact ⟨0, Nat.zero_le _, rfl, fun j hj => absurd hj (Nat.not_lt_zero _), Below.refl _ _⟩
  case round =>
    obtain ⟨k, hk, rfl, hok, hB⟩ := hrel
    have HXR := HXX.out.next hB
    have HB := Lib.hid hB
    obtain ⟨c0, c1, d0, d1, hO⟩ := HXR
    have HO := Lib.hid hO
    clear c1 d1 hO
    by_cases hlt : k < l.length
    · have hlt' : decide (k < l.length) = true := decide_eq_true hlt
      have hlt2 : (k : Int) < l.length := by omega
      obtain ⟨b, off, rfl, p⟩ := HC.out k hlt
      obtain ⟨b', off', rfl, p'⟩ := HC'.out k hlt
      have cx := cell_next hB (cell_next HW.out p)
      have cy := cell_next hB (cell_next HW.out p')
      have HNk := Lib.hid (HNO.out k hlt)
      have HN : Hid (l.getD k 0 = l'.getD k 0 → ∀ j, j < k + 1 → l.getD j 0 = l'.getD j 0) := fun h j hj => by
        rcases Nat.lt_or_ge j k with h1 | h1
        · exact hok.out j h1
        · rw [show j = k by omega]; exact h
      clear hB hok p p' HNO HYES
      generalize l.getD k 0 = x at *
      generalize l'.getD k 0 = y at *
      by_cases o : x = y
      · have q : (x != y) = false := by rw [o]; simp
        have hn' := Lib.hid (HN.out o)
        clear HN HNk o
        go_wp2_with fail
        go_region
        go_wp2_with fail
        go_roundw
        case rel => exact ⟨k + 1, hlt, by go_num, hn', below_drewN HB.out _⟩
        case measure => simp [RowKit.intOf]; omega
      · have q : (x != y) = true := by rw [bne_iff_ne]; exact o
        have hr : Hid (decide (l = l') = false) := decide_eq_false (HNk.out o)
        clear HN HNk o
        go_wp2_with fail
        go_region
        go_wp2_with fail
        go_ret
        exact ⟨ret_b hr.out.symm, below_drewN HO.out _⟩
    · obtain rfl : k = l.length := by omega
      have hlt' : decide (l.length < l.length) = false := decide_eq_false hlt
      have hr : Hid (decide (l = l') = true) := decide_eq_true (HYES.out hok.out)
      clear HNO HYES hok hB
      go_wp2_with fail
      go_ret
      exact ⟨ret_b hr.out.symm, HO.out⟩
theorem NRow.at_ {w : World} {v : Value} {l : List Int} (h : NRow w v l) : ∃ a c, v = .slice a l.length c ∧ ∀ j, j < l.length → ∃ b off, a = some ⟨b, off, Option.none⟩ ∧ w.cell? ⟨b, off + j, Option.none⟩ = some (.int .i64 (l.getD j 0)) := by
  rcases h with ⟨rfl, a, c, rfl, _⟩ | ⟨b, off, c, rfl, _, _, _, _, hc⟩
  · exact ⟨a, c, rfl, fun j hj => absurd hj (Nat.not_lt_zero _)⟩
  · exact ⟨_, c, rfl, fun j hj => ⟨b, off, rfl, hc j hj⟩⟩
theorem same_any (v v' : Value) (l l' : List Int) (m m' : Int) (w : World) (hn : l.length ≤ 1048576) (hn' : l'.length ≤ 1048576) (h : NRow w v l) (h' : NRow w v' l') :
    Calls Tryd.prog 13 #[arrV v m, arrV v' m'] w fun e w' => e = .returned (.bool (decide (l = l' ∧ m = m'))) ∧ Below w.heap.size w w' := by
  obtain ⟨a, c, rfl, hc⟩ := h.at_
  obtain ⟨a', c', rfl, hc'⟩ := h'.at_
  by_cases hl : l.length = l'.length
  · by_cases hm : m = m'
    · subst hm
      rw [show decide (l = l' ∧ m = m) = decide (l = l') by simp]
      rw [← hl] at hc' ⊢
      exact same_row a a' c c' l l' m w hn hl.symm hc hc'
    · rw [decide_eq_false fun h => hm h.2, ← hl]
      exact same_most a a' _ c c' m m' w hm hn
  · rw [decide_eq_false fun h => hl (by rw [h.1])]
    exact same_len a a' _ c _ c' m m' w hl hn hn'
theorem has_any (v : Value) (l : List Int) (m n : Int) (w : World) (hn : l.length ≤ 1048576) (h : NRow w v l) :
    Calls Tryd.prog 18 #[arrV v m, .int .i64 n] w fun e w' => e = .returned (.bool (decide (n ∈ l))) ∧ Below w.heap.size w w' := by
  obtain ⟨a, c, rfl, hc⟩ := h.at_
  have hb := Blk.new w #[.slice a l.length c, .int .i64 m] 25
  have c0 := hb.cell 0
  simp only [List.getElem?_toArray, List.getElem?_cons_zero] at c0
  have HW := Lib.hid ((Below.refl _ w).alloc (Nat.le_refl _) (.cells #[.slice a l.length c, .int .i64 m] 25))
  have HK := Lib.hid c0
  have HC := Lib.hid hc
  have HYES : Hid (∀ i, i < l.length → l.getD i 0 = n → n ∈ l) := fun i hi h => by
    rw [← h, List.getD_eq_getElem?_getD, List.getElem?_eq_getElem hi]; exact List.getElem_mem hi
  have HNO : Hid ((∀ i, i < l.length → l.getD i 0 ≠ n) → n ∉ l) := fun h hm => by
    obtain ⟨i, hi, e⟩ := List.mem_iff_getElem.1 hm
    exact h i hi (by rw [List.getD_eq_getElem?_getD, List.getElem?_eq_getElem hi]; exact e)
  clear hb hc h
  go_enter Tryd.func18, Tryd.ntmps18
  go_wp2_with fail
  generalize w.alloc (.cells #[.slice a l.length c, .int .i64 m] 25) = W at *
  clear c0
  go_loopw [5] (fun i wr => ∃ (k : Nat), k ≤ l.length ∧ i = .int .i64 k ∧ Hid (∀ j, j < k → l.getD j 0 ≠ n) ∧ Below W.heap.size W wr)
    (fun i _ => l.length - (RowKit.intOf i).toNat)
  case atStart => exact ⟨0, Nat.zero_le _, rfl, fun j hj => absurd hj (Nat.not_lt_zero _), Below.refl _ _⟩
  case round =>
    obtain ⟨k, hk, rfl, hok, hB⟩ := hrel
    have c0 := cell_next hB HK.out
    have HB := Lib.hid hB
    have HO := Lib.hid (below_next hB HW.out)
    by_cases hlt : k < l.length
    · have hlt' : decide (k < l.length) = true := decide_eq_true hlt
      have hlt2 : (k : Int) < l.length := by omega
      obtain ⟨b, off, rfl, p⟩ := HC.out k hlt
      have cx := cell_next hB (cell_next HW.out p)
      have HY := Lib.hid (HYES.out k hlt)
      have HN : Hid (l.getD k 0 ≠ n → ∀ j, j < k + 1 → l.getD j 0 ≠ n) := fun h j hj => by
        rcases Nat.lt_or_ge j k with h1 | h1
        · exact hok.out j h1
        · rw [show j = k by omega]; exact h
      clear hB hok p HNO HYES
      generalize l.getD k 0 = x at *
      by_cases o : x = n
      · have q : (x == n) = true := by rw [o]; simp
        have hr : Hid (decide (n ∈ l) = true) := decide_eq_true (HY.out o)
        clear HN HY o
        go_wp2_with fail
        go_ret
        exact ⟨ret_b hr.out.symm, HO.out⟩
      · have q : (x == n) = false := by rw [beq_eq_false_iff_ne]; exact o
        have hn' := Lib.hid (HN.out o)
        clear HN HY o
        go_wp2_with fail
        go_roundw
        case rel => exact ⟨k + 1, hlt, by go_num, hn', HB.out⟩
        case measure => simp [RowKit.intOf]; omega
    · obtain rfl : k = l.length := by omega
      have hlt' : decide (l.length < l.length) = false := decide_eq_false hlt
      have hr : Hid (decide (n ∈ l) = false) := decide_eq_false (HNO.out hok.out)
      clear HNO HYES hok hB
      go_wp2_with fail
      go_ret
      exact ⟨ret_b hr.out.symm, HO.out⟩
end Go.Proofs.YtdhkinknhjpjmaaDoor
