/-
  gangerref05.Check, gangerref05.Same: at any levels.
-/
import Derived.Test.YtnbgipegfnpobaaLvA
import Derived.Laws.StructEq
import Derived.Shelf.SlicesE.Kit
namespace Go.Proofs.Ytnbgipegfnpobaa
open Go Go.RowKit Go.Lib
set_option linter.unusedVariables false

set_option maxRecDepth 100000 in
set_option maxHeartbeats 2000000 in
theorem refCheck_row (b off c : Nat) (xs : List Lv) (w : World) (hn : xs.length ≤ 1048576) (h0 : 0 < xs.length) (hc : LCells w b off xs) :
    Calls Try.prog 19 #[.slice (some ⟨b, off, none⟩) xs.length c] w fun e w' => e = .returned (.int .i64 (checkV xs)) ∧ Below w.heap.size w w' := by
  have HC := Lib.hid hc
  have HBAD : Hid (∀ i, i < xs.length → ¬ okAt xs i → checkV xs = 50) := fun i hi h => checkV_no fun hh => h (hh.2 i hi)
  have HGOOD : Hid ((∀ i, i < xs.length → okAt xs i) → checkV xs = 0) := fun h => checkV_ok ⟨List.length_pos_iff.1 h0, h⟩
  have t0 : ((xs.length : Int) == 0) = false := by rw [beq_eq_false_iff_ne]; omega
  have t0b : (xs.length == 0) = false := by rw [beq_eq_false_iff_ne]; omega
  clear hc
  go_enter Try.func19, Try.ntmps19
  go_wp2_with fail
  go_loopw [3] (fun i wr => ∃ k : Nat, k ≤ xs.length ∧ i = .int .i64 k ∧ Hid (∀ j, j < k → okAt xs j) ∧ Below w.heap.size w wr)
    (fun i _ => xs.length - (RowKit.intOf i).toNat)
  case atStart => exact ⟨0, Nat.zero_le _, rfl, fun j hj => absurd hj (Nat.not_lt_zero _), Below.refl _ _⟩
  case round =>
    obtain ⟨k, hk, rfl, hok, hB⟩ := hrel
    by_cases hlt : k < xs.length
    · have hlt' : decide (k < xs.length) = true := decide_eq_true hlt
      have hlt2 : (k : Int) < xs.length := by omega
      obtain ⟨c0, c1⟩ := HC.out.at hB hlt
      have HBk := Lib.hid (HBAD.out k hlt)
      have HB := Lib.hid hB
      have HP : Hid (0 < k → wr.cell? ⟨b, off + (k - 1) * 2, none⟩ = some (.int .i64 (lv xs (k - 1)).1) ∧ wr.cell? ⟨b, off + (k - 1) * 2 + 1, none⟩ = some (.int .i64 (lv xs (k - 1)).2)) := fun _ => HC.out.at hB (by omega)
      have HOK : Hid (okAt xs k ↔ okL (lv xs k) ∧ (0 < k → (lv xs (k - 1)).1 < (lv xs k).1 ∧ (lv xs (k - 1)).2 ≠ (lv xs k).2)) := Iff.rfl
      have HN : Hid (okAt xs k → ∀ j, j < k + 1 → okAt xs j) := fun h j hj => by
        rcases Nat.lt_or_ge j k with h1 | h1
        · exact hok.out j h1
        · rw [show j = k by omega]; exact h
      clear hB hok
      obtain ⟨x, hx⟩ : ∃ x, x = lv xs k := ⟨_, rfl⟩
      obtain ⟨y, hy⟩ : ∃ y, y = lv xs (k - 1) := ⟨_, rfl⟩
      rw [← hx] at c0 c1 HOK
      rw [← hy] at HP HOK
      clear hx hy
      obtain ⟨x1, x2⟩ := x
      obtain ⟨y1, y2⟩ := y
      dsimp only at c0 c1 HP HOK
      have fin50 : Hid (¬ (okL (x1, x2) ∧ (0 < k → y1 < x1 ∧ y2 ≠ x2)) → checkV xs = 50) := fun h => HBk.out fun hh => h (HOK.out.1 hh)
      by_cases o : okL (x1, x2)
      · have o' := o
        unfold okL MaxT at o'
        dsimp only at o'
        have s1 : decide (x1 < 0) = false := decide_eq_false (by omega)
        have s2 : decide (1099511627776 < x1) = false := decide_eq_false (by omega)
        have s3 : decide (x2 < 0) = false := decide_eq_false (by omega)
        have s4 : decide (1099511627776 < x2) = false := decide_eq_false (by omega)
        have Ho := Lib.hid o
        clear o o'
        by_cases hk0 : 0 < k
        · have u1 : decide (0 < (k : Int)) = true := decide_eq_true (by omega)
          have u2 : decide (0 < k) = true := decide_eq_true hk0
          obtain ⟨t, ht⟩ : ∃ t, t = k - 1 := ⟨_, rfl⟩
          have Et : Hid (IntKind.i64.wrap ((k : Int) - 1) = (t : Int)) := by unfold Hid; rw [IntKind.wrap_i64]; omega
          have tl : (t : Int) < xs.length := by omega
          obtain ⟨d0, d1⟩ := HP.out hk0
          rw [← ht] at d0 d1
          clear ht HP HBk
          by_cases q1 : y1 < x1
          · have v1 : decide (y1 ≥ x1) = false := decide_eq_false (by omega)
            have v1' : decide (x1 ≤ y1) = false := decide_eq_false (by omega)
            by_cases q2 : y2 = x2
            · have v2 : (y2 == x2) = true := by rw [q2]; simp
              have hr := Lib.hid (fin50.out fun h => (h.2 hk0).2 q2)
              clear fin50 HOK HN Ho q2
              go_wp2_with fail
              have et := Et.out
              go_region
              clear et
              go_wp2_with fail
              go_ret
              exact ⟨ret_int hr.out.symm, below_drewN HB.out _⟩
            · have v2 : (y2 == x2) = false := by rw [beq_eq_false_iff_ne]; exact q2
              have hn := Lib.hid (HN.out (HOK.out.2 ⟨Ho.out, fun _ => ⟨q1, q2⟩⟩))
              clear fin50 HOK HN Ho q2
              go_wp2_with fail
              have et := Et.out
              go_region
              clear et
              go_wp2_with fail
              go_roundw
              case rel => exact ⟨k + 1, hlt, by go_num, hn, below_drewN HB.out _⟩
              case measure => simp [RowKit.intOf]; omega
          · have v1 : decide (y1 ≥ x1) = true := decide_eq_true (by omega)
            have v1' : decide (x1 ≤ y1) = true := decide_eq_true (by omega)
            have hr := Lib.hid (fin50.out fun h => q1 (h.2 hk0).1)
            clear fin50 HOK HN Ho
            go_wp2_with fail
            have et := Et.out
            go_region
            clear et
            go_wp2_with fail
            go_ret
            exact ⟨ret_int hr.out.symm, below_drewN HB.out _⟩
        · have hn := Lib.hid (HN.out (HOK.out.2 ⟨Ho.out, fun h => absurd h hk0⟩))
          have u1 : decide (0 < (k : Int)) = false := decide_eq_false (by omega)
          have u2 : decide (0 < k) = false := decide_eq_false hk0
          have u3 : decide ((k : Int) > 0) = false := decide_eq_false (by omega)
          have HK0 := Lib.hid hk0
          clear fin50 HOK HN Ho HP HBk hk0
          go_wp2_with fail
          go_region
          go_wp2_with fail
          go_roundw
          case rel => exact ⟨k + 1, hlt, by go_num, hn, below_drewN HB.out _⟩
          case measure => simp [RowKit.intOf]; omega
      · have hr := Lib.hid (fin50.out fun h => o h.1)
        have o' := o
        unfold okL MaxT at o'
        dsimp only at o'
        clear fin50 HOK HN HP HBk o
        by_cases s1 : x1 < 0
        · have s1' : decide (x1 < 0) = true := decide_eq_true s1
          clear o'
          go_wp2_with fail
          go_ret
          exact ⟨ret_int hr.out.symm, HB.out⟩
        · have s1' : decide (x1 < 0) = false := decide_eq_false s1
          by_cases s2 : 1099511627776 < x1
          · have s2' : decide (1099511627776 < x1) = true := decide_eq_true s2
            clear o'
            go_wp2_with fail
            go_ret
            exact ⟨ret_int hr.out.symm, HB.out⟩
          · have s2' : decide (1099511627776 < x1) = false := decide_eq_false s2
            by_cases s3 : x2 < 0
            · have s3' : decide (x2 < 0) = true := decide_eq_true s3
              clear o'
              go_wp2_with fail
              go_ret
              exact ⟨ret_int hr.out.symm, HB.out⟩
            · have s3' : decide (x2 < 0) = false := decide_eq_false s3
              have s4' : decide (1099511627776 < x2) = true := decide_eq_true (by omega)
              clear o'
              go_wp2_with fail
              go_ret
              exact ⟨ret_int hr.out.symm, HB.out⟩
    · obtain rfl : k = xs.length := by omega
      have hlt' : decide (xs.length < xs.length) = false := decide_eq_false hlt
      have hr := Lib.hid (HGOOD.out hok.out)
      clear HBAD HGOOD hok
      go_wp2_with fail
      go_ret
      exact ⟨ret_int hr.out.symm, hB⟩
theorem refCheck_nil (a : Option Addr) (c : Nat) (w : World) : Calls Try.prog 19 #[.slice a 0 c] w fun e w' => e = .returned (.int .i64 50) ∧ Below w.heap.size w w' := by
  go_enter Try.func19, Try.ntmps19
  go_wp2_with fail
  go_ret
  exact ⟨rfl, Below.refl _ _⟩
theorem refCheck_any (v : Value) (xs : List Lv) (w : World) (hn : xs.length ≤ 1048576) (h : LRow w v xs) :
    Calls Try.prog 19 #[v] w fun e w' => e = .returned (.int .i64 (checkV xs)) ∧ Below w.heap.size w w' := by
  rcases h with ⟨rfl, a, c, rfl, _⟩ | ⟨b, off, c, rfl, h0, _, _, hc⟩
  · rw [checkV_no not_ok_nil]; exact refCheck_nil a c w
  · exact refCheck_row b off c xs w hn h0 hc

/-! Same. -/
def leqB (a b a' b' : Int) : Bool := decide ((a, b) = (a', b'))
theorem lv_eql (a b a' b' : Int) (w : World) : Sem.run Try.prog (binOp .eql 49 (.agg #[.int .i64 a, .int .i64 b]) (.agg #[.int .i64 a', .int .i64 b'])) w = .ok (.bool (leqB a b a' b')) w := by
  have u3 := Try.underlying3
  have a3 := Try.isAgg3
  have z3 := Try.sizeOf3
  have hS : Try.prog.underlying 49 = some (.struct (Try.prog.fieldsOf 49)) := by kernel_rfl
  have hp : Try.prog.stoodInHeld 49 = false := by kernel_rfl
  rw [run_eql_struct, show (10000 : Nat) = 9999 + 1 from rfl, run_equalIn_agg w 9999 49 _ _ hS hp]
  simp only [Program.fieldsOf, Try.underlying49]
  go_simp
  by_cases h1 : a = a' <;> by_cases h2 : b = b' <;> simp [leqB, h1, h2]
theorem lv_neq (a b a' b' : Int) (w : World) : Sem.run Try.prog (binOp .neq 49 (.agg #[.int .i64 a, .int .i64 b]) (.agg #[.int .i64 a', .int .i64 b'])) w = .ok (.bool (!leqB a b a' b')) w := by
  have u3 := Try.underlying3
  have a3 := Try.isAgg3
  have z3 := Try.sizeOf3
  have hS : Try.prog.underlying 49 = some (.struct (Try.prog.fieldsOf 49)) := by kernel_rfl
  have hp : Try.prog.stoodInHeld 49 = false := by kernel_rfl
  rw [run_neq_struct, show (10000 : Nat) = 9999 + 1 from rfl, run_equalIn_agg w 9999 49 _ _ hS hp]
  simp only [Program.fieldsOf, Try.underlying49]
  go_simp
  by_cases h1 : a = a' <;> by_cases h2 : b = b' <;> simp [leqB, h1, h2]
theorem lv_grd (op : BinOp) (x y : Operand) (a b : Array Value) (w : World) : Sem.run Try.prog (eqGuard op 49 x y (.agg a) (.agg b)) w = .ok () w := run_eqGuard_agg w op _ _ _ _ _ (by kernel_rfl)
attribute [local go_sem ↓] lv_eql lv_neq lv_grd
theorem take_lv {xs : List Lv} {k : Nat} (h : k < xs.length) : xs.take (k + 1) = xs.take k ++ [lv xs k] := by rw [List.take_add_one, lv_get h]; rfl
theorem same_row (b off c b' off' c' : Nat) (xs ys : List Lv) (w : World) (hn : xs.length ≤ 1048576) (hl : xs.length = ys.length) (hc : LCells w b off xs) (hc' : LCells w b' off' ys) :
    Calls Try.prog 22 #[.slice (some ⟨b, off, none⟩) xs.length c, .slice (some ⟨b', off', none⟩) xs.length c'] w
      fun e w' => e = .returned (.bool (decide (xs = ys))) ∧ Below w.heap.size w w' := by
  have HL := Lib.hid hl
  have HC := Lib.hid hc
  have HC' := Lib.hid hc'
  have t : (xs.length != xs.length) = false := by simp
  clear hc hc' hl
  go_enter Try.func22, Try.ntmps22
  go_wp2_with fail
  go_loopw [5] (fun i wr => ∃ k : Nat, k ≤ xs.length ∧ i = .int .i64 k ∧ Hid (xs.take k = ys.take k) ∧ Below w.heap.size w wr)
    (fun i _ => xs.length - (RowKit.intOf i).toNat)
  case atStart => exact ⟨0, Nat.zero_le _, rfl, by unfold Hid; simp, Below.refl _ _⟩
  case round =>
    obtain ⟨k, hk, rfl, HE, hB⟩ := hrel
    by_cases hlt : k < xs.length
    · have hlt' : decide (k < xs.length) = true := decide_eq_true hlt
      have hlt2 : (k : Int) < xs.length := by omega
      have hky : k < ys.length := by have := HL.out; omega
      obtain ⟨c0, c1⟩ := HC.out.at hB hlt
      obtain ⟨d0, d1⟩ := HC'.out.at hB hky
      have T1 := Lib.hid (take_lv hlt)
      have T2 := Lib.hid (take_lv hky)
      have G1 := Lib.hid (lv_get hlt)
      have G2 := Lib.hid (lv_get hky)
      have HB := Lib.hid hB
      clear hB
      obtain ⟨x, hx⟩ : ∃ x, x = lv xs k := ⟨_, rfl⟩
      obtain ⟨y, hy⟩ : ∃ y, y = lv ys k := ⟨_, rfl⟩
      rw [← hx] at c0 c1 T1 G1
      rw [← hy] at d0 d1 T2 G2
      clear hx hy
      obtain ⟨x1, x2⟩ := x
      obtain ⟨y1, y2⟩ := y
      dsimp only at c0 c1 d0 d1
      cases hq : leqB x1 x2 y1 y2
      · have HN : Hid (decide (xs = ys) = false) := by
          unfold Hid
          rw [decide_eq_false_iff_not]
          rintro rfl
          have e := G1.out.symm.trans G2.out
          simp only [leqB, decide_eq_false_iff_not] at hq
          exact hq (Option.some.inj e)
        go_wp2_with fail
        go_region
        go_wp2_with fail
        go_ret
        exact ⟨by rw [HN.out]; rfl, below_drewN HB.out _⟩
      · have HN : Hid (xs.take (k + 1) = ys.take (k + 1)) := by
          have : (x1, x2) = (y1, y2) := by simpa [leqB] using hq
          unfold Hid
          rw [T1.out, T2.out, HE.out, this]
        go_wp2_with fail
        go_region
        go_wp2_with fail
        go_roundw
        case rel => exact ⟨k + 1, hlt, by go_num, HN, below_drewN HB.out _⟩
        case measure => simp [RowKit.intOf]; omega
    · obtain rfl : k = xs.length := by omega
      have hlt' : decide (xs.length < xs.length) = false := decide_eq_false hlt
      have HN : Hid (decide (xs = ys) = true) := by
        have := HE.out
        rw [List.take_length, List.take_of_length_le (by have := HL.out; omega)] at this
        exact decide_eq_true this
      go_wp2_with fail
      go_ret
      exact ⟨by rw [HN.out]; rfl, hB⟩
theorem same_len (a : Option Addr) (n c : Nat) (a' : Option Addr) (n' c' : Nat) (w : World) (h : n ≠ n') (hn : n ≤ 1048576) (hn' : n' ≤ 1048576) :
    Calls Try.prog 22 #[.slice a n c, .slice a' n' c'] w fun e w' => e = .returned (.bool false) ∧ Below w.heap.size w w' := by
  have t : ((n : Int) != n') = true := by rw [bne_iff_ne]; omega
  have t2 : (n != n') = true := by rw [bne_iff_ne]; omega
  go_enter Try.func22, Try.ntmps22
  go_wp2_with fail
  go_ret
  exact ⟨rfl, Below.refl _ _⟩
theorem same_nil (a : Option Addr) (c : Nat) (a' : Option Addr) (c' : Nat) (w : World) :
    Calls Try.prog 22 #[.slice a 0 c, .slice a' 0 c'] w fun e w' => e = .returned (.bool true) ∧ Below w.heap.size w w' := by
  go_enter Try.func22, Try.ntmps22
  go_wp2_with fail
  refine wp_loop_rounds 1 ?_
  rw [rounds_succ]
  go_wp2_with fail
  go_ret
  exact ⟨rfl, Below.refl _ _⟩
theorem LRow.slice {w : World} {v : Value} {xs : List Lv} (h : LRow w v xs) : ∃ a c, v = .slice a xs.length c := by
  rcases h with ⟨rfl, a, c, rfl, _⟩ | ⟨b, off, c, rfl, _⟩
  · exact ⟨a, c, rfl⟩
  · exact ⟨_, c, rfl⟩
theorem same_any (v v' : Value) (xs ys : List Lv) (w : World) (hn : xs.length ≤ 1048576) (hn' : ys.length ≤ 1048576) (h : LRow w v xs) (h' : LRow w v' ys) :
    Calls Try.prog 22 #[v, v'] w fun e w' => e = .returned (.bool (decide (xs = ys))) ∧ Below w.heap.size w w' := by
  by_cases hl : xs.length = ys.length
  · rcases h with ⟨rfl, a, c, rfl, _⟩ | ⟨b, off, c, rfl, h0, _, _, hc⟩
    · obtain rfl : ys = [] := List.eq_nil_of_length_eq_zero (by simpa using hl.symm)
      obtain ⟨a', c', rfl⟩ := h'.slice
      exact same_nil a c a' c' w
    · rcases h' with ⟨rfl, _⟩ | ⟨b', off', c', rfl, _, _, _, hc'⟩
      · rw [List.length_nil] at hl; omega
      · rw [← hl]; exact same_row b off c b' off' c' xs ys w hn hl hc hc'
  · obtain ⟨a, c, rfl⟩ := h.slice
    obtain ⟨a', c', rfl⟩ := h'.slice
    rw [decide_eq_false fun e => hl (by rw [e])]
    exact same_len a _ c a' _ c' w hl hn hn'
end Go.Proofs.Ytnbgipegfnpobaa
