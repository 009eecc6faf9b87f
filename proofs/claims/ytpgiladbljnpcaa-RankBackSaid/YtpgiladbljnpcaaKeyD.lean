/-
  gangerref03.Same, Twice: at any keys.
-/
import Derived.Test.YtpgiladbljnpcaaKeyC
import Derived.Laws.StructEq
import Derived.Shelf.SlicesE.Kit
namespace Go.Proofs.Ytpgiladbljnpcaa
open Go.ChangeShapes Go.WideShapes Go.ChangeAt Go.RowKit Go.Lib Go.Sort Go.Maps
set_option linter.unusedVariables false

def keqB (p t i p' t' i' : Int) : Bool := decide ((p, t, i) = (p', t', i'))
theorem key_eql (p t i p' t' i' : Int) (w : World) : Sem.run Try.prog (binOp .eql 24 (.agg #[.int .i64 p, .int .i64 t, .int .u32 i]) (.agg #[.int .i64 p', .int .i64 t', .int .u32 i'])) w = .ok (.bool (keqB p t i p' t' i')) w := by
  have u3 := Try.underlying3
  have a3 := Try.isAgg3
  have z3 := Try.sizeOf3
  have u22 := Try.underlying22
  have a22 := Try.isAgg22
  have z22 := Try.sizeOf22
  have hS : Try.prog.underlying 24 = some (.struct (Try.prog.fieldsOf 24)) := by kernel_rfl
  have hp : Try.prog.stoodInHeld 24 = false := by kernel_rfl
  rw [run_eql_struct, show (10000 : Nat) = 9999 + 1 from rfl, run_equalIn_agg w 9999 24 _ _ hS hp]
  simp only [Program.fieldsOf, Try.underlying24]
  go_simp
  by_cases h1 : p = p' <;> by_cases h2 : t = t' <;> by_cases h3 : i = i' <;> simp [keqB, h1, h2, h3]
theorem key_neq (p t i p' t' i' : Int) (w : World) : Sem.run Try.prog (binOp .neq 24 (.agg #[.int .i64 p, .int .i64 t, .int .u32 i]) (.agg #[.int .i64 p', .int .i64 t', .int .u32 i'])) w = .ok (.bool (!keqB p t i p' t' i')) w := by
  have u3 := Try.underlying3
  have a3 := Try.isAgg3
  have z3 := Try.sizeOf3
  have u22 := Try.underlying22
  have a22 := Try.isAgg22
  have z22 := Try.sizeOf22
  have hS : Try.prog.underlying 24 = some (.struct (Try.prog.fieldsOf 24)) := by kernel_rfl
  have hp : Try.prog.stoodInHeld 24 = false := by kernel_rfl
  rw [run_neq_struct, show (10000 : Nat) = 9999 + 1 from rfl, run_equalIn_agg w 9999 24 _ _ hS hp]
  simp only [Program.fieldsOf, Try.underlying24]
  go_simp
  by_cases h1 : p = p' <;> by_cases h2 : t = t' <;> by_cases h3 : i = i' <;> simp [keqB, h1, h2, h3]
theorem key_grd (op : BinOp) (x y : Operand) (a b : Array Value) (w : World) : Sem.run Try.prog (eqGuard op 24 x y (.agg a) (.agg b)) w = .ok () w := run_eqGuard_agg w op _ _ _ _ _ (by kernel_rfl)
attribute [local go_sem ↓] key_eql key_neq key_grd

theorem same_row (b off c b' off' c' : Nat) (xs ys : List Key) (w : World) (hn : xs.length ≤ 1048576) (hl : xs.length = ys.length) (hc : KCells w b off xs) (hc' : KCells w b' off' ys) :
    Calls Try.prog 19 #[.slice (some ⟨b, off, none⟩) xs.length c, .slice (some ⟨b', off', none⟩) xs.length c'] w
      fun e w' => e = .returned (.bool (decide (xs = ys))) ∧ Below w.heap.size w w' := by
  have HL := Lib.hid hl
  have HC := Lib.hid hc
  have HC' := Lib.hid hc'
  have t : (xs.length != xs.length) = false := by simp
  clear hc hc' hl
  go_enter Try.func19, Try.ntmps19
  go_wp2_with fail
  go_loopw [5] (fun i wr => ∃ k : Nat, k ≤ xs.length ∧ i = .int .i64 k ∧ xs.take k = ys.take k ∧ Below w.heap.size w wr)
    (fun i _ => xs.length - (intOf i).toNat)
  case atStart => exact ⟨0, Nat.zero_le _, rfl, by simp, Below.refl _ _⟩
  case round =>
    obtain ⟨k, hk, rfl, he0, hB⟩ := hrel
    have HE := Lib.hid he0
    clear he0
    by_cases hlt : k < xs.length
    · have hlt' : decide (k < xs.length) = true := decide_eq_true hlt
      have hlt2 : (k : Int) < xs.length := by omega
      obtain ⟨c0, c1, c2⟩ := HC.out.2 k hlt
      obtain ⟨c0', c1', c2'⟩ := HC'.out.2 k (by have := HL.out; omega)
      have d0 := (hB.cell (p := ⟨b, off + k * 3, none⟩) HC.out.1).trans c0
      have d1 := (hB.cell (p := ⟨b, off + k * 3 + 1, none⟩) HC.out.1).trans c1
      have d2 := (hB.cell (p := ⟨b, off + k * 3 + 2, none⟩) HC.out.1).trans c2
      have d0' := (hB.cell (p := ⟨b', off' + k * 3, none⟩) HC'.out.1).trans c0'
      have d1' := (hB.cell (p := ⟨b', off' + k * 3 + 1, none⟩) HC'.out.1).trans c1'
      have d2' := (hB.cell (p := ⟨b', off' + k * 3 + 2, none⟩) HC'.out.1).trans c2'
      clear c0 c1 c2 c0' c1' c2'
      obtain ⟨x, hxd⟩ : ∃ x, xs.getD k default = x := ⟨_, rfl⟩
      obtain ⟨y, hyd⟩ : ∃ y, ys.getD k default = y := ⟨_, rfl⟩
      rw [hxd] at d0 d1 d2
      rw [hyd] at d0' d1' d2'
      obtain ⟨p, t, i, hxe⟩ : ∃ p t i, x = (p, t, i) := ⟨x.1, x.2.1, x.2.2, rfl⟩
      obtain ⟨p', t', i', hye⟩ : ∃ p t i, y = (p, t, i) := ⟨y.1, y.2.1, y.2.2, rfl⟩
      rw [hxe] at d0 d1 d2
      rw [hye] at d0' d1' d2'
      cases hq : keqB p t i p' t' i'
      · have hne : ¬ x = y := by rw [hxe, hye]; unfold keqB at hq; simpa using hq
        have HN : Hid (¬ xs = ys) := by
          intro e; apply hne; rw [← hxd, ← hyd, e]
        clear hne hxe hye hxd hyd
        go_wp2_with fail
        go_quiet (fail)
        go_wp2_with fail
        go_ret
        exact ⟨kret_bool (by have := HN.out; simp [this]), below_drewN hB _⟩
      · have he : x = y := by rw [hxe, hye]; unfold keqB at hq; simpa using hq
        have HN : Hid (xs.take (k + 1) = ys.take (k + 1)) := by
          show _ = _
          rw [List.take_add_one, List.take_add_one, HE.out]
          congr 2
          have h1 : xs[k]? = some (xs.getD k default) := by simp [List.getD, List.getElem?_eq_getElem hlt]
          have h2 : ys[k]? = some (ys.getD k default) := by simp [List.getD, List.getElem?_eq_getElem (show k < ys.length by have := HL.out; omega)]
          rw [h1, h2, hxd, hyd, he]
        clear he hxe hye hxd hyd
        go_wp2_with fail
        go_quiet (fail)
        go_wp2_with fail
        go_roundw
        case rel => exact ⟨k + 1, hlt, by go_num, HN.out, below_drewN hB _⟩
        case measure => simp [intOf]; omega
    · obtain rfl : k = xs.length := by omega
      have hlt' : decide (xs.length < xs.length) = false := decide_eq_false (by omega)
      have HN : Hid (xs = ys) := by
        have := HE.out
        rw [List.take_length, HL.out, List.take_length] at this
        exact this
      go_wp2_with fail
      go_ret
      exact ⟨kret_bool (by have := HN.out; simp [this]), hB⟩
theorem same_len (a a' : Option Addr) (n c n' c' : Nat) (w : World) (hn : n ≤ 1048576) (hn' : n' ≤ 1048576) (h : n ≠ n') :
    Calls Try.prog 19 #[.slice a n c, .slice a' n' c'] w fun e w' => e = .returned (.bool false) ∧ Below w.heap.size w w' := by
  have t : ((n : Int) != n') = true := by simpa using fun e : (n : Int) = n' => h (by omega)
  have t' : (n != n') = true := by simpa using h
  clear h
  go_enter Try.func19, Try.ntmps19
  go_wp2_with fail
  go_ret
  exact ⟨rfl, Below.refl _ _⟩
theorem same_nil (a a' : Option Addr) (c c' : Nat) (w : World) :
    Calls Try.prog 19 #[.slice a 0 c, .slice a' 0 c'] w fun e w' => e = .returned (.bool true) ∧ Below w.heap.size w w' := by
  go_enter Try.func19, Try.ntmps19
  go_wp2_with fail
  refine wp_loop_rounds 1 ?_
  rw [rounds_succ]
  go_wp2_with fail
  go_ret
  exact ⟨rfl, Below.refl _ _⟩
/-- gangerref03.Same: at any two rows of keys. -/
theorem same_any (v v' : Value) (xs ys : List Key) (w : World) (hn : xs.length ≤ 1048576) (hn' : ys.length ≤ 1048576) (h : KRow w v xs) (h' : KRow w v' ys) :
    Calls Try.prog 19 #[v, v'] w fun e w' => e = .returned (.bool (decide (xs = ys))) ∧ Below w.heap.size w w' := by
  have sl : ∀ {v : Value} {xs : List Key}, KRow w v xs → ∃ a c, v = .slice a xs.length c := by
    rintro v xs (⟨rfl, a, c, rfl, _⟩ | ⟨b, off, c, rfl, _⟩)
    · exact ⟨a, c, rfl⟩
    · exact ⟨_, c, rfl⟩
  by_cases hl : xs.length = ys.length
  · rcases h with ⟨rfl, a, c, rfl, _⟩ | ⟨b, off, c, rfl, h0, h1, h2, hc⟩
    · obtain ⟨a', c', rfl⟩ := sl h'
      rw [← hl]
      have e : ys = [] := List.eq_nil_of_length_eq_zero (by simpa using hl.symm)
      subst e
      exact (same_nil a a' c c' w).mono fun e w' ⟨he, hb⟩ => ⟨he.trans (kret_bool (by simp)), hb⟩
    · rcases h' with ⟨rfl, a, c, rfl, _⟩ | ⟨b', off', c', rfl, h0', h1', h2', hc'⟩
      · exfalso; simp at hl; rw [hl] at h0; simp at h0
      · rw [← hl]
        exact same_row b off c b' off' c' xs ys w hn hl hc hc'
  · obtain ⟨a, c, rfl⟩ := sl h
    obtain ⟨a', c', rfl⟩ := sl h'
    exact (same_len a a' _ c _ c' w hn hn' hl).mono fun e w' ⟨he, hb⟩ => ⟨he.trans (kret_bool (by have : xs ≠ ys := fun e => hl (by rw [e]); simp [this])), hb⟩
end Go.Proofs.Ytpgiladbljnpcaa
