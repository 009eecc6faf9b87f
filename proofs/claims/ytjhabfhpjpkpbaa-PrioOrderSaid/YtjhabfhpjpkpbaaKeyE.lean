/-
  gangerref03.Twice, slices.IsSortedFunc at keys, rank.Check, gangerref03.Check: at any keys.
-/
import Derived.Test.YtjhabfhpjpkpbaaKeyD
namespace Go.Proofs.Ytjhabfhpjpkpbaa
open Go.ChangeShapes Go.WideShapes Go.ChangeAt Go.RowKit Go.Lib Go.Sort Go.Maps
set_option linter.unusedVariables false

def at_ (xs : List Key) (k : Nat) : Key := xs.getD k default
theorem at_get {xs : List Key} {k : Nat} (h : k < xs.length) : xs[k]? = some (at_ xs k) := by simp [at_, List.getD, List.getElem?_eq_getElem h]
theorem at_getElem {xs : List Key} {k : Nat} (h : k < xs.length) : xs[k] = at_ xs k := by
  have := at_get h; rw [List.getElem?_eq_getElem h] at this; simpa using this
theorem pairwise_at {R : Key → Key → Prop} (xs : List Key) : xs.Pairwise R ↔ ∀ i j, i < j → j < xs.length → R (at_ xs i) (at_ xs j) := by
  rw [List.pairwise_iff_getElem]
  constructor
  · intro h i j hij hj
    have := h i j (by omega) hj hij
    rw [at_getElem, at_getElem] at this; exact this
  · intro h i j hi hj hij
    rw [at_getElem, at_getElem]; exact h i j hij hj
theorem ids_succ (xs : List Key) (i : Nat) (h : i < xs.length) : idsOk (xs.take (i + 1)) ↔ idsOk (xs.take i) ∧ ∀ j, j < i → (at_ xs j).2.2 ≠ (at_ xs i).2.2 := by
  have hl : (xs.take (i + 1)).length = i + 1 := by rw [List.length_take]; omega
  have hl' : (xs.take i).length = i := by rw [List.length_take]; omega
  have ha : ∀ n j, j < n → at_ (xs.take n) j = at_ xs j := fun n j hj => by unfold at_; simp [List.getD, hj]
  unfold idsOk
  rw [pairwise_at, pairwise_at, hl, hl']
  constructor
  · intro hh
    refine ⟨fun a b hab hb => ?_, fun j hj => ?_⟩
    · have := hh a b hab (by omega); rw [ha _ _ (by omega), ha _ _ (by omega)] at this; rw [ha _ _ (by omega), ha _ _ (by omega)]; exact this
    · have := hh j i hj (by omega); rw [ha _ _ (by omega), ha _ _ (by omega)] at this; exact this
  · rintro ⟨h1, h2⟩ a b hab hb
    rw [ha _ _ (by omega), ha _ _ (by omega)]
    by_cases hbi : b = i
    · subst hbi; exact h2 a hab
    · have := h1 a b hab (by omega); rw [ha _ _ (by omega), ha _ _ (by omega)] at this; exact this
/-- The cells of key k, behind what has been made since. -/
theorem KCells.at {w wr : World} {b off : Nat} {xs : List Key} (h : KCells w b off xs) (hB : Below w.heap.size w wr) {k : Nat} (hk : k < xs.length) :
    wr.cell? ⟨b, off + k * 3, none⟩ = some (.int .i64 (at_ xs k).1) ∧ wr.cell? ⟨b, off + k * 3 + 1, none⟩ = some (.int .i64 (at_ xs k).2.1) ∧ wr.cell? ⟨b, off + k * 3 + 2, none⟩ = some (.int .u32 (at_ xs k).2.2) :=
  (h.kept hB).2 k hk

set_option maxRecDepth 100000 in
theorem twice_row (b off c : Nat) (xs : List Key) (w : World) (hn : xs.length ≤ 1048576) (hc : KCells w b off xs) :
    Calls Try.prog 40 #[.slice (some ⟨b, off, none⟩) xs.length c] w fun e w' => e = .returned (.bool (twiceB xs)) ∧ Below w.heap.size w w' := by
  have HC := Lib.hid hc
  clear hc
  go_enter Try.func40, Try.ntmps40
  go_wp2_with fail
  go_loopw [3] (fun i wr => ∃ k : Nat, k ≤ xs.length ∧ i = .int .i64 k ∧ idsOk (xs.take k) ∧ Below w.heap.size w wr)
    (fun i _ => xs.length - (intOf i).toNat)
  case atStart => exact ⟨0, Nat.zero_le _, rfl, by simp [idsOk], Below.refl _ _⟩
  case round =>
    obtain ⟨k, hk, rfl, he0, hB⟩ := hrel
    have HE := Lib.hid he0
    clear he0
    by_cases hlt : k < xs.length
    · have hlt' : decide (k < xs.length) = true := decide_eq_true hlt
      have hlt2 : (k : Int) < xs.length := by omega
      go_wp2_with fail
      go_loopw [4] (fun j w1 => ∃ m : Nat, m ≤ k ∧ j = .int .i64 m ∧ (∀ q, q < m → (at_ xs q).2.2 ≠ (at_ xs k).2.2) ∧ Below w.heap.size w w1)
        (fun j _ => k - (intOf j).toNat)
      case atStart => exact ⟨0, Nat.zero_le _, rfl, fun q hq => absurd hq (Nat.not_lt_zero _), hB⟩
      case round =>
        obtain ⟨m, hm, rfl, he1, hB1⟩ := hrel
        have HM := Lib.hid he1
        clear he1 hB
        by_cases hmk : m < k
        · have hmk' : decide (m < k) = true := decide_eq_true hmk
          have hmn : m < xs.length := by omega
          have hmn2 : (m : Int) < xs.length := by omega
          obtain ⟨c0, c1, c2⟩ := HC.out.at hB1 hlt
          obtain ⟨d0, d1, d2⟩ := HC.out.at hB1 hmn
          cases hq : ((at_ xs m).2.2 == (at_ xs k).2.2)
          · have HN : Hid (∀ q, q < m + 1 → (at_ xs q).2.2 ≠ (at_ xs k).2.2) := by
              intro q hq'
              rcases Nat.lt_succ_iff_lt_or_eq.1 hq' with h | rfl
              · exact HM.out q h
              · simpa using hq
            generalize (at_ xs m).2.2 = x at *
            generalize (at_ xs k).2.2 = y at *
            go_wp2_with fail
            go_quiet (fail)
            go_wp2_with fail
            go_roundw
            case rel => exact ⟨m + 1, hmk, by go_num, HN.out, below_drewN hB1 _⟩
            case measure => simp [intOf]; omega
          · have HN : Hid (twiceB xs = true) := by
              have h0 : (at_ xs m).2.2 = (at_ xs k).2.2 := by simpa using hq
              unfold Hid twiceB
              simp only [Bool.not_eq_true', decide_eq_false_iff_not]
              intro hh
              unfold idsOk at hh
              rw [pairwise_at] at hh
              exact hh m k hmk hlt h0
            generalize (at_ xs m).2.2 = x at *
            generalize (at_ xs k).2.2 = y at *
            go_wp2_with fail
            go_quiet (fail)
            go_wp2_with fail
            go_ret
            exact ⟨kret_bool HN.out.symm, below_drewN hB1 _⟩
        · obtain rfl : m = k := by omega
          have hmk' : decide (m < m) = false := decide_eq_false (by omega)
          have HN : Hid (idsOk (xs.take (m + 1))) := (ids_succ xs m hlt).2 ⟨HE.out, HM.out⟩
          go_wp2_with fail
          go_roundw
          case rel => exact ⟨m + 1, hlt, by go_num, HN.out, hB1⟩
          case measure => simp [intOf]; omega
    · obtain rfl : k = xs.length := by omega
      have hlt' : decide (xs.length < xs.length) = false := decide_eq_false (by omega)
      have HN : Hid (twiceB xs = false) := by
        have := HE.out
        rw [List.take_length] at this
        unfold Hid twiceB
        simp [this]
      go_wp2_with fail
      go_ret
      exact ⟨kret_bool HN.out.symm, hB⟩
theorem twice_nil (a : Option Addr) (c : Nat) (w : World) :
    Calls Try.prog 40 #[.slice a 0 c] w fun e w' => e = .returned (.bool false) ∧ Below w.heap.size w w' := by
  go_enter Try.func40, Try.ntmps40
  go_wp2_with fail
  refine wp_loop_rounds 1 ?_
  rw [rounds_succ]
  go_wp2_with fail
  go_ret
  exact ⟨rfl, Below.refl _ _⟩
theorem twice_any (v : Value) (xs : List Key) (w : World) (hn : xs.length ≤ 1048576) (h : KRow w v xs) :
    Calls Try.prog 40 #[v] w fun e w' => e = .returned (.bool (twiceB xs)) ∧ Below w.heap.size w w' := by
  rcases h with ⟨rfl, a, c, rfl, _⟩ | ⟨b, off, c, rfl, h0, h1, h2, hc⟩
  · exact twice_nil a c w
  · exact twice_row b off c xs w hn hc

/-- No key is ahead of the one ahead of it. -/
def sortedB (xs : List Key) : Bool := decide (xs.Pairwise fun x y => kLess y x = false)
theorem sorted_adj {xs : List Key} (h : ∀ j, j + 1 < xs.length → kLess (at_ xs (j + 1)) (at_ xs j) = false) : sortedB xs = true := by
  unfold sortedB
  rw [decide_eq_true_eq, pairwise_at]
  intro i j hij
  induction j with
  | zero => omega
  | succ j ih =>
    intro hj
    by_cases e : i = j
    · subst e; exact h i hj
    · exact swoK.ntrans _ _ _ (h j hj) (ih (by omega) (by omega))
theorem ranked_of {xs : List Key} (h : idsOk xs) : sortedB xs = rankedB xs := by
  rw [Bool.eq_iff_iff, rankedB_iff]
  unfold sortedB
  rw [decide_eq_true_eq]
  unfold idsOk at h
  constructor
  · intro h2
    refine (h.and h2).imp fun {a b} hh => ?_
    cases e : kLess a b
    · exfalso; have := totK a b e hh.2; exact hh.1 (by rw [this])
    · rfl
  · exact fun h2 => h2.imp fun {a b} hh => less_asymm hh

theorem ids_of_twice {xs : List Key} (h : twiceB xs = false) : idsOk xs := by unfold twiceB at h; simpa using h
theorem ranked_adj {xs : List Key} (h : ∀ j, j + 1 < xs.length → kLess (at_ xs j) (at_ xs (j + 1)) = true) : rankedB xs = true := by
  rw [rankedB_iff, pairwise_at]
  intro i j hij
  induction j with
  | zero => omega
  | succ j ih =>
    intro hj
    by_cases e : i = j
    · subst e; exact h i hj
    · exact less_trans (ih (by omega) (by omega)) (h j hj)

end Go.Proofs.Ytjhabfhpjpkpbaa
