/-
  gangerref03.Twice, slices.IsSortedFunc at keys, rank.Check, gangerref03.Check: at any keys.
-/
import Derived.Test.YtpgiladbljnpcaaKeyD
namespace Go.Proofs.Ytpgiladbljnpcaa
open Go.ChangeShapes Go.WideShapes Go.ChangeAt Go.RowKit Go.Lib Go.Sort Go.Maps
set_option linter.unusedVariables false

def at_ (xs : List Key) (k : Nat) : Key := xs.getD k default
theorem at_get {xs : List Key} {k : Nat} (h : k < xs.length) : xs[k]? = some (at_ xs k) := by simp [at_, List.getD, List.getElem?_eq_getElem h]
theorem at_getElem {xs : List Key} {k : Nat} (h : k < xs.length) : xs[k] = at_ xs k := by
  have := at_get h; rw [List.getElem?_eq_getElem h] at this; simpa using this
theorem pairwise_at {R : Key → Key → Prop} (xs : List Key) : xs.Pairwise R ↔ ∀ i j, i < j → j < xs.length → R (at_ xs i) (at_ xs j) := by
  rw [List.pairwise_iff_getElem]
  constructor
  · intro h i j hij hj
    have := h i j (by omega) hj hij
    rw [at_getElem, at_getElem] at this; exact this
  · intro h i j hi hj hij
    rw [at_getElem, at_getElem]; exact h i j hij hj
theorem ids_succ (xs : List Key) (i : Nat) (h : i < xs.length) : idsOk (xs.take (i + 1)) ↔ idsOk (xs.take i) ∧ ∀ j, j < i → (at_ xs j).2.2 ≠ (at_ xs i).2.2 := by
  have hl : (xs.take (i + 1)).length = i + 1 := by rw [List.length_take]; omega
  have hl' : (xs.take i).length = i := by rw [List.length_take]; omega
  have ha : ∀ n j, j < n → at_ (xs.take n) j = at_ xs j := fun n j hj => by unfold at_; simp [List.getD, hj]
  unfold idsOk
  rw [pairwise_at, pairwise_at, hl, hl']
  constructor
  · intro hh
    refine ⟨fun a b hab hb => ?_, fun j hj => ?_⟩
    · have := hh a b hab (by omega); rw [ha _ _ (by omega), ha _ _ (by omega)] at this; rw [ha _ _ (by omega), ha _ _ (by omega)]; exact this
    · have := hh j i hj (by omega); rw [ha _ _ (by omega), ha _ _ (by omega)] at this; exact this
  · rintro ⟨h1, h2⟩ a b hab hb
    rw [ha _ _ (by omega), ha _ _ (by omega)]
    by_cases hbi : b = i
    · subst hbi; exact h2 a hab
    · have := h1 a b hab (by omega); rw [ha _ _ (by omega), ha _ _ (by omega)] at this; exact this
/-- The cells of key k, behind what has been made since. -/
theorem KCells.at {w wr : World} {b off : Nat} {xs : List Key} (h : KCells w b off xs) (hB : Below w.heap.size w wr) {k : Nat} (hk : k < xs.length) :
    wr.cell? ⟨b, off + k * 3, none⟩ = some (.int .i64 (at_ xs k).1) ∧ wr.cell? ⟨b, off + k * 3 + 1, none⟩ = some (.int .i64 (at_ xs k).2.1) ∧ wr.cell? ⟨b, off + k * 3 + 2, none⟩ = some (.int .u32 (at_ xs k).2.2) :=
  (h.kept hB).2 k hk

set_option maxRecDepth 100000 in
theorem twice_row (b off c : Nat) (xs : List Key) (w : World) (hn : xs.length ≤ 1048576) (hc : KCells w b off xs) :
    Calls Try.prog 37 #[.slice (some ⟨b, off, none⟩) xs.length c] w fun e w' => e = .returned (.bool (twiceB xs)) ∧ Below w.heap.size w w' := by
  have HC := Lib.hid hc
  clear hc
  go_enter Try.func37, Try.ntmps37
  go_wp2_with fail
  go_loopw [3] (fun i wr => ∃ k : Nat, k ≤ xs.length ∧ i = .int .i64 k ∧ idsOk (xs.take k) ∧ Below w.heap.size w wr)
    (fun i _ => xs.length - (intOf i).toNat)
  case atStart => exact ⟨0, Nat.zero_le _, rfl, by simp [idsOk], Below.refl _ _⟩
  case round =>
    obtain ⟨k, hk, rfl, he0, hB⟩ := hrel
    have HE := Lib.hid he0
    clear he0
    by_cases hlt : k < xs.length
    · have hlt' : decide (k < xs.length) = true := decide_eq_true hlt
      have hlt2 : (k : Int) < xs.length := by omega
      go_wp2_with fail
      go_loopw [4] (fun j w1 => ∃ m : Nat, m ≤ k ∧ j = .int .i64 m ∧ (∀ q, q < m → (at_ xs q).2.2 ≠ (at_ xs k).2.2) ∧ Below w.heap.size w w1)
        (fun j _ => k - (intOf j).toNat)
      case atStart => exact ⟨0, Nat.zero_le _, rfl, fun q hq => absurd hq (Nat.not_lt_zero _), hB⟩
      case round =>
        obtain ⟨m, hm, rfl, he1, hB1⟩ := hrel
        have HM := Lib.hid he1
        clear he1 hB
        by_cases hmk : m < k
        · have hmk' : decide (m < k) = true := decide_eq_true hmk
          have hmn : m < xs.length := by omega
          have hmn2 : (m : Int) < xs.length := by omega
          obtain ⟨c0, c1, c2⟩ := HC.out.at hB1 hlt
          obtain ⟨d0, d1, d2⟩ := HC.out.at hB1 hmn
          cases hq : ((at_ xs m).2.2 == (at_ xs k).2.2)
          · have HN : Hid (∀ q, q < m + 1 → (at_ xs q).2.2 ≠ (at_ xs k).2.2) := by
              intro q hq'
              rcases Nat.lt_succ_iff_lt_or_eq.1 hq' with h | rfl
              · exact HM.out q h
              · simpa using hq
            generalize (at_ xs m).2.2 = x at *
            generalize (at_ xs k).2.2 = y at *
            go_wp2_with fail
            go_quiet (fail)
            go_wp2_with fail
            go_roundw
            case rel => exact ⟨m + 1, hmk, by go_num, HN.out, below_drewN hB1 _⟩
            case measure => simp [intOf]; omega
          · have HN : Hid (twiceB xs = true) := by
              have h0 : (at_ xs m).2.2 = (at_ xs k).2.2 := by simpa using hq
              unfold Hid twiceB
              simp only [Bool.not_eq_true', decide_eq_false_iff_not]
              intro hh
              unfold idsOk at hh
              rw [pairwise_at] at hh
              exact hh m k hmk hlt h0
            generalize (at_ xs m).2.2 = x at *
            generalize (at_ xs k).2.2 = y at *
            go_wp2_with fail
            go_quiet (fail)
            go_wp2_with fail
            go_ret
            exact ⟨kret_bool HN.out.symm, below_drewN hB1 _⟩
        · obtain rfl : m = k := by omega
          have hmk' : decide (m < m) = false := decide_eq_false (by omega)
          have HN : Hid (idsOk (xs.take (m + 1))) := (ids_succ xs m hlt).2 ⟨HE.out, HM.out⟩
          go_wp2_with fail
          go_roundw
          case rel => exact ⟨m + 1, hlt, by go_num, HN.out, hB1⟩
          case measure => simp [intOf]; omega
    · obtain rfl : k = xs.length := by omega
      have hlt' : decide (xs.length < xs.length) = false := decide_eq_false (by omega)
      have HN : Hid (twiceB xs = false) := by
        have := HE.out
        rw [List.take_length] at this
        unfold Hid twiceB
        simp [this]
      go_wp2_with fail
      go_ret
      exact ⟨kret_bool HN.out.symm, hB⟩
theorem twice_nil (a : Option Addr) (c : Nat) (w : World) :
    Calls Try.prog 37 #[.slice a 0 c] w fun e w' => e = .returned (.bool false) ∧ Below w.heap.size w w' := by
  go_enter Try.func37, Try.ntmps37
  go_wp2_with fail
  refine wp_loop_rounds 1 ?_
  rw [rounds_succ]
  go_wp2_with fail
  go_ret
  exact ⟨rfl, Below.refl _ _⟩
theorem twice_any (v : Value) (xs : List Key) (w : World) (hn : xs.length ≤ 1048576) (h : KRow w v xs) :
    Calls Try.prog 37 #[v] w fun e w' => e = .returned (.bool (twiceB xs)) ∧ Below w.heap.size w w' := by
  rcases h with ⟨rfl, a, c, rfl, _⟩ | ⟨b, off, c, rfl, h0, h1, h2, hc⟩
  · exact twice_nil a c w
  · exact twice_row b off c xs w hn hc

/-- No key is ahead of the one ahead of it. -/
def sortedB (xs : List Key) : Bool := decide (xs.Pairwise fun x y => kLess y x = false)
theorem sorted_adj {xs : List Key} (h : ∀ j, j + 1 < xs.length → kLess (at_ xs (j + 1)) (at_ xs j) = false) : sortedB xs = true := by
  unfold sortedB
  rw [decide_eq_true_eq, pairwise_at]
  intro i j hij
  induction j with
  | zero => omega
  | succ j ih =>
    intro hj
    by_cases e : i = j
    · subst e; exact h i hj
    · exact swoK.ntrans _ _ _ (h j hj) (ih (by omega) (by omega))
theorem ranked_of {xs : List Key} (h : idsOk xs) : sortedB xs = rankedB xs := by
  rw [Bool.eq_iff_iff, rankedB_iff]
  unfold sortedB
  rw [decide_eq_true_eq]
  unfold idsOk at h
  constructor
  · intro h2
    refine (h.and h2).imp fun {a b} hh => ?_
    cases e : kLess a b
    · exfalso; have := totK a b e hh.2; exact hh.1 (by rw [this])
    · rfl
  · exact fun h2 => h2.imp fun {a b} hh => less_asymm hh

set_option maxHeartbeats 1000000 in
theorem isSorted_row (b off c : Nat) (xs : List Key) (w : World) (hn : xs.length ≤ 1048576) (hc : KCells w b off xs) :
    Calls Try.prog 34 #[.slice (some ⟨b, off, none⟩) xs.length c, .func (.func 32) #[] #[]] w
      fun e w' => e = .returned (.bool (sortedB xs)) ∧ Below w.heap.size w w' := by
  have HC := Lib.hid hc
  clear hc
  go_enter Try.func34, Try.ntmps34
  go_wp2_with fail
  go_loopw [5] (fun i wr => ∃ (iz : Int) (k : Nat), i = .int .i64 iz ∧ (0 < iz → iz = k ∧ k < xs.length) ∧ (¬ 0 < iz → k = 0) ∧ (∀ j, k ≤ j → j + 1 < xs.length → kLess (at_ xs (j + 1)) (at_ xs j) = false) ∧ Below w.heap.size w wr)
    (fun i _ => (intOf i).toNat)
  case atStart => exact ⟨(xs.length : Int) - 1, xs.length - 1, rfl, fun h => ⟨by omega, by omega⟩, fun h => by omega, fun j hj hj' => by omega, Below.refl _ _⟩
  case round =>
    obtain ⟨iz, k, rfl, h1, h2, he0, hB⟩ := hrel
    have HE := Lib.hid he0
    clear he0
    by_cases hlt : 0 < iz
    · obtain ⟨rfl, hk⟩ := h1 hlt
      clear h1 h2
      obtain ⟨t, rfl⟩ : ∃ t, k = t + 1 := ⟨k - 1, by omega⟩
      have hqz : ((t + 1 : Nat) : Int) = (t : Int) + 1 := by omega
      rw [hqz] at hlt ⊢
      obtain ⟨c0, c1, c2⟩ := HC.out.at hB hk
      obtain ⟨d0, d1, d2⟩ := HC.out.at hB (show t < xs.length by omega)
      have HK : Hid (∀ w, Calls Try.prog 32 #[keyV (at_ xs (t + 1)), keyV (at_ xs t)] w fun e w' => e = .returned (.int .i64 (cmpK (at_ xs (t + 1)) (at_ xs t))) ∧ Grew w w') := fun w => compare_any _ _ w
      have HQ : Hid (kLess (at_ xs (t + 1)) (at_ xs t) = decide (cmpK (at_ xs (t + 1)) (at_ xs t) < 0)) := rfl
      unfold keyV at HK
      obtain ⟨i, hi⟩ : ∃ i, i = t + 1 := ⟨_, rfl⟩
      have ei : ((t : Int) + 1).toNat = i := by omega
      have ej : ((t : Int)).toNat = t := by omega
      have ew : IntKind.i64.wrap ((t : Int) + 1 - 1) = (t : Int) := by rw [IntKind.wrap_i64]; omega
      have ew2 : IntKind.i64.wrap (t : Int) = (t : Int) := by rw [IntKind.wrap_i64]; omega
      have bi : (t : Int) + 1 < xs.length := by omega
      have bj : (t : Int) < xs.length := by omega
      have bj0 : (0 : Int) ≤ t := by omega
      have bi0 : (0 : Int) ≤ (t : Int) + 1 := by omega
      have hi' := Lib.hid hi
      rw [← hi] at c0 c1 c2 HK HQ
      clear hqz hi
      generalize cmpK (at_ xs i) (at_ xs t) = r at *
      obtain ⟨x, hxi⟩ : ∃ x, x = at_ xs i := ⟨_, rfl⟩
      obtain ⟨y, hyt⟩ : ∃ y, y = at_ xs t := ⟨_, rfl⟩
      rw [← hxi] at c0 c1 c2 HK HQ
      rw [← hyt] at d0 d1 d2 HK HQ
      have HXI := Lib.hid hxi
      have HYT := Lib.hid hyt
      clear hxi hyt
      cases hq : decide (r < 0)
      all_goals
        go_wp2_with fail
        go_region_held3 (fun w' => w'.cell? ⟨b, off + i * 3, none⟩ = some (.int .i64 x.1) ∧ w'.cell? ⟨b, off + i * 3 + 1, none⟩ = some (.int .i64 x.2.1) ∧ w'.cell? ⟨b, off + i * 3 + 2, none⟩ = some (.int .u32 x.2.2) ∧
            w'.cell? ⟨b, off + t * 3, none⟩ = some (.int .i64 y.1) ∧ w'.cell? ⟨b, off + t * 3 + 1, none⟩ = some (.int .i64 y.2.1) ∧ w'.cell? ⟨b, off + t * 3 + 2, none⟩ = some (.int .u32 y.2.2) ∧ Below w.heap.size w w')
          (first
            | exact ⟨c0, c1, c2, d0, d1, d2, hB.drew⟩
            | (rcases ‹_ ∧ _ ∧ _ ∧ _ ∧ _ ∧ _ ∧ Below _ _ _› with ⟨g0, g1, g2, g3, g4, g5, g6⟩; exact ⟨cell_next (Grew.below (by assumption)) g0, cell_next (Grew.below (by assumption)) g1, cell_next (Grew.below (by assumption)) g2, cell_next (Grew.below (by assumption)) g3, cell_next (Grew.below (by assumption)) g4, cell_next (Grew.below (by assumption)) g5, below_next (Grew.below (by assumption)) g6⟩))
          (first
            | (go_at_call 32; ((with_reducible refine (HK.out _).mono ?_); rintro e w2 ⟨rfl, b2⟩)))
        rcases ‹_ ∧ _ ∧ _ ∧ _ ∧ _ ∧ _ ∧ Below _ _ _› with ⟨_, _, _, _, _, _, g6⟩
      · have HN : Hid (∀ j, t ≤ j → j + 1 < xs.length → kLess (at_ xs (j + 1)) (at_ xs j) = false) := by
          intro j hj hj'
          by_cases e : j = t
          · rw [e, ← hi'.out, ← HXI.out, ← HYT.out, HQ.out]; exact hq
          · exact HE.out j (by omega) hj'
        clear ei ej ew ew2 hq
        go_wp2_with fail
        go_roundw
        case rel => exact ⟨(t : Int), t, by go_num, fun _ => ⟨rfl, by omega⟩, fun h => by omega, HN.out, g6⟩
        case measure => simp [intOf]
      · have HN : Hid (sortedB xs = false) := by
          unfold Hid sortedB
          rw [decide_eq_false_iff_not, pairwise_at]
          intro hh
          have := hh t i (by have := hi'.out; omega) (by have := hi'.out; omega)
          rw [← HXI.out, ← HYT.out, HQ.out, hq] at this
          cases this
        clear ei ej ew ew2 hq
        go_wp2_with fail
        go_ret
        exact ⟨kret_bool HN.out.symm, g6⟩
    · obtain rfl := h2 hlt
      have hlt' : decide (0 < iz) = false := decide_eq_false hlt
      have HN : Hid (sortedB xs = true) := sorted_adj fun j hj => HE.out j (Nat.zero_le _) hj
      clear h1 h2
      go_wp2_with fail
      go_ret
      exact ⟨kret_bool HN.out.symm, hB⟩
theorem isSorted_nil (a : Option Addr) (c : Nat) (f : Value) (w : World) :
    Calls Try.prog 34 #[.slice a 0 c, f] w fun e w' => e = .returned (.bool true) ∧ Below w.heap.size w w' := by
  go_enter Try.func34, Try.ntmps34
  go_wp2_with fail
  refine wp_loop_rounds 1 ?_
  rw [rounds_succ]
  go_wp2_with fail
  go_ret
  exact ⟨rfl, Below.refl _ _⟩
theorem isSorted_any (v : Value) (xs : List Key) (w : World) (hn : xs.length ≤ 1048576) (h : KRow w v xs) :
    Calls Try.prog 34 #[v, .func (.func 32) #[] #[]] w fun e w' => e = .returned (.bool (sortedB xs)) ∧ Below w.heap.size w w' := by
  rcases h with ⟨rfl, a, c, rfl, _⟩ | ⟨b, off, c, rfl, h0, h1, h2, hc⟩
  · exact (isSorted_nil a c _ w).mono fun e w' ⟨he, hb⟩ => ⟨he.trans (kret_bool (by simp [sortedB])), hb⟩
  · exact isSorted_row b off c xs w hn hc
theorem ids_of_twice {xs : List Key} (h : twiceB xs = false) : idsOk xs := by unfold twiceB at h; simpa using h
/-- rank.Check: at any keys. -/
theorem check_any (v : Value) (xs : List Key) (w : World) (hn : xs.length ≤ 1048576) (hid : ∀ x ∈ xs, (Lit.int .u32 x.2.2).wf = true) (h : KRow w v xs) :
    Calls Try.prog 15 #[v] w fun e w' => e = .returned (.int .i64 (checkV xs)) ∧ Below w.heap.size w w' := by
  have H1 : Hid (Calls Try.prog 33 #[v] w fun e w' => e = .returned (.bool (twiceB xs)) ∧ Below w.heap.size w w') := anyTwice_any v xs w hn hid h
  have H2 : Hid (∀ w1, Below w.heap.size w w1 → Calls Try.prog 34 #[v, .func (.func 32) #[] #[]] w1 fun e w' => e = .returned (.bool (sortedB xs)) ∧ Below w1.heap.size w1 w') :=
    fun w1 hb => isSorted_any v xs w1 hn (h.kept hb)
  have E : Hid (twiceB xs = false → sortedB xs = rankedB xs) := fun h => ranked_of (ids_of_twice h)
  have EV : Hid (checkV xs = if twiceB xs then 30 else if rankedB xs then 0 else 2) := rfl
  clear hn hid h
  generalize checkV xs = cv at *
  cases ht : twiceB xs
  · have E' := E.out ht
    rw [ht] at H1 EV
    clear E ht
    generalize sortedB xs = s at *
    subst E'
    cases hr : rankedB xs
    · rw [hr] at H2 EV
      clear hr
      obtain rfl : cv = 2 := EV.out
      go_enter Try.func15, Try.ntmps15
      go_wp2_with fail
      refine H1.out.mono ?_; rintro e w1 ⟨rfl, b1⟩
      go_wp2_with fail
      refine (H2.out _ b1).mono ?_; rintro e w2 ⟨rfl, b2⟩
      go_wp2_with fail
      go_ret
      exact ⟨rfl, below_next b2 b1⟩
    · rw [hr] at H2 EV
      clear hr
      obtain rfl : cv = 0 := EV.out
      go_enter Try.func15, Try.ntmps15
      go_wp2_with fail
      refine H1.out.mono ?_; rintro e w1 ⟨rfl, b1⟩
      go_wp2_with fail
      refine (H2.out _ b1).mono ?_; rintro e w2 ⟨rfl, b2⟩
      go_wp2_with fail
      go_ret
      exact ⟨rfl, below_next b2 b1⟩
  · rw [ht] at H1 EV
    clear ht E H2
    obtain rfl : cv = 30 := EV.out
    go_enter Try.func15, Try.ntmps15
    go_wp2_with fail
    refine H1.out.mono ?_; rintro e w1 ⟨rfl, b1⟩
    go_wp2_with fail
    go_ret
    exact ⟨rfl, b1⟩
theorem ranked_adj {xs : List Key} (h : ∀ j, j + 1 < xs.length → kLess (at_ xs j) (at_ xs (j + 1)) = true) : rankedB xs = true := by
  rw [rankedB_iff, pairwise_at]
  intro i j hij
  induction j with
  | zero => omega
  | succ j ih =>
    intro hj
    by_cases e : i = j
    · subst e; exact h i hj
    · exact less_trans (ih (by omega) (by omega)) (h j hj)

set_option maxHeartbeats 1000000 in
theorem refCheck_row (b off c : Nat) (xs : List Key) (w : World) (hn : xs.length ≤ 1048576) (h0 : 0 < xs.length) (hc : KCells w b off xs) :
    Calls Try.prog 18 #[.slice (some ⟨b, off, none⟩) xs.length c] w fun e w' => e = .returned (.int .i64 (checkV xs)) ∧ Below w.heap.size w w' := by
  have H1 : Hid (Calls Try.prog 37 #[.slice (some ⟨b, off, none⟩) xs.length c] w fun e w' => e = .returned (.bool (twiceB xs)) ∧ Below w.heap.size w w') := twice_row b off c xs w hn hc
  have EV : Hid (checkV xs = if twiceB xs then 30 else if rankedB xs then 0 else 2) := rfl
  have HC := Lib.hid hc
  clear hc
  cases ht : twiceB xs
  · rw [ht] at H1 EV
    clear ht
    generalize checkV xs = cv at *
    go_enter Try.func18, Try.ntmps18
    go_wp2_with fail
    refine H1.out.mono ?_; rintro e w1 ⟨rfl, b1⟩
    go_wp2_with fail
    go_loopw [3] (fun i wr => ∃ t : Nat, t + 1 ≤ xs.length ∧ i = .int .i64 ((t : Int) + 1) ∧ (∀ j, j + 1 < t + 1 → kLess (at_ xs j) (at_ xs (j + 1)) = true) ∧ Below w.heap.size w wr)
      (fun i _ => xs.length - (intOf i).toNat)
    case atStart => exact ⟨0, h0, rfl, fun j hj => by omega, b1⟩
    case round =>
      obtain ⟨t, htn, rfl, he0, hB⟩ := hrel
      have HE := Lib.hid he0
      clear he0
      by_cases hlt : t + 1 < xs.length
      · have hlt' : decide ((t : Int) + 1 < xs.length) = true := decide_eq_true (by omega)
        obtain ⟨c0, c1, c2⟩ := HC.out.at hB hlt
        obtain ⟨d0, d1, d2⟩ := HC.out.at hB (show t < xs.length by omega)
        have HK : Hid (∀ w, Calls Try.prog 11 #[keyV (at_ xs t), keyV (at_ xs (t + 1))] w fun e w' => e = .returned (.bool (kLess (at_ xs t) (at_ xs (t + 1)))) ∧ Below w.heap.size w w') := fun w => refLess_any _ _ w
        unfold keyV at HK
        obtain ⟨i, hi⟩ : ∃ i, i = t + 1 := ⟨_, rfl⟩
        have ei : ((t : Int) + 1).toNat = i := by omega
        have ej : ((t : Int)).toNat = t := by omega
        have ew : IntKind.i64.wrap ((t : Int) + 1 - 1) = (t : Int) := by rw [IntKind.wrap_i64]; omega
        have ew2 : IntKind.i64.wrap (t : Int) = (t : Int) := by rw [IntKind.wrap_i64]; omega
        have bi : (t : Int) + 1 < xs.length := by omega
        have bj : (t : Int) < xs.length := by omega
        have bj0 : (0 : Int) ≤ t := by omega
        have bi0 : (0 : Int) ≤ (t : Int) + 1 := by omega
        have hi' := Lib.hid hi
        rw [← hi] at c0 c1 c2 HK
        clear hi
        obtain ⟨x, hxi⟩ : ∃ x, x = at_ xs i := ⟨_, rfl⟩
        obtain ⟨y, hyt⟩ : ∃ y, y = at_ xs t := ⟨_, rfl⟩
        rw [← hxi] at c0 c1 c2 HK
        rw [← hyt] at d0 d1 d2 HK
        have HXI := Lib.hid hxi
        have HYT := Lib.hid hyt
        clear hxi hyt
        cases hq : kLess y x
        all_goals
          rw [hq] at HK
          have HQ := Lib.hid hq
          clear hq
          go_wp2_with fail
          go_region_held3 (fun w' => w'.cell? ⟨b, off + i * 3, none⟩ = some (.int .i64 x.1) ∧ w'.cell? ⟨b, off + i * 3 + 1, none⟩ = some (.int .i64 x.2.1) ∧ w'.cell? ⟨b, off + i * 3 + 2, none⟩ = some (.int .u32 x.2.2) ∧
              w'.cell? ⟨b, off + t * 3, none⟩ = some (.int .i64 y.1) ∧ w'.cell? ⟨b, off + t * 3 + 1, none⟩ = some (.int .i64 y.2.1) ∧ w'.cell? ⟨b, off + t * 3 + 2, none⟩ = some (.int .u32 y.2.2) ∧ Below w.heap.size w w')
            (first
              | exact ⟨c0, c1, c2, d0, d1, d2, hB.drew⟩
              | (rcases ‹_ ∧ _ ∧ _ ∧ _ ∧ _ ∧ _ ∧ Below _ _ _› with ⟨g0, g1, g2, g3, g4, g5, g6⟩; exact ⟨cell_next (by assumption) g0, cell_next (by assumption) g1, cell_next (by assumption) g2, cell_next (by assumption) g3, cell_next (by assumption) g4, cell_next (by assumption) g5, below_next (by assumption) g6⟩))
            (first
              | (go_at_call 11; ((with_reducible refine (HK.out _).mono ?_); rintro e w2 ⟨rfl, b2⟩)))
          rcases ‹_ ∧ _ ∧ _ ∧ _ ∧ _ ∧ _ ∧ Below _ _ _› with ⟨_, _, _, _, _, _, g6⟩
        · have HN : Hid (cv = 2) := by
            have e : rankedB xs = false := by
              rw [← Bool.not_eq_true, rankedB_iff, pairwise_at]
              intro hh
              have := hh t i (by have := hi'.out; omega) (by have := hi'.out; omega)
              rw [← HXI.out, ← HYT.out, HQ.out] at this
              cases this
            have := EV.out
            rw [e] at this; exact this
          clear ei ej ew ew2
          go_wp2_with fail
          go_ret
          exact ⟨kret_int HN.out.symm, g6⟩
        · have HN : Hid (∀ j, j + 1 < i + 1 → kLess (at_ xs j) (at_ xs (j + 1)) = true) := by
            intro j hj
            by_cases e : j = t
            · rw [e, ← hi'.out, ← HXI.out, ← HYT.out]; exact HQ.out
            · exact HE.out j (by have := hi'.out; omega)
          clear ei ej ew ew2
          go_wp2_with fail
          go_roundw
          case rel => exact ⟨i, by have := hi'.out; omega, by have := hi'.out; subst this; go_num, HN.out, g6⟩
          case measure => simp [intOf]; omega
      · have hlt' : decide ((t : Int) + 1 < xs.length) = false := decide_eq_false (by omega)
        have HN : Hid (cv = 0) := by
          have e : rankedB xs = true := ranked_adj fun j hj => HE.out j (by omega)
          have := EV.out
          rw [e] at this; exact this
        go_wp2_with fail
        go_ret
        exact ⟨kret_int HN.out.symm, hB⟩
  · rw [ht] at H1 EV
    clear ht
    generalize checkV xs = cv at *
    obtain rfl : cv = 30 := EV.out
    go_enter Try.func18, Try.ntmps18
    go_wp2_with fail
    refine H1.out.mono ?_; rintro e w1 ⟨rfl, b1⟩
    go_wp2_with fail
    go_ret
    exact ⟨rfl, b1⟩
theorem refCheck_nil (a : Option Addr) (c : Nat) (w : World) :
    Calls Try.prog 18 #[.slice a 0 c] w fun e w' => e = .returned (.int .i64 0) ∧ Below w.heap.size w w' := by
  go_enter Try.func18, Try.ntmps18
  go_wp2_with fail
  refine (twice_nil a c _).mono ?_; rintro e w1 ⟨rfl, b1⟩
  go_wp2_with fail
  refine wp_loop_rounds 1 ?_
  rw [rounds_succ]
  go_wp2_with fail
  go_ret
  exact ⟨rfl, b1⟩
theorem refCheck_any (v : Value) (xs : List Key) (w : World) (hn : xs.length ≤ 1048576) (h : KRow w v xs) :
    Calls Try.prog 18 #[v] w fun e w' => e = .returned (.int .i64 (checkV xs)) ∧ Below w.heap.size w w' := by
  rcases h with ⟨rfl, a, c, rfl, _⟩ | ⟨b, off, c, rfl, h0, h1, h2, hc⟩
  · exact (refCheck_nil a c w).mono fun e w' ⟨he, hb⟩ => ⟨he.trans (kret_int (by decide)), hb⟩
  · exact refCheck_row b off c xs w hn h0 hc
end Go.Proofs.Ytpgiladbljnpcaa
