/-
  New, Order, Failed, Taken, Fits.
-/
import Derived.Test.YtcdlfhheolbhaaaYeF
import Derived.Test.YtcdlfhheolbhaaaYeG
namespace Go.Proofs.Ytcdlfhheolbhaaa
open Go Go.RowKit Go.Lib
set_option linter.unusedVariables false

/-! A yard of its own. -/
def nilV : Value := .slice none 0 0
def newCs (n : Nat) : Array Value := #[.int .i64 (n : Int), nilV, nilV, nilV, nilV, nilV, nilV, nilV, nilV, nilV, nilV, nilV, nilV, nilV]
theorem newCs_at (n : Nat) {j : Nat} (h1 : 1 ≤ j) (h2 : j ≤ 13) : (newCs n)[j]? = some nilV := by
  rcases (by omega : j = 1 ∨ j = 2 ∨ j = 3 ∨ j = 4 ∨ j = 5 ∨ j = 6 ∨ j = 7 ∨ j = 8 ∨ j = 9 ∨ j = 10 ∨ j = 11 ∨ j = 12 ∨ j = 13) with rfl | rfl | rfl | rfl | rfl | rfl | rfl | rfl | rfl | rfl | rfl | rfl | rfl <;> rfl
/-- A yard all of whose rows are nil. -/
theorem YM.blank (w : World) (g : Nat) (own : Nat → Prop) (n : Nat) (hB : Blk w g (newCs n) 65) (hg : own g) (hnew : ∀ k, w.heap.size ≤ k → own k) : YM w g own (newCs n) (fun _ => []) := by
  refine ⟨hB, rfl, hg, hnew, fun j h1 h2 => ⟨nilV, 0, newCs_at n h1 h2, World.ownsRow_nil _ _ _ _⟩, fun j v g' h1 h2 hv hg' => ?_, fun j k v u g' h1 h2 h3 h4 hv hu hg' => ?_⟩
  · rw [newCs_at n h1 h2] at hv; cases hv; cases hg'
  · rw [newCs_at n h1 h2] at hv; cases hv; cases hg'
theorem opn_new {n x : Nat} : opn n [] [] x = decide (x < 2 ^ n) := by unfold opn heldB; simp
theorem isF_new {n o s : Nat} : isF n (opn n [] []) o s ↔ o = n ∧ s = 0 := by
  constructor
  · rintro ⟨h1, h2, h3, h4, h5⟩
    have e : o = n := by
      apply Classical.byContradiction
      intro hne
      have hlt : o < n := by omega
      refine h5 hlt fun x hx => ?_
      have := up_le h2 hlt h3
      rw [opn_new]
      exact decide_eq_true (by unfold inB at hx; omega)
    subst e
    exact ⟨rfl, by omega⟩
  · rintro ⟨rfl, rfl⟩
    exact ⟨Nat.le_refl _, Nat.zero_mod _, by omega, fun x hx => by rw [opn_new]; exact decide_eq_true (by unfold inB at hx; omega), fun h => absurd h (Nat.lt_irrefl _)⟩
theorem frL_new {n o : Nat} : frL n (opn n [] []) o = if o = n then [0] else [] := by
  symm
  split
  · rename_i h
    exact frL_of (by simp) fun s => by rw [isF_new]; simp [h]
  · rename_i h
    exact frL_of (by simp) fun s => by rw [isF_new]; simp [h]

def NewPost (q : Int) (w : World) (e : Ending) (w' : World) : Prop :=
  (∃ n g : Nat, q = n ∧ n ≤ 10 ∧ e = .returned (.tuple #[.pointer (some ⟨g, 0, none⟩), .int .i64 0]) ∧ YS w' g (fun k => w.heap.size ≤ k) n [] [] ∧ Below w.heap.size w w') ∨
  (¬ (0 ≤ q ∧ q ≤ 10) ∧ e = .returned (.tuple #[.pointer none, .int .i64 2]) ∧ w' = w)
set_option maxHeartbeats 2000000 in
theorem New_any (q : Int) (w : World) : Calls Try.prog 12 #[.int .i64 q] w fun e w' => NewPost q w e w' := by
  by_cases h1 : q < 0
  · have d1 : decide (q < 0) = true := decide_eq_true h1
    go_enter Try.func12, Try.ntmps12
    go_wp2_with fail
    go_returns
    exact .inr ⟨by omega, rfl, rfl⟩
  · have d1 : decide (q < 0) = false := decide_eq_false h1
    by_cases h2 : (10 : Int) < q
    · have d2 : decide ((10 : Int) < q) = true := decide_eq_true h2
      go_enter Try.func12, Try.ntmps12
      go_wp2_with fail
      go_returns
      exact .inr ⟨by omega, rfl, rfl⟩
    · have d2 : decide ((10 : Int) < q) = false := decide_eq_false h2
      obtain ⟨n, rfl⟩ : ∃ n : Nat, q = n := ⟨q.toNat, by omega⟩
      have hn : n ≤ 10 := by omega
      have hi1 : (n : Int) < 11 := by omega
      have hi2 : (0 : Int) ≤ (n : Int) := by omega
      have hB0 : Blk (w.alloc (.cells (newCs n) 65)) w.heap.size (newCs n) 65 := Blk.new _ _ _
      have HB1 : Blk ((w.alloc (.cells (newCs n) 65)).alloc (.cells #[.int .i64 0] 3)) w.heap.size (newCs n) 65 := hB0.old _
      have hc := HB1.at (newCs_at n (j := 1 + n) (by omega) (by omega))
      unfold nilV at hc
      have HM : Hid (YS ((((w.alloc (.cells (newCs n) 65)).alloc (.cells #[.int .i64 0] 3)).setCell ⟨w.heap.size, 1 + n, none⟩ (.slice (some ⟨w.heap.size + 1, 0, none⟩) 1 1))) w.heap.size (fun k => w.heap.size ≤ k) n [] []) := by
        have hY := YM.blank _ _ (fun k => w.heap.size ≤ k) n hB0 (Nat.le_refl _) (fun k hk => by simp at hk; omega)
        have hS : slS (1 + n) = 1 := by unfold slS; rw [if_neg (by omega)]
        have hT : slT (1 + n) = 3 := by unfold slT; rw [if_neg (by omega)]
        have hg : (w.alloc (.cells (newCs n) 65)).grownBy ((w.alloc (.cells (newCs n) 65)).alloc (.cells #[.int .i64 0] 3)) none := World.grownBy_alloc _ _ _
        obtain ⟨p1, p2, p3⟩ := hY.put (j := 1 + n) (by omega) (by omega) (v := nilV) (v' := .slice (some ⟨w.heap.size + 1, 0, none⟩) 1 1) (newCs_at n (by omega) (by omega)) (w1 := (w.alloc (.cells (newCs n) 65)).alloc (.cells #[.int .i64 0] 3)) hg
          (fun g hg => by simp [Value.ownBlock] at hg; exact .inr (by simp; omega)) (m := 1) (xs := natL [0])
          (by
            rw [hS, hT]
            exact ⟨rfl, .inr ⟨w.heap.size + 1, 1, #[.int .i64 0], rfl, Nat.zero_le _, Blk.fresh _ _ _ _ (by simp), Nat.le_refl _, by unfold maxLen; omega, rfl, rfl⟩⟩)
        refine ⟨okY_new hn, _, p1.congr fun j j1 j2 => ?_, ?_, hn⟩
        · unfold updX slX
          by_cases hj : j = 1 + n
          · rw [if_pos hj, if_neg (by omega), if_neg (by omega), frL_new, if_pos (by omega)]
          · rw [if_neg hj]
            by_cases h12 : j = 12
            · rw [if_pos h12]; rfl
            · rw [if_neg h12]
              by_cases h13 : j = 13
              · rw [if_pos h13]; rfl
              · rw [if_neg h13, frL_new, if_neg (by omega)]; rfl
        · rw [Array.getElem?_setIfInBounds_ne (by omega)]; rfl
      have HBel : Hid (Below w.heap.size w ((((w.alloc (.cells (newCs n) 65)).alloc (.cells #[.int .i64 0] 3)).setCell ⟨w.heap.size, 1 + n, none⟩ (.slice (some ⟨w.heap.size + 1, 0, none⟩) 1 1)))) :=
        (((Below.refl _ _).alloc (Nat.le_refl _) _).alloc (by simp) _).setCell (p := ⟨w.heap.size, 1 + n, none⟩) (Nat.le_refl _) _
      unfold newCs nilV at hc HM HBel
      have hc1 := hc.1
      have hc2 := hc.2
      clear hB0 HB1 hc
      go_enter Try.func12, Try.ntmps12
      go_wp2_with fail
      go_returns
      have hm := HM.out
      have hb := HBel.out
      simp [go_sem] at hm hb
      exact .inl ⟨n, w.heap.size, rfl, hn, rfl, hm, hb⟩

theorem Order_any (y : Nat) (own : Nat → Prop) (n : Nat) (tk : List Bk) (fl : List Nat) (w : World) (hY : YS w y own n tk fl) :
    Calls Try.prog 14 #[.pointer (some ⟨y, 0, none⟩)] w fun e w' => e = .returned (.int .i64 (n : Int)) ∧ w' = w := by
  have hy := hY.2.ord
  clear hY
  go_enter Try.func14, Try.ntmps14
  go_wp2_with fail
  go_ret
  exact ⟨rfl, rfl⟩
theorem Failed_any (y : Nat) (own : Nat → Prop) (n : Nat) (tk : List Bk) (fl : List Nat) (w : World) (hY : YS w y own n tk fl) :
    Calls Try.prog 19 #[.pointer (some ⟨y, 0, none⟩)] w fun e w' => ∃ v', e = .returned v' ∧ NOwn w' w.heap.size v' (natI fl) ∧ Below w.heap.size w w' := by
  obtain ⟨v, hv, hr⟩ := hY.2.fl
  have C := Lib.hid (cloneN_any v (natI fl) w (by rw [natI_len]; have := hY.1.flen; omega) (nrow_of_own hr))
  clear hY hr
  go_enter Try.func19, Try.ntmps19
  go_wp2_with fail
  refine C.out.mono ?_; rintro e w1 ⟨v', rfl, h1, b1⟩
  have H1 := Lib.hid h1
  clear h1
  go_wp2_with fail
  go_ret
  exact ⟨v', rfl, H1.out, b1⟩

/-- Whether there is a block. -/
def fitsB (n : Nat) (op : Opn) (q : Int) : Prop := ∃ o k : Nat, q = o ∧ o ≤ k ∧ k ≤ n ∧ frL n op k ≠ []
def FitsPost (n : Nat) (op : Opn) (q : Int) (w : World) (e : Ending) (w' : World) : Prop := ∃ r : Bool, e = .returned (.bool r) ∧ (r = true ↔ fitsB n op q) ∧ Below w.heap.size w w'
set_option maxHeartbeats 2000000 in
theorem Fits_any (y : Nat) (own : Nat → Prop) (n : Nat) (op : Opn) (tk : List Bk) (fl : List Nat) (q : Int) (w : World) (hY : YI w y own n op tk fl) :
    Calls Try.prog 27 #[.pointer (some ⟨y, 0, none⟩), .int .i64 q] w fun e w' => FitsPost n op q w e w' := by
  have hn := hY.n10
  have hy0 := hY.ord
  obtain ⟨N, hN⟩ : ∃ N : Int, N = (n : Int) := ⟨_, rfl⟩
  rw [← hN] at hy0
  by_cases h1 : 0 ≤ q
  · have d1 : decide (0 ≤ q) = true := decide_eq_true h1
    by_cases h2 : q ≤ N
    · have d2 : decide (q ≤ N) = true := decide_eq_true h2
      obtain ⟨o, hqo⟩ : ∃ o : Nat, q = o := ⟨q.toNat, by omega⟩
      have SF : Hid (∀ j, Calls Try.prog 52 #[.pointer (some ⟨y, 0, none⟩), .int .i64 q] (w.drewN j)
          fun e w' => ∃ r : Int, e = .returned (.int .i64 r) ∧ ((r = -1 ∧ ∀ k, o ≤ k → k ≤ n → frL n op k = []) ∨ (∃ k : Nat, r = k ∧ o ≤ k ∧ k ≤ n ∧ frL n op k ≠ [] ∧ ∀ j, o ≤ j → j < k → frL n op j = [])) ∧ w' = w.drewN j) := fun j => by
        rw [hqo]; exact sufficient_any y own n op tk fl o (w.drewN j) (hY.kept (below_drewN (Below.refl _ _) _))
      have HQ := Lib.hid hqo
      clear hY hqo hN
      go_enter Try.func27, Try.ntmps27
      go_wp2_with fail
      refine (SF.out 0).mono ?_; rintro e w1 ⟨r, rfl, hr, hw⟩
      obtain rfl : w1 = w := hw
      rcases hr with ⟨rfl, hall⟩ | ⟨k, rfl, h4, h5, h6, h7⟩
      · have hno : ¬ fitsB n op q := by rintro ⟨o', k, e, h3, h4, h5⟩; exact h5 (hall k (by have := HQ.out; omega) h4)
        have HNO := Lib.hid hno
        clear hno hall
        go_wp2_with fail
        go_returns
        exact ⟨false, rfl, ⟨fun h => (by cases h), fun h => absurd h HNO.out⟩, Below.refl _ _⟩
      · have hyes : fitsB n op q := ⟨o, k, HQ.out, h4, h5, h6⟩
        have HYES := Lib.hid hyes
        have hk0 : (0 : Int) ≤ (k : Int) := by omega
        have hk1 : decide ((0 : Int) ≤ (k : Int)) = true := decide_eq_true hk0
        clear hyes h6 h7
        go_wp2_with fail
        go_returns
        exact ⟨true, rfl, ⟨fun _ => HYES.out, fun _ => rfl⟩, Below.refl _ _⟩
    · have d2 : decide (q ≤ N) = false := decide_eq_false h2
      have hno : ¬ fitsB n op q := by rintro ⟨o, k, e, h3, h4, _⟩; omega
      have HNO := Lib.hid hno
      clear hY hN hno
      go_enter Try.func27, Try.ntmps27
      go_wp2_with fail
      go_returns
      exact ⟨false, rfl, ⟨fun h => (by cases h), fun h => absurd h HNO.out⟩, by first | exact Below.refl _ _ | exact (Below.refl _ _).drew⟩
  · have d1 : decide (0 ≤ q) = false := decide_eq_false h1
    have hno : ¬ fitsB n op q := by rintro ⟨o, k, e, h3, h4, _⟩; omega
    have HNO := Lib.hid hno
    clear hY hN hno
    go_enter Try.func27, Try.ntmps27
    go_wp2_with fail
    go_returns
    exact ⟨false, rfl, ⟨fun h => (by cases h), fun h => absurd h HNO.out⟩, by first | exact Below.refl _ _ | exact (Below.refl _ _).drew⟩
end Go.Proofs.Ytcdlfhheolbhaaa
