/-
  gangerref05.Fit: at any levels.
-/
import Derived.Test.YtnbgipegfnpobaaLvF
namespace Go.Proofs.Ytnbgipegfnpobaa
open Go Go.RowKit Go.Lib
set_option linter.unusedVariables false

theorem tsOf_nil (a : List Lv) : tsOf a [] = ats a := by unfold tsOf ats; simp
theorem find_idx {P : Int → Bool} {l : List Int} {i : Nat} (hi : i < l.length) (h : P (l.getD i 0) = true) (hno : ∀ j, j < i → P (l.getD j 0) = false) : l.find? P = some (l.getD i 0) := by
  induction l generalizing i with
  | nil => simp at hi
  | cons a r ih =>
    cases i with
    | zero =>
      have : P a = true := by simpa using h
      rw [List.find?, this]; rfl
    | succ i =>
      have : P a = false := by simpa using hno 0 (Nat.succ_pos _)
      rw [List.find?, this]
      simpa using ih (i := i) (by simpa using hi) (by simpa using h) fun j hj => by simpa using hno (j + 1) (by omega)
theorem find_idx_none {P : Int → Bool} {l : List Int} (hno : ∀ j, j < l.length → P (l.getD j 0) = false) : l.find? P = none := by
  rw [List.find?_eq_none]
  intro x hx
  obtain ⟨j, hj, rfl⟩ := List.mem_iff_getElem.1 hx
  have := hno j hj
  rw [List.getD_eq_getElem?_getD, List.getElem?_eq_getElem hj] at this
  simpa using this
set_option maxHeartbeats 4000000 in
theorem refFit_row (b off c : Nat) (xs : List Lv) (f n k : Int) (w : World) (hn : xs.length ≤ 1048576) (hr : LRow w (.slice (some ⟨b, off, none⟩) xs.length c) xs) (hc : LCells w b off xs) (hp : okP xs) (hb : ¬ badFit f n k) (f1 : f ≤ 9223372036854775807) (n1 : n ≤ 9223372036854775807) :
    Calls Try.prog 24 #[.slice (some ⟨b, off, none⟩) xs.length c, .int .i64 f, .int .i64 n, .int .i64 k] w fun e w' => e = .returned (.tuple #[.int .i64 (fitV xs f n k).1, .int .i64 (fitV xs f n k).2]) ∧ Below w.heap.size w w' := by
  have hlen : 0 < xs.length := List.length_pos_iff.2 hp.1
  have hleni : (0 : Int) < xs.length := by omega
  have C := Lib.hid (refCheck_any _ xs w hn hr)
  rw [checkV_ok hp] at C
  have hb' : ¬ (n < 1 ∨ MaxT < n ∨ f < 0 ∨ MaxT < f ∨ k < 0) := hb
  have h0b := (hp.2 0 hlen).1.1
  unfold MaxT at hb' h0b
  have t1 : decide (n < 1) = false := decide_eq_false (by omega)
  have t2 : decide (1099511627776 < n) = false := decide_eq_false (by omega)
  have t3 : decide (f < 0) = false := decide_eq_false (by omega)
  have t4 : decide (1099511627776 < f) = false := decide_eq_false (by omega)
  have t5 : decide (k < 0) = false := decide_eq_false (by omega)
  obtain ⟨T, hT⟩ : ∃ T, T = max f (lv xs 0).1 := ⟨_, rfl⟩
  have mT' : max f (lv xs 0).1 = T := hT.symm
  have E : Hid (∀ w1, Below w.heap.size w w1 → Calls Try.prog 35 #[.slice (some ⟨b, off, none⟩) xs.length c, .slice none 0 0, .int .i64 T] w1 fun e w' => ∃ v, e = .returned v ∧ IOwn w' w1.heap.size v (endsV T (ats xs)) ∧ Below w1.heap.size w1 w') := fun w1 hB => by
    have := ends_any _ _ xs [] T w1 hn (by simp) (hr.kept hB) (nil_row w1)
    rw [tsOf_nil] at this; exact this
  have EB : Hid (∀ t, t ∈ endsV T (ats xs) → 0 ≤ t ∧ t ≤ 1099511627776) := fun t ht => by
    rw [hT] at ht
    have := (cand_iff.1 ht).bounds hp (by unfold MaxT; omega)
    unfold MaxT at this; omega
  have L : Hid (∀ t w1, 0 ≤ t → t ≤ 1099511627776 → Below w.heap.size w w1 → Calls Try.prog 21 #[.slice (some ⟨b, off, none⟩) xs.length c, .int .i64 t, .int .i64 n] w1 fun e w' => e = .returned (.int .i64 (leastV xs t n)) ∧ Below w1.heap.size w1 w') := fun t w1 a1 a2 hB => refLeast_any _ xs t n w1 hn (hr.kept hB) (by omega) (by omega) n1
  have FY : Hid (∀ i, i < (endsV T (ats xs)).length → k ≤ leastV xs ((endsV T (ats xs)).getD i 0) n → (∀ j, j < i → leastV xs ((endsV T (ats xs)).getD j 0) n < k) → fitV xs f n k = ((endsV T (ats xs)).getD i 0, 0)) := fun i hi h1 h2 => by
    unfold fitV
    rw [if_neg (by simpa using hp), if_neg hb, ← hT, find_idx hi (decide_eq_true h1) fun j hj => decide_eq_false (by have := h2 j hj; omega)]
  have FN : Hid ((∀ j, j < (endsV T (ats xs)).length → leastV xs ((endsV T (ats xs)).getD j 0) n < k) → fitV xs f n k = (0, 5)) := fun h2 => by
    unfold fitV
    rw [if_neg (by simpa using hp), if_neg hb, ← hT, find_idx_none fun j hj => decide_eq_false (by have := h2 j hj; omega)]
  have hel : 0 < (endsV T (ats xs)).length := by obtain ⟨r, e⟩ := ends_head T (ats xs); rw [e]; simp
  have hel2 : (endsV T (ats xs)).length ≤ 2000000 := by
    have := (endsT_len T (ats xs) (ats xs).length).1
    rw [endsT_all, ats_len] at this; omega
  have HC := Lib.hid hc
  clear hr hc hT hb hb' hp
  generalize endsV T (ats xs) = l at *
  generalize fitV xs f n k = res at *
  go_enter Try.func24, Try.ntmps24
  go_wp2_with fail
  refine C.out.mono ?_; rintro e w1 ⟨rfl, b1⟩
  have B1 := Lib.hid b1; clear b1 C
  obtain ⟨c0, c1⟩ := HC.out.at B1.out hlen
  simp only [Nat.zero_mul, Nat.add_zero] at c0 c1
  go_wp2_with fail
  refine (E.out _ B1.out).mono ?_; rintro e w2 ⟨v, rfl, hO, b2⟩
  obtain ⟨g, cap, rfl, _, _, hgc, hgm, hcl⟩ := iown_parts hO hel
  have HL := Lib.hid hcl
  have B2 := Lib.hid (below_next b2 B1.out); clear b2 hcl hO c0 c1
  go_wp2_with fail
  go_loopw [12] (fun i wr => ∃ j : Nat, j ≤ l.length ∧ i = .int .i64 j ∧ Hid (∀ q, q < j → leastV xs (l.getD q 0) n < k) ∧ Below w2.heap.size w2 wr) (fun i _ => l.length - (RowKit.intOf i).toNat)
  case atStart => exact ⟨0, Nat.zero_le _, rfl, (fun q hq => absurd hq (Nat.not_lt_zero _)), Below.refl _ _⟩
  case round =>
    obtain ⟨j, hj, rfl, hno, hB⟩ := hrel
    by_cases hlt : j < l.length
    · have hlt' : decide (j < l.length) = true := decide_eq_true hlt
      have hlt2 : (j : Int) < l.length := by omega
      have d0 := cell_next hB (HL.out j hlt)
      have hmem : l.getD j 0 ∈ l := by rw [List.getD_eq_getElem?_getD, List.getElem?_eq_getElem hlt]; exact List.getElem_mem hlt
      obtain ⟨m1, m2⟩ := EB.out _ hmem
      have HB := Lib.hid hB
      have fy := Lib.hid (FY.out j hlt)
      have hn2 : Hid (leastV xs (l.getD j 0) n < k → ∀ q, q < j + 1 → leastV xs (l.getD q 0) n < k) := fun h q hq => by
        rcases Nat.lt_or_ge q j with h1 | h1
        · exact hno.out q h1
        · rw [show q = j by omega]; exact h
      have Lj := Lib.hid (fun w1 => L.out (l.getD j 0) w1 m1 m2)
      obtain ⟨t, ht⟩ : ∃ t, t = l.getD j 0 := ⟨_, rfl⟩
      rw [← ht] at d0 fy hn2 Lj m1 m2
      obtain ⟨r, hr⟩ : ∃ r, r = leastV xs t n := ⟨_, rfl⟩
      rw [← hr] at fy hn2 Lj
      clear hB hmem ht hr
      by_cases hrk : k ≤ r
      · have u : decide (r ≥ k) = true := decide_eq_true hrk
        have u2 : decide (k ≤ r) = true := decide_eq_true hrk
        have hres := Lib.hid (fy.out hrk hno.out)
        clear fy hn2
        go_wp2_with fail
        refine (Lj.out _ (below_next HB.out B2.out)).mono ?_; rintro e w3 ⟨rfl, b3⟩
        have d1 := cell_next b3 d0
        have B3 := Lib.hid (below_next b3 (below_next HB.out B2.out)); clear b3
        go_wp2_with fail
        go_ret2
        exact ⟨by rw [hres.out]; rfl, B3.out⟩
      · have u : decide (r ≥ k) = false := decide_eq_false hrk
        have u2 : decide (k ≤ r) = false := decide_eq_false hrk
        have hnx := Lib.hid (hn2.out (by omega))
        clear fy hn2
        go_wp2_with fail
        refine (Lj.out _ (below_next HB.out B2.out)).mono ?_; rintro e w3 ⟨rfl, b3⟩
        have B3 := Lib.hid (below_next b3 HB.out); clear b3
        go_wp2_with fail
        go_roundw
        case rel => exact ⟨j + 1, hlt, by go_num, hnx, B3.out⟩
        case measure => simp [RowKit.intOf]; omega
    · obtain rfl : j = l.length := by omega
      have hlt' : decide (l.length < l.length) = false := decide_eq_false hlt
      have hres := Lib.hid (FN.out hno.out)
      go_wp2_with fail
      go_ret2
      exact ⟨by rw [hres.out]; rfl, below_next hB B2.out⟩
theorem refFit_any (v : Value) (xs : List Lv) (f n k : Int) (w : World) (hn : xs.length ≤ 1048576) (h : LRow w v xs) (f1 : f ≤ 9223372036854775807) (n1 : n ≤ 9223372036854775807) :
    Calls Try.prog 24 #[v, .int .i64 f, .int .i64 n, .int .i64 k] w fun e w' => e = .returned (.tuple #[.int .i64 (fitV xs f n k).1, .int .i64 (fitV xs f n k).2]) ∧ Below w.heap.size w w' := by
  have C := Lib.hid (refCheck_any v xs w hn h)
  by_cases hp : okP xs
  · by_cases hb : badFit f n k
    · rw [fit_bad hp hb]
      rw [checkV_ok hp] at C
      unfold badFit MaxT at hb
      clear hp h
      by_cases h0 : n < 1
      · have q0 : decide (n < 1) = true := decide_eq_true h0
        clear hb
        go_enter Try.func24, Try.ntmps24
        go_wp2_with fail
        refine C.out.mono ?_; rintro e w1 ⟨rfl, b1⟩
        go_wp2_with fail
        go_ret2
        exact ⟨rfl, b1⟩
      · have q0 : decide (n < 1) = false := decide_eq_false h0
        by_cases h1 : 1099511627776 < n
        · have q1 : decide (1099511627776 < n) = true := decide_eq_true h1
          clear hb
          go_enter Try.func24, Try.ntmps24
          go_wp2_with fail
          refine C.out.mono ?_; rintro e w1 ⟨rfl, b1⟩
          go_wp2_with fail
          go_ret2
          exact ⟨rfl, b1⟩
        · have q1 : decide (1099511627776 < n) = false := decide_eq_false h1
          by_cases h2 : f < 0
          · have q2 : decide (f < 0) = true := decide_eq_true h2
            clear hb
            go_enter Try.func24, Try.ntmps24
            go_wp2_with fail
            refine C.out.mono ?_; rintro e w1 ⟨rfl, b1⟩
            go_wp2_with fail
            go_ret2
            exact ⟨rfl, b1⟩
          · have q2 : decide (f < 0) = false := decide_eq_false h2
            by_cases h3 : 1099511627776 < f
            · have q3 : decide (1099511627776 < f) = true := decide_eq_true h3
              clear hb
              go_enter Try.func24, Try.ntmps24
              go_wp2_with fail
              refine C.out.mono ?_; rintro e w1 ⟨rfl, b1⟩
              go_wp2_with fail
              go_ret2
              exact ⟨rfl, b1⟩
            · have q3 : decide (1099511627776 < f) = false := decide_eq_false h3
              have q4 : decide (k < 0) = true := decide_eq_true (by omega)
              clear hb
              go_enter Try.func24, Try.ntmps24
              go_wp2_with fail
              refine C.out.mono ?_; rintro e w1 ⟨rfl, b1⟩
              go_wp2_with fail
              go_ret2
              exact ⟨rfl, b1⟩
    · have hr := h
      rcases h with ⟨rfl, _⟩ | ⟨b, off, c, rfl, h0, h2, h3, hc⟩
      · exact absurd rfl hp.1
      · exact refFit_row b off c xs f n k w hn hr hc hp hb f1 n1
  · rw [fit_no hp]
    rw [checkV_no hp] at C
    clear h hp
    go_enter Try.func24, Try.ntmps24
    go_wp2_with fail
    refine C.out.mono ?_; rintro e w1 ⟨rfl, b1⟩
    go_wp2_with fail
    go_ret2
    exact ⟨rfl, b1⟩
end Go.Proofs.Ytnbgipegfnpobaa
