/-
  clock.Print, gangerref07.Print: at any seconds.
-/
import Derived.Test.YtndlgjphkpceoaaDoorDig
import Derived.Test.YtndlgjphkpceoaaDoorShelf
import Derived.Test.YtndlgjphkpceoaaDoorClkL
import Derived.Lib.AppendIntMem
namespace Go.Proofs.YtndlgjphkpceoaaDoor
open Go Go.RowKit Go.Lib
set_option linter.unusedVariables false

/-- What the library's contracts ask of the world. -/
def Env7 (w : World) : Prop := (∃ m, w.cell? ⟨0, 0, none⟩ = some (.int .i64 m)) ∧ Lib.TabIs Tryd.prog w "internal/strconv.uint64pow10" .u64 Lib.pow10Tab
theorem Env7.next {w w' : World} (h : Env7 w) (hb : Below w.heap.size w w') : Env7 w' := ⟨by obtain ⟨m, hm⟩ := h.1; exact ⟨m, cell_next hb hm⟩, tabBelow_of_tabIs h.2 w' hb⟩
theorem itoa_nat (n : Nat) : Lib.itoa (n : Int) = Lib.decDigits n := by simp [Lib.itoa]
theorem itoa_any (n : Nat) (w : World) (hn : n ≤ 9223372036854775807) (hE : Env7 w) :
    Calls Tryd.prog 23 #[.int .i64 n] w fun e w' => e = .returned (.string (digS n)) ∧ Below w.heap.size w w' := by
  refine (Tryd.strconv_Itoa n (by omega) (by omega) w hE.2).mono ?_
  rintro e w' ⟨rfl, k, os, rfl⟩
  exact ⟨by rw [itoa_nat]; rfl, below_grow w.heap.size w (Nat.le_refl _) k os⟩

def twoS (n : Nat) : ByteArray := ⟨(two n).toArray⟩
theorem twoS_size (n : Nat) : (twoS n).size = 2 := rfl
theorem digS_one {n : Nat} (h : n < 10) : digS n = ⟨#[dig n]⟩ := by rw [dec_low h]; rfl
theorem twoS_eq {n : Nat} (h : n < 100) : digS (n / 10) ++ digS (n % 10) = twoS n := by
  rw [digS_one (by omega), digS_one (by omega)]
  apply ByteArray.ext
  apply Array.toList_inj.1
  rfl
theorem two_any (n : Nat) (w : World) (hn : n < 100) : Calls Tryd.prog 22 #[.int .i64 n] w fun e w' => e = .returned (.string (twoS n)) ∧ w' = w := by
  have e0 := twoS_eq hn
  rw [← e0]
  clear e0
  have C : Hid (∀ (i : Nat), i < 10 → Calls Tryd.prog 23 #[.int .i64 i] w fun e w' => e = .returned (.string (digS i)) ∧ w' = w) := fun i hi => Tryd.strconv_Itoa_small i (by omega) w
  have e1 : (n : Int).tdiv 10 = (n / 10 : Nat) := by rw [Int.tdiv_eq_ediv_of_nonneg (by omega)]; omega
  have e2 : (n : Int).tmod 10 = (n % 10 : Nat) := by rw [Int.tmod_eq_emod_of_nonneg (by omega)]; omega
  have e3 : (n : Int) / 10 = (n / 10 : Nat) := by omega
  have e4 : (n : Int) % 10 = (n % 10 : Nat) := by omega
  have d1 : n % 10 < 10 := by omega
  have d2 : n / 10 < 10 := by omega
  have s1 : (digS (n / 10)).size ≤ 1 := digS_len 0 _ (by simpa using d2)
  have s2 : (digS (n % 10)).size ≤ 1 := digS_len 0 _ (by simpa using d1)
  generalize n % 10 = d at *
  generalize n / 10 = q at *
  go_enter Tryd.func22, Tryd.ntmps22
  go_wp2_with fail
  refine (C.out q d2).mono ?_; rintro e w1 ⟨rfl, hw1⟩
  subst hw1
  go_wp2_with fail
  refine (C.out d d1).mono ?_; rintro e w2 ⟨rfl, hw2⟩
  subst hw2
  go_wp2_with fail
  go_ret
  exact ⟨rfl, rfl⟩

/-- The text of what is less than a day. -/
def timeS (h m s : Nat) : ByteArray := twoS h ++ ⟨#[58]⟩ ++ twoS m ++ ⟨#[58]⟩ ++ twoS s
def printS (n : Nat) : ByteArray := ⟨(printA n).toArray⟩
theorem timeS_eq (n : Nat) : timeS (n % 86400 / 3600) (n % 3600 / 60) (n % 60) = ⟨(timeA n).toArray⟩ := by
  apply ByteArray.ext
  apply Array.toList_inj.1
  simp [timeS, timeA, twoS]
theorem print_low {n : Nat} (h : n < 86400) : printS n = timeS (n % 86400 / 3600) (n % 3600 / 60) (n % 60) := by
  rw [timeS_eq]; unfold printS printA; rw [if_pos h]
theorem print_high {n : Nat} (h : ¬ n < 86400) : printS n = digS (n / 86400) ++ ⟨#[45]⟩ ++ timeS (n % 86400 / 3600) (n % 3600 / 60) (n % 60) := by
  rw [timeS_eq]; unfold printS printA; rw [if_neg h]
  apply ByteArray.ext
  apply Array.toList_inj.1
  simp [digS]
def printR (x : Int) : ByteArray × Int := if x < 1 ∨ 1073741824 < x then (⟨#[]⟩, 2) else (printS x.toNat, 0)

theorem print_out (x : Int) (w : World) (h0 : -9223372036854775808 ≤ x) (h1 : x ≤ 9223372036854775807) (ho : x < 1 ∨ 1073741824 < x) :
    Calls Tryd.prog 13 #[.int .i64 x] w fun e w' => e = .returned (.tuple #[.string ⟨#[]⟩, .int .i64 2]) ∧ Below w.heap.size w w' := by
  by_cases hx : x < 1
  · have t1 : decide (x < 1) = true := decide_eq_true hx
    go_enter Tryd.func13, Tryd.ntmps13
    go_wp2_with fail
    go_ret2
    exact ⟨rfl, Below.refl _ _⟩
  · have t1 : decide (x < 1) = false := decide_eq_false hx
    have t2 : decide (1073741824 < x) = true := decide_eq_true (by omega)
    go_enter Tryd.func13, Tryd.ntmps13
    go_wp2_with fail
    go_ret2
    exact ⟨rfl, Below.refl _ _⟩
theorem print_in (n : Nat) (w : World) (h0 : 0 < n) (h1 : n ≤ 1073741824) (hE : Env7 w) :
    Calls Tryd.prog 13 #[.int .i64 n] w fun e w' => e = .returned (.tuple #[.string (printS n), .int .i64 0]) ∧ Below w.heap.size w w' := by
  have t1 : decide ((n : Int) < 1) = false := decide_eq_false (by omega)
  have t2 : decide (1073741824 < (n : Int)) = false := decide_eq_false (by omega)
  have t3 : (n == 0) = false := by simpa using (by omega : n ≠ 0)
  have e1 : (n : Int).tmod 86400 = (n % 86400 : Nat) := by rw [Int.tmod_eq_emod_of_nonneg (by omega)]; omega
  have e2 : (n : Int) % 86400 = (n % 86400 : Nat) := by omega
  have e3 : ((n % 86400 : Nat) : Int).tdiv 3600 = (n % 86400 / 3600 : Nat) := by rw [Int.tdiv_eq_ediv_of_nonneg (by omega)]; omega
  have e4 : ((n % 86400 : Nat) : Int) / 3600 = (n % 86400 / 3600 : Nat) := by omega
  have e5 : (n : Int).tmod 3600 = (n % 3600 : Nat) := by rw [Int.tmod_eq_emod_of_nonneg (by omega)]; omega
  have e6 : (n : Int) % 3600 = (n % 3600 : Nat) := by omega
  have e7 : ((n % 3600 : Nat) : Int).tdiv 60 = (n % 3600 / 60 : Nat) := by rw [Int.tdiv_eq_ediv_of_nonneg (by omega)]; omega
  have e8 : ((n % 3600 : Nat) : Int) / 60 = (n % 3600 / 60 : Nat) := by omega
  have e9 : (n : Int).tmod 60 = (n % 60 : Nat) := by rw [Int.tmod_eq_emod_of_nonneg (by omega)]; omega
  have e10 : (n : Int) % 60 = (n % 60 : Nat) := by omega
  have e11 : (n : Int).tdiv 86400 = (n / 86400 : Nat) := by rw [Int.tdiv_eq_ediv_of_nonneg (by omega)]; omega
  have e12 : (n : Int) / 86400 = (n / 86400 : Nat) := by omega
  have b1 : n % 86400 / 3600 < 100 := by omega
  have b2 : n % 3600 / 60 < 100 := by omega
  have b3 : n % 60 < 100 := by omega
  have b4 : n / 86400 ≤ 20000 := by omega
  have b5 : n % 86400 ≤ 86400 := by omega
  have b6 : n % 3600 ≤ 3600 := by omega
  have HL := Lib.hid (@print_low n)
  have HH := Lib.hid (@print_high n)
  have C : Hid (∀ (i : Nat), i < 100 → Calls Tryd.prog 22 #[.int .i64 i] w fun e w' => e = .returned (.string (twoS i)) ∧ w' = w) := fun i hi => two_any i w hi
  have CI : Hid (∀ (i : Nat), i ≤ 20000 → Calls Tryd.prog 23 #[.int .i64 i] w fun e w' => e = .returned (.string (digS i)) ∧ Below w.heap.size w w') := fun i hi => itoa_any i w (by omega) hE
  have s1 := twoS_size (n % 86400 / 3600)
  have s2 := twoS_size (n % 3600 / 60)
  have s3 := twoS_size (n % 60)
  have s4 : (digS (n / 86400)).size ≤ 19 := digS_size (by omega)
  have s5 : (timeS (n % 86400 / 3600) (n % 3600 / 60) (n % 60)).size = 8 := rfl
  have ht : Hid (timeS (n % 86400 / 3600) (n % 3600 / 60) (n % 60) = twoS (n % 86400 / 3600) ++ ⟨#[58]⟩ ++ twoS (n % 3600 / 60) ++ ⟨#[58]⟩ ++ twoS (n % 60)) := rfl
  clear hE
  generalize n % 86400 / 3600 = h at *
  generalize n % 3600 / 60 = m at *
  generalize n % 60 = s at *
  generalize n / 86400 = d at *
  generalize n % 86400 = x1 at *
  generalize n % 3600 = x2 at *
  generalize printS n = res at *
  go_enter Tryd.func13, Tryd.ntmps13
  go_wp2_with fail
  refine (C.out h b1).mono ?_; rintro e w1 ⟨rfl, hw1⟩
  subst hw1
  go_wp2_with fail
  refine (C.out m b2).mono ?_; rintro e w1 ⟨rfl, hw1⟩
  subst hw1
  go_wp2_with fail
  refine (C.out s b3).mono ?_; rintro e w1 ⟨rfl, hw1⟩
  subst hw1
  by_cases hd : n < 86400
  · have t4 : decide ((n : Int) < 86400) = true := decide_eq_true (by omega)
    have t5 : decide (n < 86400) = true := decide_eq_true hd
    have hr := Lib.hid ((HL.out hd).trans ht.out)
    clear HL HH
    go_wp2_with fail
    go_ret2
    exact ⟨by rw [hr.out]; rfl, Below.refl _ _⟩
  · have t4 : decide ((n : Int) < 86400) = false := decide_eq_false (by omega)
    have t5 : decide (n < 86400) = false := decide_eq_false hd
    have hr := Lib.hid (HH.out hd)
    clear HL HH
    go_wp2_with fail
    refine (CI.out d b4).mono ?_; rintro e w1 ⟨rfl, hB⟩
    go_wp2_with fail
    go_ret2
    exact ⟨by rw [hr.out, ht.out]; rfl, hB⟩

theorem print_any (x : Int) (w : World) (h0 : -9223372036854775808 ≤ x) (h1 : x ≤ 9223372036854775807) (hE : Env7 w) :
    Calls Tryd.prog 13 #[.int .i64 x] w fun e w' => e = .returned (.tuple #[.string (printR x).1, .int .i64 (printR x).2]) ∧ Below w.heap.size w w' := by
  by_cases ho : x < 1 ∨ 1073741824 < x
  · have e : printR x = (⟨#[]⟩, 2) := if_pos ho
    rw [e]; exact print_out x w h0 h1 ho
  · have e : printR x = (printS x.toNat, 0) := if_neg ho
    rw [e]
    obtain ⟨n, rfl⟩ := Int.eq_ofNat_of_zero_le (show 0 ≤ x by omega)
    exact print_in n w (by omega) (by omega) hE

/-- gangerref07.two. -/
theorem refTwo_any (n : Nat) (w : World) (hn : n < 100) : Calls Tryd.prog 24 #[.int .i64 n] w fun e w' => e = .returned (.string (twoS n)) ∧ Below w.heap.size w w' := by
  have C := Lib.hid (digits_any n w (by omega))
  by_cases h : n < 10
  · have e0 : Hid ((⟨#[48]⟩ : ByteArray) ++ digS n = twoS n) := by
      have := twoS_eq hn
      have z : digS 0 = ⟨#[48]⟩ := by rw [digS_one (by decide)]; rfl
      rw [show n / 10 = 0 by omega, show n % 10 = n by omega, z] at this
      exact this
    have s1 : (digS n).size ≤ 1 := digS_len 0 _ (by simpa using h)
    have s2 : (⟨#[48]⟩ : ByteArray).size = 1 := rfl
    have t1 : decide (n < 10) = true := decide_eq_true h
    have t2 : decide ((n : Int) < 10) = true := decide_eq_true (by omega)
    go_enter Tryd.func24, Tryd.ntmps24
    go_wp2_with fail
    refine C.out.mono ?_; rintro e w1 ⟨rfl, hB⟩
    go_wp2_with fail
    go_ret
    exact ⟨by rw [← e0.out]; rfl, hB⟩
  · have e0 : Hid (digS n = twoS n) := by
      unfold Hid
      rw [dec_step (by omega), ← twoS_eq hn, dec_low (n := n % 10) (by omega)]
    have t1 : decide (n < 10) = false := decide_eq_false h
    have t2 : decide ((n : Int) < 10) = false := decide_eq_false (by omega)
    go_enter Tryd.func24, Tryd.ntmps24
    go_wp2_with fail
    refine C.out.mono ?_; rintro e w1 ⟨rfl, hB⟩
    go_wp2_with fail
    go_ret
    exact ⟨by rw [← e0.out]; rfl, hB⟩
theorem refPrint_out (x : Int) (w : World) (h0 : -9223372036854775808 ≤ x) (h1 : x ≤ 9223372036854775807) (ho : x < 1 ∨ 1073741824 < x) :
    Calls Tryd.prog 14 #[.int .i64 x] w fun e w' => e = .returned (.tuple #[.string ⟨#[]⟩, .int .i64 2]) ∧ Below w.heap.size w w' := by
  by_cases hx : x < 1
  · have t1 : decide (x < 1) = true := decide_eq_true hx
    go_enter Tryd.func14, Tryd.ntmps14
    go_wp2_with fail
    go_ret2
    exact ⟨rfl, Below.refl _ _⟩
  · have t1 : decide (x < 1) = false := decide_eq_false hx
    have t2 : decide (1073741824 < x) = true := decide_eq_true (by omega)
    go_enter Tryd.func14, Tryd.ntmps14
    go_wp2_with fail
    go_ret2
    exact ⟨rfl, Below.refl _ _⟩
theorem refPrint_in (n : Nat) (w : World) (h0 : 0 < n) (h1 : n ≤ 1073741824) :
    Calls Tryd.prog 14 #[.int .i64 n] w fun e w' => e = .returned (.tuple #[.string (printS n), .int .i64 0]) ∧ Below w.heap.size w w' := by
  have t1 : decide ((n : Int) < 1) = false := decide_eq_false (by omega)
  have t2 : decide (1073741824 < (n : Int)) = false := decide_eq_false (by omega)
  have t3 : (n == 0) = false := by simpa using (by omega : n ≠ 0)
  obtain ⟨m0, hm0⟩ : ∃ m0, m0 = n / 60 := ⟨_, rfl⟩
  obtain ⟨k0, hk0⟩ : ∃ k0, k0 = n / 3600 := ⟨_, rfl⟩
  have e1 : (n : Int).tmod 60 = (n % 60 : Nat) := by rw [Int.tmod_eq_emod_of_nonneg (by omega)]; omega
  have e2 : (n : Int) % 60 = (n % 60 : Nat) := by omega
  have e3 : ((n : Int) - (n % 60 : Nat)).tdiv 60 = (m0 : Nat) := by rw [Int.tdiv_eq_ediv_of_nonneg (by omega)]; omega
  have e4 : ((n : Int) - (n % 60 : Nat)) / 60 = (m0 : Nat) := by omega
  have e5 : (m0 : Int).tdiv 60 = (k0 : Nat) := by rw [Int.tdiv_eq_ediv_of_nonneg (by omega)]; omega
  have e6 : (m0 : Int) / 60 = (k0 : Nat) := by omega
  have e7 : (m0 : Int) - (k0 : Int) * 60 = (n % 3600 / 60 : Nat) := by omega
  have e8 : (k0 : Int).tdiv 24 = (n / 86400 : Nat) := by rw [Int.tdiv_eq_ediv_of_nonneg (by omega)]; omega
  have e9 : (k0 : Int) / 24 = (n / 86400 : Nat) := by omega
  have e10 : (k0 : Int) - ((n / 86400 : Nat) : Int) * 24 = (n % 86400 / 3600 : Nat) := by omega
  have b1 : n % 86400 / 3600 < 100 := by omega
  have b2 : n % 3600 / 60 < 100 := by omega
  have b3 : n % 60 < 60 := by omega
  have b4 : n / 86400 ≤ 20000 := by omega
  have b5 : m0 ≤ 20000000 := by omega
  have b6 : k0 ≤ 1000000 := by omega
  have hd : n < 86400 ↔ n / 86400 = 0 := by omega
  have HL := Lib.hid (@print_low n)
  have HH := Lib.hid (@print_high n)
  have C : Hid (∀ (i : Nat) w, i < 100 → Calls Tryd.prog 24 #[.int .i64 i] w fun e w' => e = .returned (.string (twoS i)) ∧ Below w.heap.size w w') := fun i w hi => refTwo_any i w hi
  have CI : Hid (∀ (i : Nat) w, i ≤ 20000 → Calls Tryd.prog 17 #[.int .i64 i] w fun e w' => e = .returned (.string (digS i)) ∧ Below w.heap.size w w') := fun i w hi => digits_any i w (by omega)
  have s1 := twoS_size (n % 86400 / 3600)
  have s2 := twoS_size (n % 3600 / 60)
  have s3 := twoS_size (n % 60)
  have s4 : (digS (n / 86400)).size ≤ 19 := digS_size (by omega)
  have s5 : (timeS (n % 86400 / 3600) (n % 3600 / 60) (n % 60)).size = 8 := rfl
  have ht : Hid (timeS (n % 86400 / 3600) (n % 3600 / 60) (n % 60) = twoS (n % 86400 / 3600) ++ ⟨#[58]⟩ ++ twoS (n % 3600 / 60) ++ ⟨#[58]⟩ ++ twoS (n % 60)) := rfl
  clear hm0 hk0
  generalize n % 86400 / 3600 = h at *
  generalize n % 3600 / 60 = m at *
  generalize n % 60 = s at *
  generalize n / 86400 = d at *
  generalize printS n = res at *
  have hsn : s ≤ n := by have := h1; omega
  go_enter Tryd.func14, Tryd.ntmps14
  go_wp2_with fail
  refine (C.out h _ b1).mono ?_; rintro e w1 ⟨rfl, hB1⟩
  have HB1 := Lib.hid hB1
  clear hB1
  go_wp2_with fail
  refine (C.out m _ b2).mono ?_; rintro e w2 ⟨rfl, hB2⟩
  have HB2 := Lib.hid (below_next hB2 HB1.out)
  clear hB2 HB1
  go_wp2_with fail
  refine (C.out s _ (by omega)).mono ?_; rintro e w3 ⟨rfl, hB3⟩
  have HB3 := Lib.hid (below_next hB3 HB2.out)
  clear hB3 HB2
  by_cases hd0 : d = 0
  · have hr := Lib.hid ((HL.out (hd.2 hd0)).trans ht.out)
    subst hd0
    clear HL HH hd
    go_wp2_with fail
    go_ret2
    exact ⟨by rw [hr.out]; rfl, HB3.out⟩
  · have hr := Lib.hid (HH.out fun h => hd0 (hd.1 h))
    have t4 : decide (0 < (d : Int)) = true := decide_eq_true (by omega)
    have t5 : decide (0 < d) = true := decide_eq_true (by omega)
    clear HL HH hd
    go_wp2_with fail
    refine (CI.out d _ b4).mono ?_; rintro e w4 ⟨rfl, hB4⟩
    have HB4 := Lib.hid (below_next hB4 HB3.out)
    clear hB4
    go_wp2_with fail
    go_ret2
    exact ⟨by rw [hr.out, ht.out]; rfl, HB4.out⟩
theorem refPrint_any (x : Int) (w : World) (h0 : -9223372036854775808 ≤ x) (h1 : x ≤ 9223372036854775807) :
    Calls Tryd.prog 14 #[.int .i64 x] w fun e w' => e = .returned (.tuple #[.string (printR x).1, .int .i64 (printR x).2]) ∧ Below w.heap.size w w' := by
  by_cases ho : x < 1 ∨ 1073741824 < x
  · have e : printR x = (⟨#[]⟩, 2) := if_pos ho
    rw [e]; exact refPrint_out x w h0 h1 ho
  · have e : printR x = (printS x.toNat, 0) := if_neg ho
    rw [e]
    obtain ⟨n, rfl⟩ := Int.eq_ofNat_of_zero_le (show 0 ≤ x by omega)
    exact refPrint_in n w (by omega) (by omega)
end Go.Proofs.YtndlgjphkpceoaaDoor
