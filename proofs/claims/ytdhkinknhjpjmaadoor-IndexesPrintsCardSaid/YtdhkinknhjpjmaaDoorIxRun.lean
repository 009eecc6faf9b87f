/-
  Indexes, for the laws on runs: the texts of runs, and what they say.
-/
import Derived.Test.YtdhkinknhjpjmaaDoorIxY
import Derived.Test.YtdhkinknhjpjmaaDoorDig
namespace Go.Proofs.YtdhkinknhjpjmaaDoor
open Go Go.RowKit Go.Lib
set_option linter.unusedVariables false

/-- The text of a run with a step. -/
def runB (a b c : Nat) : ByteArray := digS a ++ ⟨#[45]⟩ ++ digS b ++ ⟨#[58]⟩ ++ digS c
theorem runB_list (a b c : Nat) : (runB a b c).data.toList = runText a b c := by
  simp [runB, runText, digS, D]
theorem dig4 {n : Nat} (h : n < 10000) : (digS n).size ≤ 4 := digS_len 3 n (by omega)
theorem one_size (c : UInt8) : (⟨#[c]⟩ : ByteArray).size = 1 := rfl
theorem runB_size {a b c : Nat} (ha : a < 10000) (hb : b < 10000) (hc : c < 10000) : (runB a b c).size ≤ 14 := by
  have h1 := dig4 ha; have h2 := dig4 hb; have h3 := dig4 hc
  unfold runB
  simp only [ByteArray.size_append, one_size]
  omega
theorem seven_list (T : ByteArray) : (⟨#[55, 44]⟩ ++ T : ByteArray).data.toList = 55 :: 44 :: T.data.toList := by simp
/-- Behind '7,': a run that may not be. -/
theorem seven_bad {a b c : Nat} (ha : a < 1200) (hb : b < 1200) (hc : c < 1200) (h : b < a ∨ c = 0 ∨ 1000 < b ∨ 1000 < c) : parseM (⟨#[55, 44]⟩ ++ runB a b c : ByteArray).data.toList = .arg 2 := by
  rw [seven_list, runB_list, parse_seven (by omega) (by omega) (by omega), if_pos]
  unfold badItem; rw [decide_eq_true_eq]; omega
theorem seven_ok {a b c : Nat} (h : ¬ (b < a ∨ c = 0 ∨ 1000 < b ∨ 1000 < c)) : parseM (⟨#[55, 44]⟩ ++ runB a b c : ByteArray).data.toList = .ok (fun i => decide (i = 7) || inRun a b c i) 0 := by
  rw [seven_list, runB_list, parse_seven (by omega) (by omega) (by omega), if_neg]
  unfold badItem; rw [decide_eq_true_eq]; omega
theorem seven_some (a b c : Nat) : listF (fun i => decide (i = 7) || inRun a b c i) ≠ [] := fun e => by
  have : 7 ∈ listF (fun i => decide (i = 7) || inRun a b c i) := (mem_listF _ _).2 ⟨by omega, by simp⟩
  rw [e] at this; cases this
/-- A run with a step, alone. -/
theorem run_ok {a k s : Nat} (hs : 0 < s) (hs' : s ≤ 1000) (h : a + k ≤ 1000) : parseM (runB a (a + k) s).data.toList = .ok (fun i => false || inRun a (a + k) s i) 0 := by
  have hb : badItem a (a + k) s = false := by unfold badItem; rw [decide_eq_false_iff_not]; omega
  rw [runB_list, parse_run (by omega) (by omega) (by omega), marksV, faultV, if_neg (by rw [hb]; decide), if_neg (by rw [hb]; decide)]
  rfl
def eachB (a n s k j : Nat) : ByteArray := ⟨(eachT (turnL a n s k j)).toArray⟩
theorem each_none (a n s k : Nat) : eachB a n s k 0 = ⟨#[]⟩ := rfl
theorem each_first (a n s k m : Nat) (hm : m = (0 + k) % n) : eachB a n s k 1 = (⟨#[]⟩ : ByteArray) ++ digS (a + s * m) := by
  subst hm
  apply ByteArray.ext; apply Array.toList_inj.1
  show eachT (turnL a n s k 1) = _
  simp [turnL, eachT, restT, digS, D]
theorem each_next (a n s k j m : Nat) (hj : 0 < j) (hm : m = (j + k) % n) : eachB a n s k (j + 1) = eachB a n s k j ++ ⟨#[44]⟩ ++ digS (a + s * m) := by
  subst hm
  apply ByteArray.ext; apply Array.toList_inj.1
  show eachT (turnL a n s k (j + 1)) = _
  rw [turn_succ, each_snoc _ _ (by unfold turnL; intro e; have := congrArg List.length e; simp at this; omega)]
  simp [eachB, digS, D]
theorem each_size (a n s k : Nat) (h : ∀ m, m < n → a + s * m < 10000) (hn : 0 < n) : ∀ j, (eachB a n s k j).size ≤ 5 * j
  | 0 => Nat.le_refl _
  | 1 => by
    rw [each_first a n s k _ rfl, ByteArray.size_append]
    have := dig4 (h _ (Nat.mod_lt (0 + k) hn))
    have e : (⟨#[]⟩ : ByteArray).size = 0 := rfl
    omega
  | j + 2 => by
    rw [each_next a n s k (j + 1) _ (by omega) rfl, ByteArray.size_append, ByteArray.size_append, one_size]
    have h1 := dig4 (h _ (Nat.mod_lt (j + 1 + k) hn))
    have h2 := each_size a n s k h hn (j + 1)
    omega
theorem counts_ok {a n s k d : Nat} (hs : 0 < s) (hn : n = d / s + 1) (h : a + d ≤ 1000) : ∃ f, parseM (eachB a n s k n).data.toList = .ok f 0 ∧ listF f = runL a n s := by
  have hl := run_list (a := a) (k := d) hs h
  rw [← hn] at hl
  have hle : ∀ x ∈ runL a n s, x ≤ 1000 := fun x hx => by rw [← hl, mem_listF] at hx; exact hx.1
  obtain ⟨f, h1, h2⟩ := turn_parse (a := a) (n := n) (s := s) (k := k) (by rw [hn]; exact Nat.succ_pos _) hs hle
  refine ⟨f, by rw [show (eachB a n s k n).data.toList = eachT (turnL a n s k n) from by simp [eachB]]; exact h1, ?_⟩
  refine sorted_uniq (listF_inc _) (by rw [← hl]; exact listF_inc _) fun i => ?_
  rw [mem_listF, h2, decide_eq_true_eq]
  exact ⟨fun hx => hx.2, fun hx => ⟨hle i hx, hx⟩⟩
theorem runL_len (a n s : Nat) : (runL a n s).length = n := by simp [runL]

theorem wf_u16 {n : Int} (h : (Lit.int .u16 n).wf = true) : 0 ≤ n ∧ n ≤ 65535 := by
  simpa [Lit.wf, IntKind.min, IntKind.max, IntKind.bits, IntKind.signed] using h
theorem wf_u8 {n : Int} (h : (Lit.int .u8 n).wf = true) : 0 ≤ n ∧ n ≤ 255 := by
  simpa [Lit.wf, IntKind.min, IntKind.max, IntKind.bits, IntKind.signed] using h
theorem u64_nat (n : Nat) (h : n ≤ 18446744073709551615) : IntKind.u64.wrap (n : Int) = (n : Int) := by rw [IntKind.wrap_u64]; omega
theorem u64_bd (x : Int) : 0 ≤ IntKind.u64.wrap x ∧ IntKind.u64.wrap x ≤ 18446744073709551615 := by rw [IntKind.wrap_u64]; omega
theorem mod_pick (x : Int) (n : Nat) (h : 0 < n) (hn : n ≤ 1000000) : ∃ U K : Nat, IntKind.u64.wrap x = (U : Int) ∧ (U : Int) % (n : Int) = (K : Int) ∧ K < n ∧ ¬ (n : Int) = 0 ∧ IntKind.u64.wrap (n : Int) = (n : Int) ∧ (U : Int).tmod (n : Int) = (K : Int) := by
  obtain ⟨U, hU⟩ := Int.eq_ofNat_of_zero_le (u64_bd x).1
  have e : (U : Int) % (n : Int) = ((U % n : Nat) : Int) := by simp
  have hl' : U % n < n := Nat.mod_lt _ h
  refine ⟨U, U % n, hU, e, hl', by omega, u64_nat n (by omega), ?_⟩
  rw [Int.tmod_eq_emod_of_nonneg (by omega), e]
end Go.Proofs.YtdhkinknhjpjmaaDoor
