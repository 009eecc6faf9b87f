/-
  gangerlaw01.NumShares: the walk.
-/
import Derived.Test.YtbcpiabamhdjbaaNum4
import Derived.Test.YtbcpiabamhdjbaaNumKnown
namespace Go.Proofs.Ytbcpiabamhdjbaa
open Go.ChangeShapes Go.WideShapes Go.ChangeAt Go.RowKit
set_option linter.unusedVariables false

/-- Sums of the first k parts, and of their shares. -/
def pN (zs : List Int) (k : Nat) : Nat := (zs.getD k 0).toNat
def spN (zs : List Int) : Nat → Nat
  | 0 => 0
  | k + 1 => spN zs k + pN zs k
def xsN (W A : Nat) (zs : List Int) : Nat → Nat
  | 0 => 0
  | k + 1 => xsN W A zs k + W * pN zs k / A

theorem spN_le (zs : List Int) (h : ∀ j, pN zs j ≤ 65535) : ∀ k, spN zs k ≤ 65535 * k
  | 0 => by simp [spN]
  | k + 1 => by have := spN_le zs h k; have := h k; simp only [spN]; omega
theorem spN_mono (zs : List Int) : ∀ n k, k ≤ n → spN zs k ≤ spN zs n
  | 0, k, h => by obtain rfl : k = 0 := by omega
                  exact Nat.le_refl _
  | n + 1, k, h => by
    by_cases e : k = n + 1
    · subst e; exact Nat.le_refl _
    · have := spN_mono zs n k (by omega); simp only [spN]; omega
theorem pN_le_sp (zs : List Int) {n k : Nat} (h : k < n) : pN zs k ≤ spN zs n := by
  have := spN_mono zs n (k + 1) h; simp only [spN] at this; omega
theorem xs_low (W A : Nat) (zs : List Int) : ∀ k, xsN W A zs k * A ≤ W * spN zs k
  | 0 => by simp [xsN]
  | k + 1 => by
    have h := xs_low W A zs k
    have h2 := Nat.div_mul_le_self (W * pN zs k) A
    simp only [xsN, spN, Nat.add_mul, Nat.mul_add]; omega
theorem xs_high (W A : Nat) (hA : 0 < A) (zs : List Int) : ∀ k, W * spN zs k + k ≤ xsN W A zs k * A + k * A
  | 0 => by simp [xsN, spN]
  | k + 1 => by
    have h := xs_high W A hA zs k
    have h2 := Nat.div_add_mod (W * pN zs k) A
    have h3 := Nat.mod_lt (W * pN zs k) hA
    simp only [xsN, spN, Nat.add_mul, Nat.mul_add, Nat.one_mul]
    rw [Nat.mul_comm A] at h2; omega
theorem xs_le (W A : Nat) (hA : 0 < A) (zs : List Int) {n k : Nat} (hk : k ≤ n) (he : spN zs n = A) : xsN W A zs k ≤ W := by
  have h := xs_low W A zs k
  have h2 := spN_mono zs n k hk
  rw [he] at h2
  exact Nat.le_of_mul_le_mul_right (Nat.le_trans h (Nat.mul_le_mul_left W h2)) hA
theorem xs_gt (W A : Nat) (hA : 0 < A) (zs : List Int) {n : Nat} (hn : 0 < n) (he : spN zs n = A) : W < xsN W A zs n + n := by
  have h := xs_high W A hA zs n
  rw [he] at h
  have : W * A < (xsN W A zs n + n) * A := by rw [Nat.add_mul]; omega
  exact Nat.lt_of_mul_lt_mul_right this

theorem part_facts (W p A : Nat) (hW : W ≤ 9223372036854775807) (hA : 0 < A) (hp : p ≤ A) :
    W * p / A ≤ W ∧ W * p / (A + 1) ≤ W * p / A := by
  refine ⟨?_, Nat.div_le_div_left (by omega) hA⟩
  rw [Nat.div_le_iff_le_mul hA]
  have := Nat.mul_le_mul_left W hp
  omega

def ShRel (w : World) (W A n : Nat) (zs : List Int) (l i : Value) (wr : World) : Prop :=
  ∃ k : Nat, k ≤ n ∧ i = .int .i64 k ∧ l = .int .i64 ((W - xsN W A zs k : Nat) : Int) ∧ Below w.heap.size w wr

theorem md_in (a b c : Nat) (w : World) (ha : a ≤ 9223372036854775807) (hb : b ≤ 9223372036854775807) (hc : 1 ≤ c) (hc' : c ≤ 9223372036854775807) (hq : a * b / c ≤ 9223372036854775807) :
    Calls Try.prog 26 #[.int .i64 a, .int .i64 b, .int .i64 c] w
      fun e w' => e = .returned (.tuple #[.int .i64 ((a * b / c : Nat) : Int), .int .i64 0]) ∧ Below w.heap.size w w' := by
  refine (muldiv_main a b c w ha hb hc hc').mono ?_
  have : I64 ((a * b / c : Nat) : Int) := by unfold I64; generalize a * b / c = q at *; omega
  rintro e w' ⟨rfl, hb⟩
  exact ⟨ret_tup2 (fitV_in this) (fitE_in this), hb⟩

theorem shares_out (whole : Int) (a : Option Addr) (n c : Nat) (w : World) (h : decide (whole < 0) = true ∨ decide (whole < 0) = false ∧ decide ((50 : Int) < n) = true) :
    Calls Try.prog 8 #[.int .i64 whole, .slice a n c] w fun e w' => e = .returned (.bool true) ∧ Below w.heap.size w w' := by
  rcases h with h | ⟨h, h'⟩
  · go_enter Try.func8, Try.ntmps8
    go_wp2_with fail
    refine (known_any _).mono ?_; rintro e w7 ⟨rfl, b7⟩
    go_wp2_with fail
    go_ret
    exact ⟨rfl, b7⟩
  · have h2 : decide (50 < n) = true := decide_eq_true (by have := of_decide_eq_true h'; omega)
    go_enter Try.func8, Try.ntmps8
    go_wp2_with fail
    refine (known_any _).mono ?_; rintro e w7 ⟨rfl, b7⟩
    go_wp2_with fail
    go_ret
    exact ⟨rfl, b7⟩

set_option maxRecDepth 100000 in
theorem shares_row (W : Nat) (b off c : Nat) (zs : List Int) (w : World) (hW : W ≤ 9223372036854775807) (h0 : 0 < zs.length) (hlen : zs.length ≤ 50) (hz : ∀ z ∈ zs, (Lit.int .u16 z).wf = true) (hb : b < w.heap.size)
    (hc : ∀ k, k < zs.length → w.cell? ⟨b, off + k, none⟩ = some (.int .u16 (zs.getD k 0))) :
    Calls Try.prog 8 #[.int .i64 W, .slice (some ⟨b, off, none⟩) zs.length c] w fun e w' => e = .returned (.bool true) ∧ Below w.heap.size w w' := by
  have zr : ∀ j, j < zs.length → zs.getD j 0 = (pN zs j : Int) := fun j hj => by
    have := hz (zs.getD j 0) (by simp [List.getD, List.getElem?_eq_getElem hj])
    simp [Lit.wf, IntKind.min, IntKind.max, IntKind.bits, IntKind.signed] at this
    unfold pN
    simp only [List.getD_eq_getElem?_getD] at *
    omega
  have pb : ∀ j, pN zs j ≤ 65535 := fun j => by
    by_cases hj : j < zs.length
    · have := hz (zs.getD j 0) (by simp [List.getD, List.getElem?_eq_getElem hj])
      simp [Lit.wf, IntKind.min, IntKind.max, IntKind.bits, IntKind.signed] at this
      unfold pN
      simp only [List.getD_eq_getElem?_getD] at *
      omega
    · unfold pN; simp [List.getD, List.getElem?_eq_none (Nat.le_of_not_lt hj)]
  have HC : Hid (∀ k, k < zs.length → w.cell? ⟨b, off + k, none⟩ = some (.int .u16 (pN zs k : Int))) := fun k hk => by rw [hc k hk, zr k hk]
  have HP := Lib.hid pb
  have t1 : decide ((W : Int) < 0) = false := decide_eq_false (by omega)
  have t2 : decide ((50 : Int) < zs.length) = false := decide_eq_false (by omega)
  have t2' : decide (50 < zs.length) = false := decide_eq_false (by omega)
  clear hc hz zr pb
  go_enter Try.func8, Try.ntmps8
  go_wp2_with fail
  go_loop [5, 6] (fun a i => ∃ k : Nat, k ≤ zs.length ∧ i = .int .i64 k ∧ a = .int .i64 (spN zs k : Nat)) (fun _ i => zs.length - (intOf i).toNat)
  case atStart => exact ⟨0, Nat.zero_le _, rfl, rfl⟩
  case round =>
    obtain ⟨k, hk, rfl, rfl⟩ := hrel
    have sb := spN_le zs HP.out k
    by_cases hlt : k < zs.length
    · have hlt' : decide (k < zs.length) = true := decide_eq_true hlt
      have ck := HC.out k hlt
      have pk := HP.out k
      have E : Hid (spN zs (k + 1) = spN zs k + pN zs k) := by show _ = _; rfl
      generalize pN zs k = p at *
      generalize spN zs k = s at *
      have pk' : (p : Int) ≤ 65535 := by omega
      have sb' : (s : Int) ≤ 3276750 := by omega
      go_wp2_with fail
      go_round
      case rel => exact ⟨k + 1, hlt, by go_num, by rw [E.out]; go_num⟩
      case measure => simp [intOf]; omega
    · obtain rfl : k = zs.length := by omega
      have hlt' : decide (zs.length < zs.length) = false := decide_eq_false (by omega)
      clear hlt hk
      obtain ⟨A, hA⟩ : ∃ A, spN zs zs.length = A := ⟨_, rfl⟩
      have HA := Lib.hid hA
      rw [hA] at sb ⊢
      clear hA
      by_cases a0 : A = 0
      · subst a0
        go_wp2_with fail
        refine (muldiv_arg _ 1 _ _ (by omega)).mono ?_; rintro e w1 ⟨rfl, rfl⟩
        go_wp2_with fail
        refine (known_any _).mono ?_; rintro e w7 ⟨rfl, b7⟩
        go_wp2_with fail
        go_ret
        exact ⟨rfl, b7⟩
      · have A0 : ((A : Int) == 0) = false := by simpa using (show ((A : Int) ≠ 0) by omega)
        have Apos : 0 < A := by omega
        have AB : A ≤ 3276750 := by omega
        have AB' : (A : Int) ≤ 3276750 := by omega
        clear sb
        go_wp2_with fail
        go_loopw [9, 10] (fun l i wr => ShRel w W A zs.length zs l i wr) (fun _ i _ => zs.length - (intOf i).toNat)
        case atStart => exact ⟨0, Nat.zero_le _, rfl, by simp [xsN], Below.refl _ _⟩
        case round =>
          obtain ⟨k, hk, rfl, rfl, hB⟩ := hrel
          by_cases hlt : k < zs.length
          · have hlt' : decide (k < zs.length) = true := decide_eq_true hlt
            have ck : wr.cell? ⟨b, off + k, none⟩ = some (.int .u16 (pN zs k : Int)) := by rw [← HC.out k hlt]; exact hB.cell (p := ⟨b, off + k, none⟩) hb
            have pk := HP.out k
            have pA := pN_le_sp zs hlt
            rw [HA.out] at pA
            have hx := xs_le W A Apos zs (k := k + 1) hlt HA.out
            have E : Hid (xsN W A zs (k + 1) = xsN W A zs k + W * pN zs k / A) := by show _ = _; rfl
            rw [E.out] at hx
            obtain ⟨f1, f2⟩ := part_facts W (pN zs k) A hW Apos pA
            have M1 : Hid (∀ w, Calls Try.prog 26 #[.int .i64 W, .int .i64 (pN zs k : Nat), .int .i64 A] w
              fun e w' => e = .returned (.tuple #[.int .i64 ((W * pN zs k / A : Nat) : Int), .int .i64 0]) ∧ Below w.heap.size w w') := fun w => md_in W (pN zs k) A w hW (by omega) (by omega) (by omega) (Nat.le_trans f1 hW)
            have M2 : Hid (∀ w, Calls Try.prog 26 #[.int .i64 W, .int .i64 (pN zs k : Nat), .int .i64 ((A : Int) + 1)] w
              fun e w' => e = .returned (.tuple #[.int .i64 ((W * pN zs k / (A + 1) : Nat) : Int), .int .i64 0]) ∧ Below w.heap.size w w') := fun w => md_in W (pN zs k) (A + 1) w hW (by omega) (by omega) (by omega) (Nat.le_trans f2 (Nat.le_trans f1 hW))
            generalize W * pN zs k / A = x at *
            generalize W * pN zs k / (A + 1) = y at *
            generalize pN zs k = p at *
            generalize hX : xsN W A zs k = X at *
            clear hX
            have L2 : Hid (W - (X + x) = W - X - x) := by show _ = _; omega
            generalize hL : W - X = L at *
            have xL : x ≤ L := by omega
            have LW : (L : Int) ≤ 9223372036854775807 := by omega
            clear hL hx pA
            have d1 : decide (L < x) = false := decide_eq_false (by omega)
            have d2 : decide (x < y) = false := decide_eq_false (by omega)
            have pk' : (p : Int) ≤ 65535 := by omega
            have xL' : (x : Int) ≤ L := by omega
            have LX : Hid ((L : Int) - x = ((L - x : Nat) : Int)) := by show _ = _; omega
            have hz9 : b < wr.heap.size := Nat.lt_of_lt_of_le hb hB.size
            clear pk f1 f2 xL
            go_wp2_with fail
            refine (M1.out _).mono ?_; rintro e w1 ⟨rfl, b1⟩
            have ck1 : w1.cell? ⟨b, off + k, none⟩ = some (.int .u16 (p : Int)) := cell_next b1 ck
            go_wp2_with fail
            refine (M2.out _).mono ?_; rintro e w2 ⟨rfl, b2⟩
            go_wp2_with fail
            go_roundw
            case rel => exact ⟨k + 1, hlt, by go_num, by rw [E.out, L2.out, LX.out], below_next b2 (below_next b1 hB)⟩
            case measure => simp [intOf]; omega
          · obtain rfl : k = zs.length := by omega
            have hlt' : decide (zs.length < zs.length) = false := decide_eq_false (by omega)
            have g1 := xs_le W A Apos zs (Nat.le_refl _) HA.out
            have g2 := xs_gt W A Apos zs h0 HA.out
            have M3 : Hid (∀ w, Calls Try.prog 26 #[.int .i64 W, .int .i64 A, .int .i64 A] w
              fun e w' => e = .returned (.tuple #[.int .i64 (W : Int), .int .i64 0]) ∧ Below w.heap.size w w') := fun w => by
                have e : W * A / A = W := Nat.mul_div_cancel W Apos
                have := md_in W A A w hW (by omega) (by omega) (by omega) (by rw [e]; exact hW)
                rw [e] at this; exact this
            generalize xsN W A zs zs.length = X at *
            have d3 : decide (W - X < zs.length) = true := decide_eq_true (by omega)
            have d4 : max (zs.length : Int) 1 = zs.length := by omega
            generalize W - X = L at *
            clear g1 g2
            go_wp2_with fail
            refine (M3.out _).mono ?_; rintro e w1 ⟨rfl, b1⟩
            go_wp2_with fail
            refine (known_any _).mono ?_; rintro e w7 ⟨rfl, b7⟩
            go_wp2_with fail
            go_ret
            exact ⟨rfl, below_next b7 (below_next b1 hB)⟩

theorem shares_nil (W : Nat) (a : Option Addr) (c : Nat) (w : World) :
    Calls Try.prog 8 #[.int .i64 W, .slice a 0 c] w fun e w' => e = .returned (.bool true) ∧ Below w.heap.size w w' := by
  have t1 : decide ((W : Int) < 0) = false := decide_eq_false (by omega)
  go_enter Try.func8, Try.ntmps8
  go_wp2_with fail
  refine wp_loop_rounds 1 ?_
  rw [rounds_succ]
  go_wp2_with fail
  refine (muldiv_arg _ 1 0 _ (by omega)).mono ?_; rintro e w1 ⟨rfl, rfl⟩
  go_wp2_with fail
  refine (known_any _).mono ?_; rintro e w7 ⟨rfl, b7⟩
  go_wp2_with fail
  go_ret
  exact ⟨rfl, b7⟩
end Go.Proofs.Ytbcpiabamhdjbaa
