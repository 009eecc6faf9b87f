/-
  gangerlaw19.long, at any acts.
-/
import Derived.Test.YtgohnidndjbjiaaTapeZ
namespace Go.Proofs.Ytgohnidndjbjiaa
open Go Go.RowKit Go.Lib
set_option linter.unusedVariables false

def FewL (l : List ActT) (n : Nat) : Prop := ∀ (i : Nat) (h : i < l.length), i < n → (l[i]).l.length ≤ 30000
def LgTo (w : World) (l : List ActT) (e : Ending) (w' : World) : Prop := ∃ F : Bool, e = .returned (.bool F) ∧ (∃ q, w' = w.drewN q) ∧ (F = false → FewL l 100)
def LgLp (w : World) (l : List ActT) (nv iv : Value) (wr : World) : Prop := ∃ i n q : Nat, i ≤ l.length ∧ i ≤ 100 ∧ n ≤ 30000 ∧ nv = .int .i64 n ∧ iv = .int .i64 i ∧ wr = w.drewN q ∧ FewL l i
def InLp (n1 p : Nat) (nv kv : Value) : Prop := ∃ k n : Nat, k ≤ p ∧ k ≤ 1000 ∧ n1 ≤ n ∧ n ≤ n1 + k * 30000 ∧ nv = .int .i64 n ∧ kv = .int .i64 k
theorem drewN_ex (w : World) (a b : Nat) : ∃ q, (w.drewN a).drewN b = w.drewN q := ⟨a + b, by first | exact World.drewN_drewN _ _ _ | simp⟩
set_option maxRecDepth 100000 in
theorem longT_any {w : World} {A : Option Addr} {c : Nat} {l : List ActT} (h : RowOf w 4 (ActIsT w) (.slice A l.length c) l) :
    Calls Try.prog 8 #[.slice A l.length c] w (LgTo w l) := by
  have HL := Lib.hid h
  obtain ⟨A', c', h1, hc1, hc2, _⟩ := h
  injection h1 with h1a _ h1b
  subst h1a h1b
  unfold maxLen at hc2
  go_enter Try.func8, Try.ntmps8
  go_wp2_with fail
  go_loopw [3, 4] (LgLp w l) (fun _ i _ => 100 - (RowKit.intOf i).toNat)
  case atStart => exact ⟨0, 0, 0, Nat.zero_le _, Nat.zero_le _, Nat.zero_le _, rfl, rfl, rfl, fun i h hi => by omega⟩
  case round =>
    obtain ⟨i, n, q, hi1, hi2, hn, rfl, rfl, rfl, hfew⟩ := hrel
    have HF := Lib.hid hfew
    clear hfew
    by_cases hlt : i < l.length ∧ i < 100
    · obtain ⟨hlt1, hlt2⟩ := hlt
      have t1 : decide (i < l.length) = true := decide_eq_true hlt1
      have t1' : (i : Int) < l.length := by omega
      have t2 : decide ((i : Int) < 100) = true := decide_eq_true (by omega)
      obtain ⟨b, off, v, u, rfl, c0, c1, c2, c3, hR, hr1, hl1, hU, _, _, _⟩ := actsT_at HL.out (Below.refl _ w) hlt1
      have HS : Hid ((l[i]).l.length ≤ 30000 → FewL l (i + 1)) := fun hx j hj hji => by
        rcases Nat.lt_succ_iff_lt_or_eq.1 hji with h | h
        · exact HF.out j hj h
        · subst h; exact hx
      obtain ⟨B1, d1, rfl, _⟩ := rd_form hR
      obtain ⟨B2, d2, rfl, hd1, hd2⟩ := hU.form
      generalize l[i] = x at *
      obtain ⟨m, hm⟩ : ∃ m, m = x.r.length := ⟨_, rfl⟩
      obtain ⟨p, hp⟩ : ∃ p, p = x.l.length := ⟨_, rfl⟩
      rw [← hm] at c1 hr1
      have HU := Lib.hid hU
      have HP := Lib.hid hp
      rw [← hp] at c2 hl1 HS
      obtain ⟨z, hz, hz2⟩ : ∃ z : Nat, min (m : Int) 30000 = (z : Int) ∧ z ≤ 30000 := ⟨min m 30000, by omega, by omega⟩
      clear hR hU hm hp c0 c3 hd1 hd2
      go_wp2_with fail
      go_quiet (fail)
      rename_i nq
      obtain ⟨n1, hn1⟩ : ∃ n1 : Nat, n1 = n + z + p := ⟨_, rfl⟩
      have en1 : (n : Int) + (z : Int) + (p : Int) = (n1 : Int) := by omega
      have hnp : p ≤ n1 := by omega
      have hn1b : n1 ≤ 140737488451232 := by omega
      obtain ⟨q2, hq2⟩ := drewN_ex w q nq
      clear hn1
      go_wp2_with fail
      go_loop [3, 5] (InLp n1 p) (fun _ k => 1000 - (RowKit.intOf k).toNat)
      case atStart => exact ⟨0, n1, Nat.zero_le _, Nat.zero_le _, Nat.le_refl _, by omega, by go_num, rfl⟩
      case round =>
        obtain ⟨k, n2, hk1, hk2, hn2, hn3, rfl, rfl⟩ := hrel
        by_cases hlk : k < p ∧ k < 1000
        · obtain ⟨hlk1, hlk2⟩ := hlk
          have t3 : decide (k < p) = true := decide_eq_true hlk1
          have t3' : (k : Int) < p := by omega
          have t4 : decide ((k : Int) < 1000) = true := decide_eq_true (by omega)
          obtain ⟨b2, o2, u2, rfl, _, _, cu, hu⟩ := HU.out.at_ (k := k) (by rw [← HP.out]; exact hlk1)
          obtain ⟨B3, d3, rfl, _⟩ := rd_form hu
          obtain ⟨m2, hm2⟩ : ∃ m2, m2 = (x.l[k]'(by rw [← HP.out]; exact hlk1)).length := ⟨_, rfl⟩
          rw [← hm2] at cu
          obtain ⟨z2, hz3, hz4⟩ : ∃ z : Nat, min (m2 : Int) 30000 = (z : Int) ∧ z ≤ 30000 := ⟨min m2 30000, by omega, by omega⟩
          clear hu hm2
          go_wp2_with fail
          go_round
          case rel => exact ⟨k + 1, n2 + z2, hlk1, hlk2, by omega, by omega, by go_num, by go_num⟩
          case measure => simp [RowKit.intOf]; omega
        · have hexk : k < p → ¬ k < 1000 := fun h1 h2 => hlk ⟨h1, h2⟩
          have hfe : p ≤ n2 := by omega
          have hn2b : n2 ≤ 140737518451232 := by omega
          by_cases h5 : 30000 < n2
          · have t5 : decide ((n2 : Int) > 30000) = true := decide_eq_true (by omega)
            by_cases h1 : k < p
            all_goals
              first
                | (have h2 : ¬ k < 1000 := hexk h1
                   have t3 : decide (k < p) = true := decide_eq_true h1
                   have t3' : (k : Int) < p := by omega
                   have t4 : decide ((k : Int) < 1000) = false := decide_eq_false (by omega))
                | (have t3 : decide (k < p) = false := decide_eq_false h1)
              clear hexk hlk
              go_wp2_with fail
              go_returns
              exact ⟨true, rfl, ⟨q2, rfl⟩, fun h => by cases h⟩
          · have t5 : decide ((n2 : Int) > 30000) = false := decide_eq_false (by omega)
            have HS2 := Lib.hid (HS.out (by omega))
            have hn25 : n2 ≤ 30000 := by omega
            by_cases h1 : k < p
            all_goals
              first
                | (have h2 : ¬ k < 1000 := hexk h1
                   have t3 : decide (k < p) = true := decide_eq_true h1
                   have t3' : (k : Int) < p := by omega
                   have t4 : decide ((k : Int) < 1000) = false := decide_eq_false (by omega))
                | (have t3 : decide (k < p) = false := decide_eq_false h1)
              clear hexk hlk h5
              go_wp2_with fail
              go_roundw
              case rel => exact ⟨i + 1, n2, q2, hlt1, hlt2, hn25, rfl, by go_num, rfl, HS2.out⟩
              case measure => simp [RowKit.intOf]; omega
    · have hexit : i < l.length → ¬ i < 100 := fun h1 h2 => hlt ⟨h1, h2⟩
      have fin : Hid (FewL l 100) := fun j hj hj2 => HF.out j hj (by by_cases h : i < l.length; have := hexit h; omega; omega)
      by_cases h1 : i < l.length
      all_goals
        first
          | (have h2 : ¬ i < 100 := hexit h1
             have t1 : decide (i < l.length) = true := decide_eq_true h1
             have t1' : (i : Int) < l.length := by omega
             have t2 : decide ((i : Int) < 100) = false := decide_eq_false (by omega))
          | (have t1 : decide (i < l.length) = false := decide_eq_false h1)
        clear hexit hlt
        go_wp2_with fail
        go_returns
        exact ⟨false, rfl, ⟨_, rfl⟩, fun _ => fin.out⟩
/-- Spoil, of a body that is owned. -/
theorem spoil_own {w : World} {B : Nat} {v : Value} {x : List UInt8} (h : w.ownsRow B 5 1 v x.length (bts x)) (hn : x.length ≤ 1048576) :
    Calls Try.prog 17 #[v] w fun e w' => e = .returned (.tuple #[]) ∧ Fr (fun b => v.ownBlock = some b) w w' := by
  obtain ⟨_, ⟨rfl, h0⟩ | ⟨g, cap, cur, rfl, _, hcur, h1, h2, hsz, htk⟩⟩ := h
  · exact (bySpoil_zero w none 0).mono fun e w' ⟨he, hw⟩ => ⟨he, by subst hw; exact Fr.refl _ _⟩
  · rw [Nat.mul_one] at htk
    refine (bySpoil_rd w g cap x cur hcur htk hn).mono fun e w' ⟨he, hf⟩ => ⟨he, hf.mono fun b _ hb => ?_⟩
    subst hb; rfl
end Go.Proofs.Ytgohnidndjbjiaa
