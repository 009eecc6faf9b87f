/-
  Sorting rows of uint32: cmp.Less; insertion sort.
-/
import Derived.Test.YtfobapnncjjeiaaProg
import Derived.Test.YtfobapnncjjeiaaMem
import Derived.Lib.Hide
import Derived.Sort.LotA
import Derived.Sort.Row
import Derived.WalkKit
import Derived.Deep.QuietTactic
import Derived.BigQuiet
import Derived.Handy
import Derived.Deep.DeepCutAuto
import Derived.Deep.CutBlock
namespace Go.Proofs.Ytfobapnncjjeiaa
open Go Go.RowKit Go.Lib Go.Sort
set_option linter.unusedVariables false

abbrev uE : Int → Value := Value.int .u32
theorem nanU_any (x : Int) (w : World) : Calls Try.prog 80 #[.int .u32 x] w fun e w' => e = .returned (.bool false) ∧ w' = w := by
  go_enter Try.func80, Try.ntmps80
  go_wp2_with fail
  go_ret
  exact ⟨by simp, rfl⟩
theorem lessU_any (x y : Int) (w : World) : Calls Try.prog 66 #[.int .u32 x, .int .u32 y] w fun e w' => e = .returned (.bool (ltInt x y)) ∧ w' = w := by
  go_enter Try.func66, Try.ntmps66
  go_wp2_with (go_at_call 80; refine (nanU_any _ _).mono ?_; rintro e w1 ⟨rfl, rfl⟩)
  go_ret
  exact ⟨rfl, rfl⟩
/-- A row in the memory that has been sorted on: all else is as it was, but for the draws. -/
def SoW (w : World) (blk off : Nat) (d' : Array Int) (w' : World) : Prop := ∃ n, w' = putRow uE (Sort.ahead w n) blk off d'
theorem SoW.cell {w w' : World} {blk off : Nat} {d d' : Array Int} (h : SoW w blk off d' w') (hH : Holds uE w blk off d) (hs : d'.size = d.size) {j : Nat} (hj : j < d.size) :
    w'.cell? ⟨blk, off + j, none⟩ = some (.int .u32 d'[j]!) ∧ w'.frozen? ⟨blk, off + j, none⟩ = false := by
  obtain ⟨n, rfl⟩ := h
  exact ⟨cell?_putRow _ _ _ _ d d' (holds_ahead _ _ _ _ _ _ hH) hs j (by omega), by rw [frozen?_putRow]; exact ((holds_ahead _ _ n _ _ _ hH) j hj).2⟩
theorem SoW.self {w : World} {blk off : Nat} {d : Array Int} (hH : Holds uE w blk off d) : SoW w blk off d w := ⟨0, (putRow_self _ _ _ _ _ hH).symm⟩
theorem SoW.drewN {w w' : World} {blk off : Nat} {d' : Array Int} (h : SoW w blk off d' w') (q : Nat) : SoW w blk off d' (w'.drewN q) := by
  obtain ⟨n, rfl⟩ := h
  refine ⟨n + q, ?_⟩
  show Sort.ahead (putRow uE (Sort.ahead w n) blk off d') q = _
  rw [putRow_ahead uE w n, ahead_ahead, ← putRow_ahead]
theorem SoW.swap {w w' : World} {blk off : Nat} {d' : Array Int} (h : SoW w blk off d' w') {j k : Nat} (hj : j < d'.size) (hk : k < d'.size) :
    SoW w blk off (swp d' j k) ((w'.setCell ⟨blk, off + j, none⟩ (.int .u32 d'[k]!)).setCell ⟨blk, off + k, none⟩ (.int .u32 d'[j]!)) := by
  obtain ⟨n, rfl⟩ := h
  exact ⟨n, putRow_swp uE _ blk off d' j k hj hk⟩
theorem SoW.trans {w w1 w2 : World} {blk off : Nat} {d1 d2 : Array Int} (h1 : SoW w blk off d1 w1) (h2 : SoW w1 blk off d2 w2) (hs : d2.size = d1.size) : SoW w blk off d2 w2 := by
  obtain ⟨n, rfl⟩ := h1
  obtain ⟨m, rfl⟩ := h2
  exact ⟨n + m, putRow_ahead_putRow uE w n m blk off d1 d2 hs⟩
theorem SoW.holds {w w' : World} {blk off : Nat} {d d' : Array Int} (h : SoW w blk off d' w') (hH : Holds uE w blk off d) (hs : d'.size = d.size) : Holds uE w' blk off d' := fun j hj => h.cell hH hs (by omega)
theorem ins_start {a i : Nat} {d : Array Int} (hs : SortedIn ltInt a i d) : Ins ltInt a i i d :=
  ⟨fun p q hap hpq hqi _ hq => hs p q hap hpq (by omega), fun q h1 h2 => by omega⟩
set_option maxRecDepth 100000 in
set_option maxHeartbeats 4000000 in
theorem insU_any (blk off cap a b : Nat) (d : Array Int) (w : World) (hH : Holds uE w blk off d) (hab : a ≤ b) (hb : b ≤ d.size) (hsz : d.size ≤ 4194304) :
    Calls Try.prog 60 #[.slice (some ⟨blk, off, none⟩) d.size cap, .int .i64 (a : Nat), .int .i64 (b : Nat)] w fun e w' =>
      e = .returned (.tuple #[]) ∧ ∃ d', SoW w blk off d' w' ∧ PermIn a b d d' ∧ SortedIn ltInt a b d' := by
  have HH := Lib.hid hH
  have LS : Hid (∀ x y w1, Calls Try.prog 66 #[.int .u32 x, .int .u32 y] w1 fun e w' => e = .returned (.bool (ltInt x y)) ∧ w' = w1) := lessU_any
  obtain ⟨N, hN⟩ : ∃ N, N = d.size := ⟨_, rfl⟩
  have HN := Lib.hid hN
  rw [← hN] at hb hsz ⊢
  clear hH hN
  go_enter Try.func60, Try.ntmps60
  go_wp2_with fail
  go_loopw [6] (fun iv wr => ∃ (i : Nat) (dk : Array Int), iv = .int .i64 i ∧ a < i ∧ i ≤ b + 1 ∧ Hid (SoW w blk off dk wr ∧ PermIn a b d dk ∧ SortedIn ltInt a (min i b) dk)) (fun iv _ => b + 1 - (RowKit.intOf iv).toNat)
  case atStart => exact ⟨a + 1, d, by go_num, by omega, by omega, SoW.self HH.out, permIn_refl _ _ _, fun p q h1 h2 h3 => by omega⟩
  case round =>
    obtain ⟨i, dk, rfl, hai, hib, HK⟩ := hrel
    by_cases hlt : i < b
    · have hd : decide ((i : Int) < (b : Int)) = true := decide_eq_true (by omega)
      have hd' : decide (i < b) = true := decide_eq_true hlt
      go_upto_region 4 with fail
      go_loopw [7] (fun jv wr => ∃ (j : Nat) (dj : Array Int), jv = .int .i64 j ∧ a ≤ j ∧ j ≤ i ∧ Hid (SoW w blk off dj wr ∧ PermIn a b d dj ∧ Ins ltInt a j i dj)) (fun jv _ => (RowKit.intOf jv).toNat)
      case atStart =>
        refine ⟨i, dk, rfl, by omega, Nat.le_refl _, HK.out.1, HK.out.2.1, ins_start ?_⟩
        have := HK.out.2.2
        rwa [Nat.min_eq_left (by omega)] at this
      case round =>
        clear HK
        obtain ⟨j, dj, rfl, haj, hji, HJ⟩ := hrel
        by_cases hja : a < j
        · have g1 : decide ((j : Int) > (a : Int)) = true := decide_eq_true (by omega)
          have g1' : decide ((a : Int) < (j : Int)) = true := decide_eq_true (by omega)
          have g1'' : decide (a < j) = true := decide_eq_true hja
          obtain ⟨t, ht⟩ : ∃ t, t = j - 1 := ⟨_, rfl⟩
          have hsj : dj.size = N := HJ.out.2.1.1.trans HN.out.symm
          obtain ⟨c0, f0⟩ := HJ.out.1.cell HH.out (hsj.trans HN.out) (j := j) (by have := HN.out; omega)
          obtain ⟨c1, f1⟩ := HJ.out.1.cell HH.out (hsj.trans HN.out) (j := t) (by have := HN.out; omega)
          have HSW : Hid (SoW w blk off (swp dj j t) ((wr.setCell ⟨blk, off + j, none⟩ (.int .u32 dj[t]!)).setCell ⟨blk, off + t, none⟩ (.int .u32 dj[j]!)) ∧ PermIn a b d (swp dj j t)) :=
            ⟨HJ.out.1.swap (by omega) (by omega), permIn_trans _ _ _ _ _ HJ.out.2.1 (swp_permIn dj a b j t (by omega) (by omega) (by omega) (by omega) (by omega))⟩
          have HSTEP : Hid (ltInt dj[j]! dj[t]! = true → Ins ltInt a t i (swp dj j t)) := fun hl => by
            have e : j = t + 1 := by omega
            subst e
            exact HJ.out.2.2.step hl (by omega) (by omega)
          have HSTOP : Hid (ltInt dj[j]! dj[t]! = false → SortedIn ltInt a (i + 1) dj) := fun hl => HJ.out.2.2.stop swo_ltInt (.inr (by rw [← ht]; exact hl))
          obtain ⟨x, hx⟩ : ∃ x, x = dj[j]! := ⟨_, rfl⟩
          obtain ⟨y, hy⟩ : ∃ y, y = dj[t]! := ⟨_, rfl⟩
          rw [← hx, ← hy] at HSW HSTEP HSTOP
          rw [← hx] at c0
          rw [← hy] at c1
          obtain ⟨q, hq⟩ : ∃ q, q = ltInt x y := ⟨_, rfl⟩
          have LXY : Hid (∀ w1, Calls Try.prog 66 #[.int .u32 x, .int .u32 y] w1 fun e w' => e = .returned (.bool q) ∧ w' = w1) := fun w1 => by rw [hq]; exact LS.out x y w1
          rw [← hq] at HSTEP HSTOP
          have e1 : (j : Int) - 1 = (t : Int) := by omega
          have e2 : IntKind.i64.wrap ((j : Int) - 1) = (t : Int) := by rw [e1, IntKind.wrap_i64]; omega
          have e3 : IntKind.i64.wrap (t : Int) = (t : Int) := by rw [IntKind.wrap_i64]; omega
          have hjN : (j : Int) < (N : Int) := by omega
          have htN : (t : Int) < (N : Int) := by omega
          clear hx hy hq ht
          go_wp2_with fail
          go_quiet (first | (go_at_call 66; exact Calls.quiet_of_same (LXY.out _)))
          cases q with
          | true =>
            have HI := Lib.hid (HSTEP.out rfl)
            clear HSTEP HSTOP HJ LXY
            go_wp2_with fail
            go_region
            go_wp2_with fail
            go_roundw
            case rel => exact ⟨t, _, by go_num, by omega, by omega, HSW.out.1.drewN _, HSW.out.2, HI.out⟩
            case measure => simp [RowKit.intOf]; omega
          | false =>
            have HS := Lib.hid (HSTOP.out rfl)
            clear HSTEP HSTOP LXY HSW
            go_wp2_with fail
            go_roundw
            case rel => exact ⟨i + 1, dj, by go_num, by omega, by omega, HJ.out.1.drewN _, HJ.out.2.1, by have := HS.out; intro p q h1 h2 h3; exact this p q h1 h2 (by omega)⟩
            case measure => simp [RowKit.intOf]; omega
        · have g1 : decide ((j : Int) > (a : Int)) = false := decide_eq_false (by omega)
          have g1' : decide ((a : Int) < (j : Int)) = false := decide_eq_false (by omega)
          have g1'' : decide (a < j) = false := decide_eq_false hja
          have HS : Hid (SortedIn ltInt a (i + 1) dj) := HJ.out.2.2.stop swo_ltInt (.inl (by omega))
          go_wp2_with fail
          go_quiet (fail)
          go_wp2_with fail
          go_roundw
          case rel => exact ⟨i + 1, dj, by go_num, by omega, by omega, HJ.out.1.drewN _, HJ.out.2.1, by have := HS.out; intro p q h1 h2 h3; exact this p q h1 h2 (by omega)⟩
          case measure => simp [RowKit.intOf]; omega
    · have hd : decide ((i : Int) < (b : Int)) = false := decide_eq_false (by omega)
      have hd' : decide (i < b) = false := decide_eq_false hlt
      have HS : Hid (SortedIn ltInt a b dk) := by have := HK.out.2.2; rwa [Nat.min_eq_right (by omega)] at this
      go_wp2_with fail
      go_returns
      exact ⟨rfl, dk, HK.out.1, HK.out.2.1, HS.out⟩
end Go.Proofs.Ytfobapnncjjeiaa
