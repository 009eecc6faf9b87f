/-
  The yard's findTaken: where the taken block is that begins there; its take.
-/
import Derived.Test.YtcdlfhheolbhaaaYdY
import Derived.Test.YtcdlfhheolbhaaaSlInsBBlock
import Derived.Test.YtcdlfhheolbhaaaSlDelBBlock
namespace Go.Proofs.Ytcdlfhheolbhaaa
open Go Go.RowKit Go.Lib
set_option linter.unusedVariables false

theorem clF_any (x1 x2 t : Int) (w : World) : Calls Try.prog 72 #[.agg #[.int .i64 x1, .int .i64 x2], .int .i64 t] w fun e w' => e = .returned (.int .i64 (Lib.compareInt x1 t)) ∧ Below w.heap.size w w' := by
  have C : Hid (∀ w, Calls Try.prog 44 #[.int .i64 x1, .int .i64 t] w fun e w' => e = .returned (.int .i64 (Lib.compareInt x1 t)) ∧ w' = w) := fun w => Try.cmp_Compare_int x1 t w
  generalize Lib.compareInt x1 t = r at *
  go_enter Try.func72, Try.ntmps72
  go_wp2_with fail
  refine (C.out _).mono ?_; rintro e w1 ⟨rfl, hw⟩; subst hw
  go_wp2_with fail
  go_ret
  exact ⟨rfl, (Below.refl _ _).alloc (Nat.le_refl _) _⟩
theorem cmpF_neg {x t : Int} : Lib.compareInt x t < 0 ↔ x < t := by
  unfold Lib.compareInt; split <;> (try split) <;> omega
theorem cmpF_zero {x t : Int} : Lib.compareInt x t = 0 ↔ x = t := by
  unfold Lib.compareInt; split <;> (try split) <;> omega

/-- Where the block is, or would be. -/
structure TkAt (tk : List Bk) (t : Int) (p : Nat) (f : Bool) : Prop where
  le : p ≤ tk.length
  lo : ∀ q (hq : q < tk.length), q < p → (tk[q].1 : Int) < t
  hi : ∀ q (hq : q < tk.length), p ≤ q → t ≤ (tk[q].1 : Int)
  at' : f = true ↔ ∃ hp : p < tk.length, (tk[p].1 : Int) = t
set_option maxHeartbeats 2000000 in
theorem bsB_row (b off c : Nat) (xs : List Bk) (t : Int) (w : World) (hn : xs.length ≤ 1048576) (hc : BCells w b off xs) (hi : (xs.map (·.1)).Pairwise (· < ·)) :
    Calls Try.prog 71 #[.slice (some ⟨b, off, none⟩) xs.length c, .int .i64 t, .func (.func 72) #[] #[]] w
      fun e w' => ∃ (p : Nat) (f : Bool), e = .returned (.tuple #[.int .i64 (p : Nat), .bool f]) ∧ TkAt xs t p f ∧ Below w.heap.size w w' := by
  have HC := Lib.hid hc
  have HM : Hid (∀ q r (hq : q < xs.length) (hr : r < xs.length), q ≤ r → xs[q].1 ≤ xs[r].1) := fun q r hq hr h1 => by
    rcases Nat.lt_or_ge q r with h | h
    · have := List.pairwise_iff_getElem.1 hi q r (by simpa using hq) (by simpa using hr) h
      simp at this; omega
    · have e : q = r := by omega
      subst e; exact Nat.le_refl _
  have HK : Hid (∀ x1 x2 w, Calls Try.prog 72 #[.agg #[.int .i64 x1, .int .i64 x2], .int .i64 t] w fun e w' => e = .returned (.int .i64 (Lib.compareInt x1 t)) ∧ Below w.heap.size w w') := fun x1 x2 w => clF_any x1 x2 t w
  clear hc hi
  go_enter Try.func71, Try.ntmps71
  go_wp2_with fail
  go_loopw [9, 10] (fun i j wr => ∃ I J : Nat, i = .int .i64 I ∧ j = .int .i64 J ∧ I ≤ J ∧ J ≤ xs.length ∧ Hid ((∀ q (hq : q < xs.length), q < I → (xs[q].1 : Int) < t) ∧ (∀ q (hq : q < xs.length), J ≤ q → t ≤ (xs[q].1 : Int))) ∧ Below w.heap.size w wr) (fun i j _ => (RowKit.intOf j).toNat - (RowKit.intOf i).toNat)
  case atStart => exact ⟨0, xs.length, rfl, rfl, Nat.zero_le _, Nat.le_refl _, ⟨fun q _ h => by omega, fun q h h' => by omega⟩, Below.refl _ _⟩
  case round =>
    obtain ⟨I, J, rfl, rfl, hIJ, hJ, hq0, hB⟩ := hrel
    by_cases hlt : I < J
    · have hlt' : decide (I < J) = true := decide_eq_true hlt
      obtain ⟨h, hh⟩ : ∃ h, h = (I + J) / 2 := ⟨_, rfl⟩
      have hhI : I ≤ h := by omega
      have hhJ : h < J := by omega
      have hhn : h < xs.length := by omega
      have hhi : (h : Int) < xs.length := by omega
      have eh : ((I : Int) + (J : Int)) / 2 = (h : Int) := by omega
      obtain ⟨c0, c1⟩ := HC.out.at hB hhn
      have HB := Lib.hid hB
      have hneg := Lib.hid (@cmpF_neg (xs[h].1 : Int) t)
      obtain ⟨x, hx⟩ : ∃ x, x = xs[h] := ⟨_, rfl⟩
      have HX := Lib.hid hx
      rw [← hx] at c0 c1 hneg
      obtain ⟨x1, x2⟩ := x
      have HKh := Lib.hid (HK.out (x1 : Int) (x2 : Int))
      dsimp only at c0 c1 hneg
      obtain ⟨r, hr⟩ : ∃ r, r = Lib.compareInt (x1 : Int) t := ⟨_, rfl⟩
      rw [← hr] at HKh hneg
      clear hr hx hh hB
      by_cases hq : r < 0
      · have hq' : decide (r < 0) = true := decide_eq_true hq
        have hxt := Lib.hid (hneg.out.1 hq)
        clear hneg
        go_wp2_with fail
        refine (HKh.out _).mono ?_; rintro e w2 ⟨rfl, b2⟩
        have HB2 := Lib.hid (below_next b2 HB.out); clear b2
        go_wp2_with fail
        go_roundw
        case rel =>
          refine ⟨h + 1, J, by go_num, by go_num, by omega, hJ, ⟨fun q hq h1 => ?_, hq0.out.2⟩, HB2.out⟩
          have := HM.out q h hq hhn (by omega)
          rw [← HX.out] at this
          have := hxt.out
          dsimp only at *; omega
        case measure => simp [RowKit.intOf]; omega
      · have hq' : decide (r < 0) = false := decide_eq_false hq
        have hxt : Hid (t ≤ x1) := by
          unfold Hid
          rcases Int.lt_or_le (x1 : Int) t with h1 | h1
          · exact absurd (hneg.out.2 h1) hq
          · exact h1
        clear hneg
        go_wp2_with fail
        refine (HKh.out _).mono ?_; rintro e w2 ⟨rfl, b2⟩
        have HB2 := Lib.hid (below_next b2 HB.out); clear b2
        go_wp2_with fail
        go_roundw
        case rel =>
          refine ⟨I, h, by go_num, by go_num, hhI, by omega, ⟨hq0.out.1, fun q hq h1 => ?_⟩, HB2.out⟩
          have := HM.out h q hhn hq h1
          rw [← HX.out] at this
          have := hxt.out
          dsimp only at *; omega
        case measure => simp [RowKit.intOf]; omega
    · obtain rfl : I = J := by omega
      have hlt' : decide (I < I) = false := decide_eq_false (by omega)
      have HQ := hq0
      by_cases hIn : I < xs.length
      · have hIn' : decide (I < xs.length) = true := decide_eq_true hIn
        have hIi : (I : Int) < xs.length := by omega
        obtain ⟨c0, c1⟩ := HC.out.at hB hIn
        have HB := Lib.hid hB
        have hz := Lib.hid (@cmpF_zero (xs[I].1 : Int) t)
        obtain ⟨x, hx⟩ : ∃ x, x = xs[I] := ⟨_, rfl⟩
        have HX := Lib.hid hx
        rw [← hx] at c0 c1 hz
        obtain ⟨x1, x2⟩ := x
        have HKh := Lib.hid (HK.out (x1 : Int) (x2 : Int))
        dsimp only at c0 c1 hz
        obtain ⟨r, hr⟩ : ∃ r, r = Lib.compareInt (x1 : Int) t := ⟨_, rfl⟩
        rw [← hr] at HKh hz
        clear hr hx hB
        go_wp2_with fail
        refine (HKh.out _).mono ?_; rintro e w2 ⟨rfl, b2⟩
        have HB2 := Lib.hid (below_next b2 HB.out); clear b2
        go_wp2_with fail
        go_ret2
        refine ⟨I, (r == 0), rfl, ⟨hJ, HQ.out.1, HQ.out.2, ?_⟩, HB2.out⟩
        rw [beq_iff_eq, hz.out]
        constructor
        · intro h; exact ⟨hIn, by rw [← HX.out]; exact h⟩
        · rintro ⟨hp, e⟩; rw [← HX.out] at e; exact e
      · have hIe : I = xs.length := by omega
        have hIn' : decide (I < xs.length) = false := decide_eq_false hIn
        go_wp2_with fail
        go_ret2
        exact ⟨I, false, rfl, ⟨hJ, HQ.out.1, HQ.out.2, by simp; omega⟩, hB⟩
theorem bsB_nil (a : Option Addr) (c : Nat) (t : Int) (f : Value) (w : World) :
    Calls Try.prog 71 #[.slice a 0 c, .int .i64 t, f] w
      fun e w' => ∃ (p : Nat) (f : Bool), e = .returned (.tuple #[.int .i64 (p : Nat), .bool f]) ∧ TkAt [] t p f ∧ Below w.heap.size w w' := by
  go_enter Try.func71, Try.ntmps71
  go_wp2_with fail
  refine wp_loop_rounds 1 ?_
  rw [rounds_succ]
  go_wp2_with fail
  go_ret2
  exact ⟨0, false, rfl, ⟨Nat.le_refl _, fun q h => by simp at h, fun q h => by simp at h, by simp⟩, Below.refl _ _⟩
theorem findTaken_any (y : Nat) (own : Nat → Prop) (n : Nat) (op : Opn) (tk : List Bk) (fl : List Nat) (t : Int) (w : World) (hl : tk.length ≤ 1024) (hi : (tk.map (·.1)).Pairwise (· < ·)) (hY : YI w y own n op tk fl) :
    Calls Try.prog 56 #[.pointer (some ⟨y, 0, none⟩), .int .i64 t] w
      fun e w' => ∃ (p : Nat) (f : Bool), e = .returned (.tuple #[.int .i64 (p : Nat), .bool f]) ∧ TkAt tk t p f ∧ Below w.heap.size w w' := by
  obtain ⟨v, hv, hr⟩ := hY.tk
  have BS : Hid (Calls Try.prog 71 #[v, .int .i64 t, .func (.func 72) #[] #[]] w
      fun e w' => ∃ (p : Nat) (f : Bool), e = .returned (.tuple #[.int .i64 (p : Nat), .bool f]) ∧ TkAt tk t p f ∧ Below w.heap.size w w') := by
    rcases brow_of_own hr with ⟨rfl, a, c, rfl, _⟩ | ⟨b, off, c, rfl, _, _, _, hc⟩
    · exact bsB_nil a c t _ w
    · exact bsB_row b off c tk t w (by omega) hc hi
  clear hY hr hi hl
  go_enter Try.func56, Try.ntmps56
  go_wp2_with fail
  refine BS.out.mono ?_; rintro e w1 ⟨p, f, rfl, h1, b1⟩
  have H1 := Lib.hid h1
  clear h1
  go_wp2_with fail
  go_returns
  exact ⟨p, f, rfl, H1.out, b1⟩

/-- The whole state: who is open is told by the taken ones and the failed ones. -/
def YS (w : World) (y : Nat) (own : Nat → Prop) (n : Nat) (tk : List Bk) (fl : List Nat) : Prop := OkY n tk fl ∧ YI w y own n (opn n tk fl) tk fl
theorem YS.kept {w w' : World} {y : Nat} {own : Nat → Prop} {n : Nat} {tk : List Bk} {fl : List Nat} (h : YS w y own n tk fl) (hb : Below w.heap.size w w') : YS w' y own n tk fl := ⟨h.1, h.2.kept hb⟩

/-- slices.Insert of one block, which lies in a block of its own. -/
theorem insB_any (v : Value) (l : List Bk) (i vb c : Nat) (x : Bk) (w : World) (hi : i ≤ l.length) (hn : l.length ≤ 1024) (hown : BOwn w 0 v l) (hB : Blk w vb #[.int .i64 (x.1 : Int), .int .i64 (x.2 : Int)] 45) (hvb : some vb ≠ v.ownBlock) :
    Calls Try.prog 70 #[v, .int .i64 i, .slice (some ⟨vb, 0, none⟩) 1 c] w
      fun e w' => ∃ v', e = .returned v' ∧ w'.ownsRow 0 45 2 v' (l.length + 1) (blkL (l.take i ++ x :: l.drop i)) ∧ w.grownBy w' v.ownBlock ∧ AtB w v v' := by
  have h := insIBlock_any 0 v l.length i 1 c vb #[.int .i64 (x.1 : Int), .int .i64 (x.2 : Int)] 45 (blkL l) (blkC x) w (by omega) hi (by omega) (Nat.zero_le _) hown (blkL_one _) hB hvb rfl rfl (by intro u hu; simp [blkC] at hu; rcases hu with rfl | rfl <;> rfl)
  rw [blkL_take, blkL_drop, List.append_assoc, ← blkL_cons, ← blkL_app] at h
  exact h
theorem delB_any (v : Value) (l : List Bk) (i : Nat) (w : World) (hi : i < l.length) (hown : BOwn w 0 v l) :
    Calls Try.prog 57 #[v, .int .i64 i, .int .i64 ((i + 1 : Nat) : Int)] w
      fun e w' => ∃ v', e = .returned v' ∧ w'.ownsRow 0 45 2 v' (i + (l.length - (i + 1))) (blkL (l.take i ++ l.drop (i + 1))) ∧ w.grownBy w' v.ownBlock ∧ AtB w v v' := by
  have h := delIBlock_any 0 v l.length i (i + 1) (blkL l) w (by omega) hi hown (blkL_one _)
  rw [blkL_take, blkL_drop, ← blkL_app] at h
  exact h
end Go.Proofs.Ytcdlfhheolbhaaa
