/-
  gang.compare; slices.BinarySearchFunc at cells: where a cell is put.
-/
import Derived.Test.YtfobapnncjjeiaaGaM
import Derived.Test.YtfobapnncjjeiaaShelf
import Derived.Deep.RegionHeld3
import Derived.BigQuiet
import Derived.Shelf.SlicesG.Cmp
import Derived.Lib.Small
import Derived.Deep.DeepCutAuto
namespace Go.Proofs.Ytfobapnncjjeiaa
open Go Go.RowKit Go.Lib
set_option linter.unusedVariables false

def orG (x y : Int) : Int := if x = 0 then y else x
def cmpC (c d : Ce) : Int := orG (compareInt (c.2.1 : Int) (d.2.1 : Int)) (compareInt (c.2.2.1 : Int) (d.2.2.1 : Int))
theorem cmpC_lex (c d : Ce) : cmpC c d < 0 ↔ LexB c d := by
  unfold cmpC orG compareInt LexB
  have h1 : (c.2.1 : Int) < (d.2.1 : Int) ↔ c.2.1 < d.2.1 := by omega
  have h2 : (d.2.1 : Int) < (c.2.1 : Int) ↔ d.2.1 < c.2.1 := by omega
  have h3 : (c.2.2.1 : Int) < (d.2.2.1 : Int) ↔ c.2.2.1 < d.2.2.1 := by omega
  have h4 : (d.2.2.1 : Int) < (c.2.2.1 : Int) ↔ d.2.2.1 < c.2.2.1 := by omega
  simp only [h1, h2, h3, h4]
  show _ ↔ c.2.1 < d.2.1 ∨ (c.2.1 = d.2.1 ∧ c.2.2.1 < d.2.2.1)
  rcases Nat.lt_trichotomy c.2.1 d.2.1 with h | h | h
  · rw [if_pos h, if_neg (show ¬ (-1 : Int) = 0 by omega)]; omega
  · rw [if_neg (show ¬ c.2.1 < d.2.1 by omega), if_neg (show ¬ d.2.1 < c.2.1 by omega), if_pos rfl]
    rcases Nat.lt_trichotomy c.2.2.1 d.2.2.1 with k | k | k
    · rw [if_pos k]; omega
    · rw [if_neg (show ¬ c.2.2.1 < d.2.2.1 by omega), if_neg (show ¬ d.2.2.1 < c.2.2.1 by omega)]; omega
    · rw [if_neg (show ¬ c.2.2.1 < d.2.2.1 by omega), if_pos k]; omega
  · rw [if_neg (show ¬ c.2.1 < d.2.1 by omega), if_pos h, if_neg (show ¬ (1 : Int) = 0 by omega)]; omega
theorem or2_any (b : Nat) (x y : Int) (w : World) (h : Blk w b #[.int .i64 x, .int .i64 y] 3) :
    Calls Try.prog 71 #[.slice (some ⟨b, 0, none⟩) 2 2] w fun e w' => e = .returned (.int .i64 (orG x y)) ∧ w' = w := by
  have c0 := h.cell 0; simp at c0
  have c1 := h.cell 1; simp at c1
  clear h
  by_cases hx : x = 0
  · subst hx
    by_cases hy : y = 0
    · subst hy
      go_enter Try.func71, Try.ntmps71
      go_wp2_with fail
      refine wp_loop_rounds 3 ?_
      rw [rounds_succ]
      go_wp2_with fail
      rw [rounds_succ]
      go_wp2_with fail
      rw [rounds_succ]
      go_wp2_with fail
      go_ret
      exact ⟨rfl, rfl⟩
    · have t : (y == 0) = false := by simpa using hy
      have t' : (y != 0) = true := by simpa using hy
      have e : orG 0 y = y := rfl
      rw [e]
      go_enter Try.func71, Try.ntmps71
      go_wp2_with fail
      refine wp_loop_rounds 3 ?_
      rw [rounds_succ]
      go_wp2_with fail
      rw [rounds_succ]
      go_wp2_with fail
      go_ret
      exact ⟨rfl, rfl⟩
  · have t : (x == 0) = false := by simpa using hx
    have t' : (x != 0) = true := by simpa using hx
    have e : orG x y = x := by simp [orG, hx]
    rw [e]
    go_enter Try.func71, Try.ntmps71
    go_wp2_with fail
    refine wp_loop_rounds 3 ?_
    rw [rounds_succ]
    go_wp2_with fail
    go_ret
    exact ⟨rfl, rfl⟩
def ceA (c : Ce) : Value := .agg #[.int .u32 (c.1 : Nat), .int .i64 (c.2.1 : Nat), .int .i64 (c.2.2.1 : Nat), .int .i64 (c.2.2.2 : Nat)]
set_option maxHeartbeats 1000000 in
theorem compareC_any (c d : Ce) (w : World) :
    Calls Try.prog 57 #[ceA c, ceA d] w fun e w' => e = .returned (.int .i64 (cmpC c d)) ∧ Below w.heap.size w w' := by
  obtain ⟨i, r, s, o⟩ := c
  obtain ⟨i', r', s', o'⟩ := d
  have E : Hid (orG (compareInt (r : Int) (r' : Int)) (compareInt (s : Int) (s' : Int)) = cmpC (i, r, s, o) (i', r', s', o')) := rfl
  have H1 : Hid (∀ w, Calls Try.prog 72 #[.int .i64 (r : Nat), .int .i64 (r' : Nat)] w fun e w' => e = .returned (.int .i64 (compareInt (r : Int) (r' : Int))) ∧ w' = w) := fun w => Try.cmp_Compare_int _ _ w
  have H2 : Hid (∀ w, Calls Try.prog 72 #[.int .i64 (s : Nat), .int .i64 (s' : Nat)] w fun e w' => e = .returned (.int .i64 (compareInt (s : Int) (s' : Int))) ∧ w' = w) := fun w => Try.cmp_Compare_int _ _ w
  generalize cmpC (i, r, s, o) (i', r', s', o') = q at E ⊢
  generalize compareInt (r : Int) (r' : Int) = x at *
  generalize compareInt (s : Int) (s' : Int) = y at *
  unfold ceA
  dsimp only
  go_enter Try.func57, Try.ntmps57
  go_wp2_with fail
  go_region_held3 (fun w' => w'.cell? ⟨w.heap.size, 1, none⟩ = some (.int .i64 (r : Nat)) ∧ w'.cell? ⟨w.heap.size, 2, none⟩ = some (.int .i64 (s : Nat)) ∧
      w'.cell? ⟨w.heap.size + 1, 1, none⟩ = some (.int .i64 (r' : Nat)) ∧ w'.cell? ⟨w.heap.size + 1, 2, none⟩ = some (.int .i64 (s' : Nat)) ∧ Below w.heap.size w w')
    (first
      | assumption
      | (go_split_ands; refine ⟨?_, ?_, ?_, ?_, ?_⟩ <;> first | go_keep | go_grown | simp))
    (first
      | (go_at_call 72; ((with_reducible refine (H1.out _).mono ?_); rintro e w2 ⟨rfl, rfl⟩))
      | (go_at_call 72; ((with_reducible refine (H2.out _).mono ?_); rintro e w2 ⟨rfl, rfl⟩))
      | (go_at_call 71; ((with_reducible refine (or2_any (w.heap.size + 1 + 1) x y _ (Blk.drew (Blk.fresh _ _ _ _ (by simp)))).mono ?_); rintro e w3 ⟨rfl, rfl⟩)))
  all_goals
    go_wp2_with fail
    go_ret
    exact ⟨(by rw [← E.out]; rfl), by go_grown⟩
set_option maxHeartbeats 4000000 in
set_option maxRecDepth 100000 in
theorem bsC_row (b off c : Nat) (l : List Ce) (d : Ce) (w : World) (hn : l.length ≤ 1048576) (hc : CRow w (.slice (some ⟨b, off, none⟩) l.length c) l) (hs : l.Pairwise Bef) :
    Calls Try.prog 56 #[.slice (some ⟨b, off, none⟩) l.length c, ceA d, .func (.func 57) #[] #[]] w
      fun e w' => (∃ f, e = .returned (.tuple #[.int .i64 (posG l d : Nat), .bool f])) ∧ Below w.heap.size w w' := by
  have HC := Lib.hid hc
  have HPL : Hid (∀ (q : Nat) (hq : q < l.length), cmpC l[q] d < 0 → q < posG l d) := fun q hq h => by
    apply Classical.byContradiction
    intro hn
    exact posG_ge hs hq (by omega) ((cmpC_lex _ _).1 h)
  have HPG : Hid (∀ (q : Nat) (hq : q < l.length), ¬ cmpC l[q] d < 0 → posG l d ≤ q) := fun q hq h => by
    apply Classical.byContradiction
    intro hn
    exact h ((cmpC_lex _ _).2 (posG_lt hq (by omega)))
  have HP := posG_le l d
  obtain ⟨p, hp⟩ : ∃ p, p = posG l d := ⟨_, rfl⟩
  rw [← hp] at HPL HPG HP ⊢
  clear hc hs hp
  have HK : Hid (∀ q (hq : q < l.length) w, Calls Try.prog 57 #[ceA l[q], ceA d] w fun e w' => e = .returned (.int .i64 (cmpC l[q] d)) ∧ Below w.heap.size w w') := fun q hq w => compareC_any _ _ w
  obtain ⟨D, hD⟩ : ∃ D : Ce, D = d := ⟨_, rfl⟩
  obtain ⟨d1, d2, d3, d4⟩ := d
  have eV : ceA (d1, d2, d3, d4) = .agg #[.int .u32 (d1 : Nat), .int .i64 (d2 : Nat), .int .i64 (d3 : Nat), .int .i64 (d4 : Nat)] := rfl
  rw [eV] at HK ⊢
  rw [← hD] at HPL HPG HK
  clear hD eV
  unfold ceA at HK
  go_enter Try.func56, Try.ntmps56
  go_wp2_with fail
  go_loopw [9, 10] (fun i j wr => ∃ I J : Nat, i = .int .i64 I ∧ j = .int .i64 J ∧ I ≤ p ∧ p ≤ J ∧ J ≤ l.length ∧
      Blk wr w.heap.size #[.int .u32 (d1 : Nat), .int .i64 (d2 : Nat), .int .i64 (d3 : Nat), .int .i64 (d4 : Nat)] 48 ∧ Below w.heap.size w wr) (fun i j _ => (RowKit.intOf j).toNat - (RowKit.intOf i).toNat)
  case atStart => exact ⟨0, l.length, rfl, rfl, Nat.zero_le _, HP, Nat.le_refl _, Blk.new _ _ _, (Below.refl _ _).alloc (Nat.le_refl _) _⟩
  case round =>
    obtain ⟨I, J, rfl, rfl, hI, hJp, hJ, hb0, hB⟩ := hrel
    by_cases hlt : I < J
    · have hlt' : decide (I < J) = true := decide_eq_true hlt
      obtain ⟨h, hh⟩ : ∃ h, h = (I + J) / 2 := ⟨_, rfl⟩
      have hhI : I ≤ h := by omega
      have hhJ : h < J := by omega
      have hhn : h < l.length := by omega
      have eh : ((I : Int) + (J : Int)) / 2 = (h : Int) := by omega
      obtain ⟨c0, c1, c2, c3⟩ := HC.out.cells hhn hB
      have e0 := hb0.cell 0; simp at e0
      have e1 := hb0.cell 1; simp at e1
      have e2 := hb0.cell 2; simp at e2
      have e3 := hb0.cell 3; simp at e3
      have HKh := Lib.hid (HK.out h hhn)
      have HL := Lib.hid (HPL.out h hhn)
      have HG := Lib.hid (HPG.out h hhn)
      obtain ⟨r, hr⟩ : ∃ r, r = cmpC l[h] D := ⟨_, rfl⟩
      rw [← hr] at HKh HL HG
      obtain ⟨x, hx⟩ : ∃ x, x = l[h] := ⟨_, rfl⟩
      rw [← hx] at c0 c1 c2 c3 HKh
      have HB0 := Lib.hid hb0
      have hw0 : w.heap.size < wr.heap.size := hb0.lt
      clear hr hx hh hb0
      cases hq : decide (r < 0)
      all_goals
        go_wp2_with fail
        go_region_held3 (fun w' => w'.cell? ⟨b, off + h * 4, none⟩ = some (.int .u32 (x.1 : Nat)) ∧ w'.cell? ⟨b, off + h * 4 + 1, none⟩ = some (.int .i64 (x.2.1 : Nat)) ∧ w'.cell? ⟨b, off + h * 4 + 2, none⟩ = some (.int .i64 (x.2.2.1 : Nat)) ∧ w'.cell? ⟨b, off + h * 4 + 3, none⟩ = some (.int .i64 (x.2.2.2 : Nat)) ∧
            w'.cell? ⟨w.heap.size, 0, none⟩ = some (.int .u32 (d1 : Nat)) ∧ w'.cell? ⟨w.heap.size, 1, none⟩ = some (.int .i64 (d2 : Nat)) ∧ w'.cell? ⟨w.heap.size, 2, none⟩ = some (.int .i64 (d3 : Nat)) ∧ w'.cell? ⟨w.heap.size, 3, none⟩ = some (.int .i64 (d4 : Nat)) ∧ Below wr.heap.size wr w')
          (first
            | exact ⟨c0, c1, c2, c3, e0, e1, e2, e3, (Below.refl _ wr).drew⟩
            | (rcases ‹_ ∧ _ ∧ _ ∧ _ ∧ _ ∧ _ ∧ _ ∧ _ ∧ Below _ _ _› with ⟨g0, g1, g2, g3, g4, g5, g6, g7, g8⟩; exact ⟨cell_next (by assumption) g0, cell_next (by assumption) g1, cell_next (by assumption) g2, cell_next (by assumption) g3, cell_next (by assumption) g4, cell_next (by assumption) g5, cell_next (by assumption) g6, cell_next (by assumption) g7, below_next (by assumption) g8⟩))
          (first
            | (go_at_call 57; ((with_reducible refine (HKh.out _).mono ?_); rintro e w2 ⟨rfl, b2⟩)))
        rcases ‹_ ∧ _ ∧ _ ∧ _ ∧ _ ∧ _ ∧ _ ∧ _ ∧ Below _ _ _› with ⟨_, _, _, _, _, _, _, _, g8⟩
      · have hp' := HG.out (by have := of_decide_eq_false hq; omega)
        go_wp2_with fail
        go_roundw
        case rel => exact ⟨I, h, by go_num, by go_num, hI, hp', by omega, HB0.out.kept g8, below_next g8 hB⟩
        case measure => simp [RowKit.intOf]; omega
      · have hp' := HL.out (of_decide_eq_true hq)
        go_wp2_with fail
        go_roundw
        case rel => exact ⟨h + 1, J, by go_num, by go_num, hp', hJp, hJ, HB0.out.kept g8, below_next g8 hB⟩
        case measure => simp [RowKit.intOf]; omega
    · have hIJ : I = J := by omega
      have hIp : I = p := by omega
      subst hIJ
      have hlt' : decide (I < I) = false := decide_eq_false (by omega)
      have HIP := Lib.hid hIp
      clear hIp HPL HPG
      by_cases hIn : I < l.length
      · have hIn' : decide (I < l.length) = true := decide_eq_true hIn
        obtain ⟨c0, c1, c2, c3⟩ := HC.out.cells hIn hB
        have e0 := hb0.cell 0; simp at e0
        have e1 := hb0.cell 1; simp at e1
        have e2 := hb0.cell 2; simp at e2
        have e3 := hb0.cell 3; simp at e3
        have HKh := Lib.hid (HK.out I hIn)
        generalize cmpC l[I] D = r at HKh
        generalize l[I] = x at c0 c1 c2 c3 HKh
        have hw0 : w.heap.size < wr.heap.size := hb0.lt
        clear hb0 HK
        cases hf : (r == 0)
        all_goals
          go_wp2_with fail
          go_region_held3 (fun w' => w'.cell? ⟨b, off + I * 4, none⟩ = some (.int .u32 (x.1 : Nat)) ∧ w'.cell? ⟨b, off + I * 4 + 1, none⟩ = some (.int .i64 (x.2.1 : Nat)) ∧ w'.cell? ⟨b, off + I * 4 + 2, none⟩ = some (.int .i64 (x.2.2.1 : Nat)) ∧ w'.cell? ⟨b, off + I * 4 + 3, none⟩ = some (.int .i64 (x.2.2.2 : Nat)) ∧
              w'.cell? ⟨w.heap.size, 0, none⟩ = some (.int .u32 (d1 : Nat)) ∧ w'.cell? ⟨w.heap.size, 1, none⟩ = some (.int .i64 (d2 : Nat)) ∧ w'.cell? ⟨w.heap.size, 2, none⟩ = some (.int .i64 (d3 : Nat)) ∧ w'.cell? ⟨w.heap.size, 3, none⟩ = some (.int .i64 (d4 : Nat)) ∧ Below wr.heap.size wr w')
            (first
              | exact ⟨c0, c1, c2, c3, e0, e1, e2, e3, (Below.refl _ wr).drew⟩
              | (rcases ‹_ ∧ _ ∧ _ ∧ _ ∧ _ ∧ _ ∧ _ ∧ _ ∧ Below _ _ _› with ⟨g0, g1, g2, g3, g4, g5, g6, g7, g8⟩; exact ⟨cell_next (by assumption) g0, cell_next (by assumption) g1, cell_next (by assumption) g2, cell_next (by assumption) g3, cell_next (by assumption) g4, cell_next (by assumption) g5, cell_next (by assumption) g6, cell_next (by assumption) g7, below_next (by assumption) g8⟩))
            (first
              | (go_at_call 57; ((with_reducible refine (HKh.out _).mono ?_); rintro e w2 ⟨rfl, b2⟩)))
          rcases ‹_ ∧ _ ∧ _ ∧ _ ∧ _ ∧ _ ∧ _ ∧ _ ∧ Below _ _ _› with ⟨_, _, _, _, _, _, _, _, g8⟩
          go_wp2_with fail
          obtain rfl := HIP.out
          go_ret2
          exact ⟨⟨_, rfl⟩, below_next g8 hB⟩
      · have hIl : I = l.length := by omega
        have hIn' : decide (I < l.length) = false := decide_eq_false hIn
        have HIL := Lib.hid hIl
        clear hIl
        go_wp2_with fail
        go_quiet (fail)
        go_wp2_with fail
        obtain rfl := HIP.out
        go_ret2
        exact ⟨⟨_, rfl⟩, below_drewN hB _⟩
theorem bsC_nil (a : Option Addr) (c : Nat) (d : Ce) (f : Value) (w : World) :
    Calls Try.prog 56 #[.slice a 0 c, ceA d, f] w
      fun e w' => (∃ f, e = .returned (.tuple #[.int .i64 0, .bool f])) ∧ Below w.heap.size w w' := by
  unfold ceA
  go_enter Try.func56, Try.ntmps56
  go_wp2_with fail
  refine wp_loop_rounds 1 ?_
  rw [rounds_succ]
  go_wp2_with fail
  go_quiet (fail)
  go_wp2_with fail
  go_ret2
  exact ⟨⟨_, rfl⟩, below_drewN ((Below.refl _ _).alloc (Nat.le_refl _) _) _⟩
theorem bsC_any (v : Value) (l : List Ce) (d : Ce) (w : World) (hn : l.length ≤ 1048576) (h : CRow w v l) (hs : l.Pairwise Bef) :
    Calls Try.prog 56 #[v, ceA d, .func (.func 57) #[] #[]] w
      fun e w' => (∃ f, e = .returned (.tuple #[.int .i64 (posG l d : Nat), .bool f])) ∧ Below w.heap.size w w' := by
  have h' := h
  rcases h with ⟨rfl, a, c, rfl⟩ | ⟨b, off, c, rfl, h0, _⟩
  · exact bsC_nil a c d _ w
  · exact bsC_row b off c l d w hn h' hs
end Go.Proofs.Ytfobapnncjjeiaa
