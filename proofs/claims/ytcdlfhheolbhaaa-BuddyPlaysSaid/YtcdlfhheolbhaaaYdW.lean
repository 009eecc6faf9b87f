/-
  The yard's carve.
-/
import Derived.Test.YtcdlfhheolbhaaaYdV
import Derived.Test.YtcdlfhheolbhaaaYdE
namespace Go.Proofs.Ytcdlfhheolbhaaa
open Go Go.RowKit Go.Lib
set_option linter.unusedVariables false

/-- A closed block whose halves are told: one half is opened again. -/
theorem half_left {n : Nat} {op : Opn} {k s : Nat} (hk : k + 1 ≤ n) (hs : s % 2 ^ (k + 1) = 0) (hb : s + 2 ^ (k + 1) ≤ 2 ^ n) (ha : allB op (k + 1) s) :
    InsAt n (less op (k + 1) s) k (s + 2 ^ k) ∧ more (less op (k + 1) s) k (s + 2 ^ k) = less op k s := by
  have e2 := pow_two k
  have hs0 : s % 2 ^ k = 0 := two_mod (Nat.le_succ k) hs
  have hsub : ∀ x, inB k (s + 2 ^ k) x → inB (k + 1) s x := fun x hx => by unfold inB at *; omega
  refine ⟨⟨by omega, two_add_mod (Nat.le_refl k) hs0, by omega, fun x hx => less_in (hsub x hx)⟩, ?_⟩
  funext x
  by_cases h1 : inB k (s + 2 ^ k) x
  · have h2 : ¬ inB k s x := by unfold inB at *; omega
    rw [more_in h1, less_out h2, ha x (hsub x h1)]
  · rw [more_out h1]
    by_cases h2 : inB k s x
    · rw [less_in h2, less_in (by unfold inB at *; omega)]
    · rw [less_out h2, less_out (by unfold inB at *; omega)]
theorem half_right {n : Nat} {op : Opn} {k s : Nat} (hk : k + 1 ≤ n) (hs : s % 2 ^ (k + 1) = 0) (hb : s + 2 ^ (k + 1) ≤ 2 ^ n) (ha : allB op (k + 1) s) :
    InsAt n (less op (k + 1) s) k s ∧ more (less op (k + 1) s) k s = less op k (s + 2 ^ k) := by
  have e2 := pow_two k
  have hs0 : s % 2 ^ k = 0 := two_mod (Nat.le_succ k) hs
  have hsub : ∀ x, inB k s x → inB (k + 1) s x := fun x hx => by unfold inB at *; omega
  refine ⟨⟨by omega, hs0, by omega, fun x hx => less_in (hsub x hx)⟩, ?_⟩
  funext x
  by_cases h1 : inB k s x
  · have h2 : ¬ inB k (s + 2 ^ k) x := by unfold inB at *; omega
    rw [more_in h1, less_out h2, ha x (hsub x h1)]
  · rw [more_out h1]
    by_cases h2 : inB k (s + 2 ^ k) x
    · rw [less_in h2, less_in (by unfold inB at *; omega)]
    · rw [less_out h2, less_out (by unfold inB at *; omega)]

/-- Where carve stands: a closed block around the one that is asked for. -/
structure CarveAt (n : Nat) (op : Opn) (o s o' s' : Nat) : Prop where
  lo : o ≤ o'
  hi : o' ≤ n
  al : s' % 2 ^ o' = 0
  le : s' + 2 ^ o' ≤ 2 ^ n
  inn : ∀ x, inB o s x → inB o' s' x
  all : allB op o' s'
theorem CarveAt.lt {n : Nat} {op : Opn} {o s o' s' : Nat} (h : CarveAt n op o s o' s') (hs : s % 2 ^ o = 0) (hne : ¬ (s' = s ∧ o' = o)) : o < o' := by
  rcases Nat.lt_or_ge o o' with h1 | h1
  · exact h1
  · exfalso
    have e : o' = o := Nat.le_antisymm h1 h.lo
    subst e
    exact hne ⟨same_block h.al hs (h.inn s (inB_self _ _)) (inB_self _ _), rfl⟩
theorem CarveAt.left {n : Nat} {op : Opn} {o s k s' : Nat} (h : CarveAt n op o s (k + 1) s') (hs : s % 2 ^ o = 0) (hk : o ≤ k) (hin : inB k s' s) : CarveAt n op o s k s' := by
  have e2 := pow_two k
  have h1 := h.le
  have hs0 : s' % 2 ^ k = 0 := two_mod (Nat.le_succ k) h.al
  exact ⟨hk, by have := h.hi; omega, hs0, by omega, nest_in hk hs hs0 (inB_self o s) hin, fun x hx => h.all x (by unfold inB at *; omega)⟩
theorem CarveAt.right {n : Nat} {op : Opn} {o s k s' : Nat} (h : CarveAt n op o s (k + 1) s') (hs : s % 2 ^ o = 0) (hk : o ≤ k) (hin : ¬ inB k s' s) : CarveAt n op o s k (s' + 2 ^ k) := by
  have e2 := pow_two k
  have h1 := h.le
  have hs0 : s' % 2 ^ k = 0 := two_mod (Nat.le_succ k) h.al
  have hs1 : (s' + 2 ^ k) % 2 ^ k = 0 := two_add_mod (Nat.le_refl k) hs0
  have hin' : inB k (s' + 2 ^ k) s := by have := h.inn s (inB_self _ _); unfold inB at *; omega
  exact ⟨hk, by have := h.hi; omega, hs1, by omega, nest_in hk hs hs1 (inB_self o s) hin', fun x hx => h.all x (by unfold inB at *; omega)⟩

attribute [local go_sem ↓] blk_eql blk_neq blk_grd
set_option maxHeartbeats 4000000 in
theorem carve_any (y : Nat) (own : Nat → Prop) (n : Nat) (op : Opn) (tk : List Bk) (fl : List Nat) (o s : Nat) (w : World) (ho : o ≤ n) (hs : s % 2 ^ o = 0) (hb : s + 2 ^ o ≤ 2 ^ n) (ha : allB op o s) (hY : YI w y own n op tk fl) :
    Calls Try.prog 62 #[.pointer (some ⟨y, 0, none⟩), bkV (s, o)] w
      fun e w' => e = .returned (.tuple #[]) ∧ YI w' y own n (less op o s) tk fl ∧ Chg own w w' := by
  have hn := hY.n10
  obtain ⟨gB, hgB⟩ : ∃ gB, gB = w.heap.size := ⟨_, rfl⟩
  obtain ⟨w0, hw0⟩ : ∃ w0, w0 = w.alloc (.cells #[.int .i64 (s : Int), .int .i64 (o : Int)] 45) := ⟨_, rfl⟩
  have hB0 : Below w.heap.size w w0 := by rw [hw0]; exact (Below.refl _ _).alloc (Nat.le_refl _) _
  have HY0 : Hid (YI w0 y (fun k => own k ∧ k ≠ gB) n op tk fl) := by unfold Hid; rw [hw0, hgB]; exact hY.box _
  have HG : Blk w0 gB #[.int .i64 (s : Int), .int .i64 (o : Int)] 45 := by rw [hw0, hgB]; exact Blk.new _ _ _
  have hg0 := HG.cell 0
  have hg1 := HG.cell 1
  simp at hg0 hg1
  have FA := Lib.hid (freeAround_any y _ n op tk fl o s w0 ho hs hb HY0.out)
  have HGH := Lib.hid HG
  have HB0 := Lib.hid hB0
  have HW := Lib.hid (show w0.heap.size = gB + 1 by rw [hw0, hgB]; simp)
  clear hY hB0 HG
  go_enter Try.func62, Try.ntmps62
  go_wp2_with fail
  rw [← hw0, ← hgB]
  have HGW := Lib.hid hgB
  clear hw0 hgB
  refine FA.out.mono ?_; rintro e w1 ⟨r, rfl, har, b1⟩
  rcases har with ⟨h1, h2, h3, h4, h5⟩ | ⟨_, _, h3⟩
  · obtain ⟨⟨s1, o1⟩, f⟩ := r
    dsimp only at h1 h2 h3 h4
    subst h1
    have HC0 : Hid (CarveAt n op o s o1 s1) := ⟨h3, h2.1, h2.2.1, h2.2.2.1, h4, h2.2.2.2.1⟩
    have HGo : Hid (¬ (own gB ∧ gB ≠ gB)) := fun h => h.2 rfl
    obtain ⟨gT, hgT⟩ : ∃ gT, gT = w1.heap.size := ⟨_, rfl⟩
    have HoT1 : Hid (own gT) := by rw [hgT]; exact (HY0.out.new _ b1.size).1
    have hwT : gB ≠ w1.heap.size := by have := HW.out; have := b1.size; omega
    have RM := remove_any y (fun k => (own k ∧ k ≠ gB) ∧ k ≠ w1.heap.size) n op tk fl o1 s1 h2.1 _ ((HY0.out.kept b1).box (.cells #[.int .i64 (s1 : Int), .int .i64 (o1 : Int)] 45))
    have HBT : Blk (w1.alloc (.cells #[.int .i64 (s1 : Int), .int .i64 (o1 : Int)] 45)) w1.heap.size #[.int .i64 (s1 : Int), .int .i64 (o1 : Int)] 45 := Blk.new _ _ _
    have HBT2 : Hid (Blk (w1.alloc (.cells #[.int .i64 (s1 : Int), .int .i64 (o1 : Int)] 45)) gT #[.int .i64 (s1 : Int), .int .i64 (o1 : Int)] 45) := by unfold Hid; rw [hgT]; exact HBT
    have HGB2 := Lib.hid ((HGH.out.kept b1).old (.cells #[.int .i64 (s1 : Int), .int .i64 (o1 : Int)] 45))
    rw [← hgT] at RM hwT
    have HRM := Lib.hid RM
    have HF := Lib.hid h2
    have HCw : Hid (Chg own w (w1.alloc (.cells #[.int .i64 (s1 : Int), .int .i64 (o1 : Int)] 45))) :=
      Chg.of_below ((HB0.out.trans (b1.mono HB0.out.size)).alloc (Nat.le_trans HB0.out.size b1.size) _)
    clear RM HBT h2 h3 h4 h5 b1 FA
    go_wp2_with fail
    rw [← hgT]
    have HGT := Lib.hid hgT
    clear hgT
    refine HRM.out.mono ?_; rintro e w3 ⟨r, op2, rfl, hcase, hY3, hC3⟩
    have HOW : Hid (∀ k, ((own k ∧ k ≠ gB) ∧ k ≠ gT) → own k) := fun k hk => hk.1.1
    have hG3 := HGB2.out.chg hC3 (fun h => h.1.2 rfl)
    have hT3 := HBT2.out.chg hC3 (fun h => h.2 rfl)
    have HCx : Hid (Chg own w w3) := HCw.out.trans (hC3.weak HOW.out)
    have HoT : Hid (¬ ((own gT ∧ gT ≠ gB) ∧ gT ≠ gT)) := fun h => h.2 rfl
    have HoB : Hid (¬ ((own gB ∧ gB ≠ gB) ∧ gB ≠ gT)) := fun h => h.1.2 rfl
    obtain ⟨own2, hown2⟩ : ∃ own2 : Nat → Prop, own2 = fun k => (own k ∧ k ≠ gB) ∧ k ≠ gT := ⟨_, rfl⟩
    have hY4 : YI w3 y own2 n (less op o1 s1) tk fl := by
      rcases hcase with ⟨_, _, e⟩ | ⟨_, e, _⟩
      · rw [hown2, ← e]; exact hY3
      · exact absurd HF.out e
    have HY4 := Lib.hid hY4
    have HOW2 : Hid (∀ k, own2 k → own k) := by unfold Hid; rw [hown2]; exact HOW.out
    have HoT2 : Hid (¬ own2 gT) := by unfold Hid; rw [hown2]; exact HoT.out
    have HoB2 : Hid (¬ own2 gB) := by unfold Hid; rw [hown2]; exact HoB.out
    have HG3 := Lib.hid hG3
    have HT3 := Lib.hid hT3
    clear hcase hY3 hC3 hG3 hT3 hY4 HRM HBT2 HGB2 HCw HOW HoT HoB hown2 HF
    go_wp2_with fail
    go_loopg [] (o1 - o) (fun g wr => ∃ o' s' : Nat, g + o = o' ∧ Hid (CarveAt n op o s o' s') ∧ Hid (YI wr y own2 n (less op o' s') tk fl) ∧ Hid (Blk wr gT #[.int .i64 (s' : Int), .int .i64 (o' : Int)] 45) ∧ Hid (Blk wr gB #[.int .i64 (s : Int), .int .i64 (o : Int)] 45) ∧ Hid (Chg own w wr))
    case atStart => exact ⟨o1, s1, by have := HC0.out.lo; omega, HC0, HY4, HT3, HG3, HCx⟩
    case round =>
      obtain ⟨o', s', hgk, HCA, HY, HT, HG, HC⟩ := hrel
      have hb0 := HG.out.cell 0
      have hb1 := HG.out.cell 1
      have ht0 := HT.out.cell 0
      have ht1 := HT.out.cell 1
      have htf := HT.out.free
      simp at hb0 hb1 ht0 ht1
      by_cases heq : s' = s ∧ o' = o
      · have hd : (!beqB s' o' s o) = false := by rw [beqB_nat, decide_eq_true heq]; rfl
        obtain ⟨rfl, rfl⟩ := heq
        go_wp2_with fail
        go_returns
        exact ⟨rfl, HY.out.wider HOW2.out, HC.out⟩
      · have hd : (!beqB s' o' s o) = true := by rw [beqB_nat, decide_eq_false heq]; rfl
        have hlt := HCA.out.lt hs heq
        obtain ⟨k, hk⟩ : ∃ k, o' = k + 1 := ⟨o' - 1, by omega⟩
        have hok : o ≤ k := by omega
        have hkn : k + 1 ≤ n := by have := HCA.out.hi; omega
        have hle := HCA.out.le
        have hpn := pow_1024 hn
        have hp2 := pow_two k
        have hp3 := two_pos k
        rw [hk] at hle
        have HV : Hid (∀ w, Calls Try.prog 75 #[.agg #[.int .i64 (s' : Int), .int .i64 (o' : Int)]] w fun e w' => e = .returned (.tuple #[bkV (s', k), bkV (s' + 2 ^ k, k)]) ∧ Below w.heap.size w w') := fun w => by
          rw [hk]; exact halves_any s' k (by omega) (by omega) w
        obtain ⟨R, hR⟩ : ∃ R, R = s' + 2 ^ k := ⟨_, rfl⟩
        rw [← hR] at HV
        have CT : Hid (∀ w, Calls Try.prog 51 #[bkV (s', k), .int .i64 (s : Int)] w fun e w' => e = .returned (.bool (inI (s', k) (s : Int))) ∧ Below w.heap.size w w') := fun w => contains_any (s', k) (s : Int) (by dsimp only; omega) (by dsimp only; omega) w
        have hin : inI (s', k) (s : Int) = true ↔ inB k s' s := inI_nat (s', k) s
        have HKK := Lib.hid hk
        have HRR := Lib.hid hR
        have hca := HCA.out
        have hHS : s % 2 ^ o = 0 := hs
        rw [hk] at hca
        have HL : Hid (InsAt n (less op o' s') k R ∧ more (less op o' s') k R = less op k s') := by unfold Hid; rw [hk, hR]; exact half_left hkn hca.al hca.le hca.all
        have HRi : Hid (InsAt n (less op o' s') k s' ∧ more (less op o' s') k s' = less op k R) := by unfold Hid; rw [hk, hR]; exact half_right hkn hca.al hca.le hca.all
        have HCL : Hid (inB k s' s → CarveAt n op o s k s') := fun h => hca.left hs hok h
        have HCR : Hid (¬ inB k s' s → CarveAt n op o s k R) := fun h => by rw [hR]; exact hca.right hs hok h
        generalize inI (s', k) (s : Int) = f at *
        have HIN := Lib.hid hin
        clear hk hle hpn hp2 hp3 hR hca hin hlt heq hHS
        go_wp2_with fail
        refine (HV.out _).mono ?_; rintro e w4 ⟨rfl, b4⟩
        have HY4 := Lib.hid (HY.out.kept b4)
        have HT4 := Lib.hid (HT.out.kept b4)
        have HG4 := Lib.hid (HG.out.kept b4)
        have HC4 : Hid (Chg own w w4) := HC.out.trans (Chg.of_below b4)
        have hg4 := HG4.out.cell 0
        simp at hg4
        have hl1 : gB < w4.heap.size := HG4.out.lt
        have hal : ∀ C1 T1 C2 T2, Below w4.heap.size w4 ((w4.alloc (.cells C1 T1)).alloc (.cells C2 T2)) := fun C1 T1 C2 T2 => ((Below.refl _ _).alloc (Nat.le_refl _) _).alloc (by simp) _
        have hal0 : ∀ C1 T1 C2 T2, ((w4.alloc (.cells C1 T1)).alloc (.cells C2 T2)).cell? ⟨gB, 0, none⟩ = some (.int .i64 (s : Int)) := fun C1 T1 C2 T2 => cell_next (hal C1 T1 C2 T2) hg4
        have HAL := Lib.hid hal
        clear b4 hal hb0 hb1 ht0 ht1 htf
        obtain ⟨L, hL⟩ : ∃ L, L = w4.heap.size := ⟨_, rfl⟩
        obtain ⟨w5, hw5⟩ : ∃ w5, w5 = (w4.alloc (.cells #[.int .i64 (s' : Int), .int .i64 (k : Int)] 45)).alloc (.cells #[.int .i64 (R : Int), .int .i64 (k : Int)] 45) := ⟨_, rfl⟩
        have b5 : Below w4.heap.size w4 w5 := by rw [hw5]; exact HAL.out _ _ _ _
        have HL5 : Blk w5 L #[.int .i64 (s' : Int), .int .i64 (k : Int)] 45 := by rw [hw5, hL]; exact (Blk.new _ _ _).old _
        have HR5 : Blk w5 (L + 1) #[.int .i64 (R : Int), .int .i64 (k : Int)] 45 := by rw [hw5, hL]; exact Blk.fresh _ _ _ _ (by simp)
        have HY5 := Lib.hid (HY4.out.kept b5)
        have HT5 := Lib.hid (HT4.out.kept b5)
        have HG5 := Lib.hid (HG4.out.kept b5)
        have HC5 : Hid (Chg own w w5) := HC4.out.trans (Chg.of_below b5)
        have HT5l : Hid (gT < L) := by unfold Hid; rw [hL]; exact HT4.out.lt
        have l50 := HL5.cell 0
        have l51 := HL5.cell 1
        have r50 := HR5.cell 0
        have r51 := HR5.cell 1
        simp at l50 l51 r50 r51
        clear b5 HL5 HR5
        cases f with
        | true =>
          go_wp2_with fail
          rw [← hw5, ← hL]
          clear hw5 hL
          refine (CT.out _).mono ?_; rintro e w6 ⟨rfl, b6⟩
          have HY6 := Lib.hid (HY5.out.kept b6)
          have HT6 := Lib.hid (HT5.out.kept b6)
          have HG6 := Lib.hid (HG5.out.kept b6)
          have HC6 : Hid (Chg own w w6) := HC5.out.trans (Chg.of_below b6)
          have l0 := cell_next b6 l50
          have l1 := cell_next b6 l51
          have r0 := cell_next b6 r50
          have r1 := cell_next b6 r51
          have t0 := HT6.out.cell 0
          have t1 := HT6.out.cell 1
          have tf := HT6.out.free
          simp at t0 t1
          have hrT : gT ≠ L + 1 := by have := HT5l.out; omega
          have hY7 := (HY6.out.aside HoT2.out 0 (.int .i64 (s' : Int))).aside HoT2.out 1 (.int .i64 (k : Int))
          have hT7 := (HT6.out.set 0 (.int .i64 (s' : Int))).set 1 (.int .i64 (k : Int))
          have hG7 := (HG6.out.other (a := ⟨gT, 0, none⟩) hwT (.int .i64 (s' : Int))).other (a := ⟨gT, 1, none⟩) hwT (.int .i64 (k : Int))
          have hC7 := (HC6.out.trans (Chg.setCell 0 (.int .i64 (s' : Int)) HoT1.out)).trans (Chg.setCell 1 (.int .i64 (k : Int)) HoT1.out)
          have r70 : ((w6.setCell ⟨gT, 0, none⟩ (.int .i64 (s' : Int))).setCell ⟨gT, 1, none⟩ (.int .i64 (k : Int))).cell? ⟨L + 1, 0, none⟩ = some (.int .i64 (R : Int)) := by
            rw [World.cell?_setCell_far _ _ _ _ hrT, World.cell?_setCell_far _ _ _ _ hrT]; exact r0
          have r71 : ((w6.setCell ⟨gT, 0, none⟩ (.int .i64 (s' : Int))).setCell ⟨gT, 1, none⟩ (.int .i64 (k : Int))).cell? ⟨L + 1, 1, none⟩ = some (.int .i64 (k : Int)) := by
            rw [World.cell?_setCell_far _ _ _ _ hrT, World.cell?_setCell_far _ _ _ _ hrT]; exact r1
          have hlT : gT ≠ L := by have := HT5l.out; omega
          have l70 : ((w6.setCell ⟨gT, 0, none⟩ (.int .i64 (s' : Int))).setCell ⟨gT, 1, none⟩ (.int .i64 (k : Int))).cell? ⟨L, 0, none⟩ = some (.int .i64 (s' : Int)) := by
            rw [World.cell?_setCell_far _ _ _ _ hlT, World.cell?_setCell_far _ _ _ _ hlT]; exact l0
          have l71 : ((w6.setCell ⟨gT, 0, none⟩ (.int .i64 (s' : Int))).setCell ⟨gT, 1, none⟩ (.int .i64 (k : Int))).cell? ⟨L, 1, none⟩ = some (.int .i64 (k : Int)) := by
            rw [World.cell?_setCell_far _ _ _ _ hlT, World.cell?_setCell_far _ _ _ _ hlT]; exact l1
          have IN := Lib.hid (insert_any y own2 n (less op o' s') tk fl k R _ HL.out.1 hY7)
          have HT7 := Lib.hid hT7
          have HG7 := Lib.hid hG7
          have HC7 := Lib.hid hC7
          clear hY7 hT7 hG7 hC7 l50 l51 r50 r51 b6
          go_wp2_with fail
          refine IN.out.mono ?_; rintro e w8 ⟨rfl, hY8, hC8⟩
          have HY8 := Lib.hid hY8
          have HC8 := Lib.hid hC8
          clear hY8 hC8 t0 t1 tf l70 l71 r70 r71 r0 r1 l0 l1
          go_wp2_with fail
          go_roundg (gk - 1)
          case measure => have := HKK.out; omega
          case rel =>
            refine ⟨k, s', by have := HKK.out; omega, HCL.out (HIN.out.1 trivial), ?_, ?_, ?_, ?_⟩
            · have := HY8.out; rw [HL.out.2] at this; exact this
            · have := HT7.out.chg HC8.out HoT2.out
              unfold Hid; simpa using this
            · exact HG7.out.chg HC8.out HoB2.out
            · exact HC7.out.trans (HC8.out.weak HOW2.out)
        | false =>
          go_wp2_with fail
          rw [← hw5, ← hL]
          clear hw5 hL
          refine (CT.out _).mono ?_; rintro e w6 ⟨rfl, b6⟩
          have HY6 := Lib.hid (HY5.out.kept b6)
          have HT6 := Lib.hid (HT5.out.kept b6)
          have HG6 := Lib.hid (HG5.out.kept b6)
          have HC6 : Hid (Chg own w w6) := HC5.out.trans (Chg.of_below b6)
          have l0 := cell_next b6 l50
          have l1 := cell_next b6 l51
          have r0 := cell_next b6 r50
          have r1 := cell_next b6 r51
          have t0 := HT6.out.cell 0
          have t1 := HT6.out.cell 1
          have tf := HT6.out.free
          simp at t0 t1
          have hrT : gT ≠ L + 1 := by have := HT5l.out; omega
          have hY7 := (HY6.out.aside HoT2.out 0 (.int .i64 (R : Int))).aside HoT2.out 1 (.int .i64 (k : Int))
          have hT7 := (HT6.out.set 0 (.int .i64 (R : Int))).set 1 (.int .i64 (k : Int))
          have hG7 := (HG6.out.other (a := ⟨gT, 0, none⟩) hwT (.int .i64 (R : Int))).other (a := ⟨gT, 1, none⟩) hwT (.int .i64 (k : Int))
          have hC7 := (HC6.out.trans (Chg.setCell 0 (.int .i64 (R : Int)) HoT1.out)).trans (Chg.setCell 1 (.int .i64 (k : Int)) HoT1.out)
          have r70 : ((w6.setCell ⟨gT, 0, none⟩ (.int .i64 (R : Int))).setCell ⟨gT, 1, none⟩ (.int .i64 (k : Int))).cell? ⟨L + 1, 0, none⟩ = some (.int .i64 (R : Int)) := by
            rw [World.cell?_setCell_far _ _ _ _ hrT, World.cell?_setCell_far _ _ _ _ hrT]; exact r0
          have r71 : ((w6.setCell ⟨gT, 0, none⟩ (.int .i64 (R : Int))).setCell ⟨gT, 1, none⟩ (.int .i64 (k : Int))).cell? ⟨L + 1, 1, none⟩ = some (.int .i64 (k : Int)) := by
            rw [World.cell?_setCell_far _ _ _ _ hrT, World.cell?_setCell_far _ _ _ _ hrT]; exact r1
          have hlT : gT ≠ L := by have := HT5l.out; omega
          have l70 : ((w6.setCell ⟨gT, 0, none⟩ (.int .i64 (R : Int))).setCell ⟨gT, 1, none⟩ (.int .i64 (k : Int))).cell? ⟨L, 0, none⟩ = some (.int .i64 (s' : Int)) := by
            rw [World.cell?_setCell_far _ _ _ _ hlT, World.cell?_setCell_far _ _ _ _ hlT]; exact l0
          have l71 : ((w6.setCell ⟨gT, 0, none⟩ (.int .i64 (R : Int))).setCell ⟨gT, 1, none⟩ (.int .i64 (k : Int))).cell? ⟨L, 1, none⟩ = some (.int .i64 (k : Int)) := by
            rw [World.cell?_setCell_far _ _ _ _ hlT, World.cell?_setCell_far _ _ _ _ hlT]; exact l1
          have IN := Lib.hid (insert_any y own2 n (less op o' s') tk fl k s' _ HRi.out.1 hY7)
          have HT7 := Lib.hid hT7
          have HG7 := Lib.hid hG7
          have HC7 := Lib.hid hC7
          clear hY7 hT7 hG7 hC7 l50 l51 r50 r51 b6
          go_wp2_with fail
          refine IN.out.mono ?_; rintro e w8 ⟨rfl, hY8, hC8⟩
          have HY8 := Lib.hid hY8
          have HC8 := Lib.hid hC8
          clear hY8 hC8 t0 t1 tf l70 l71 r70 r71 r0 r1 l0 l1
          go_wp2_with fail
          go_roundg (gk - 1)
          case measure => have := HKK.out; omega
          case rel =>
            refine ⟨k, R, by have := HKK.out; omega, HCR.out (fun h => by have := HIN.out.2 h; cases this), ?_, ?_, ?_, ?_⟩
            · have := HY8.out; rw [HRi.out.2] at this; exact this
            · have := HT7.out.chg HC8.out HoT2.out
              unfold Hid; simpa using this
            · exact HG7.out.chg HC8.out HoB2.out
            · exact HC7.out.trans (HC8.out.weak HOW2.out)
  · exact absurd ha h3
end Go.Proofs.Ytcdlfhheolbhaaa
