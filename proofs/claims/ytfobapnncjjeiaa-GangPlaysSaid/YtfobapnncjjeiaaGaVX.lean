/-
  Matrix.closeUp.
  Matrix.closeUp, walked.
-/
import Derived.Test.YtfobapnncjjeiaaGaO
import Derived.Test.YtfobapnncjjeiaaGaU
import Derived.Test.YtfobapnncjjeiaaGaJ
import Derived.Deep.WholeRow
import Derived.Laws.CopyRow
import Derived.StillTailTactics
namespace Go.Proofs.Ytfobapnncjjeiaa
set_option linter.unusedVariables false

section
open Go Go.RowKit Go.Lib
def nC (f : Nat → Nat) : Array Value := Array.ofFn (n := 16) fun i => .int .i64 ((f i : Nat) : Int)
theorem nC_size (f : Nat → Nat) : (nC f).size = 16 := by simp [nC]
theorem nC_get (f : Nat → Nat) {i : Nat} (h : i < 16) : (nC f)[i]? = some (.int .i64 ((f i : Nat) : Int)) := by
  unfold nC; rw [Array.getElem?_ofFn, dif_pos h]
theorem nC_set (f : Nat → Nat) {r : Nat} (x : Nat) (hr : r < 16) : (nC f).setIfInBounds r (.int .i64 (x : Int)) = nC (fun i => if i = r then x else f i) := by
  apply Array.ext_getElem?
  intro i
  by_cases hi : i < 16
  · rw [nC_get _ hi]
    by_cases e : i = r
    · subst e
      rw [Array.getElem?_setIfInBounds_self_of_lt (by rw [nC_size]; exact hi), if_pos rfl]
    · rw [Array.getElem?_setIfInBounds_ne (fun h => e h.symm), nC_get _ hi, if_neg e]
  · rw [Array.getElem?_eq_none (by simp [nC_size]; omega), Array.getElem?_eq_none (by rw [nC_size]; omega)]
theorem nC_zero : nC (fun _ => 0) = #[.int .i64 0, .int .i64 0, .int .i64 0, .int .i64 0, .int .i64 0, .int .i64 0, .int .i64 0, .int .i64 0, .int .i64 0, .int .i64 0, .int .i64 0, .int .i64 0, .int .i64 0, .int .i64 0, .int .i64 0, .int .i64 0] := rfl
theorem nC_congr {f g : Nat → Nat} (h : ∀ i, i < 16 → f i = g i) : nC f = nC g := by
  unfold nC; congr 1; funext i; rw [h i i.2]
/-- Another block that has been made lies beside the matrix. -/
theorem GI.minus {w w' : World} {m n a g : Nat} {own : Nat → Prop} {v : Value} {W : Nat → Nat} {l : List Ce} (h : GI w m own n a v W l) (hb : Below w.heap.size w w') (h1 : w.heap.size ≤ g) (h2 : g < w'.heap.size) : GI w' m (fun k => own k ∧ k ≠ g) n a v W l := by
  have q := h.kept hb
  refine ⟨q.gb, q.row, ⟨h.bown, by have := h.gb.lt; omega⟩, fun k hk => ⟨h.new k (Nat.le_trans hb.size hk), by omega⟩, fun k hk => ⟨⟨(h.ob k hk).1, by have := (h.row.lt k hk).2; omega⟩, (h.ob k hk).2⟩⟩
theorem GN.minus {w w' : World} {m n a g : Nat} {own : Nat → Prop} {l : List Ce} (h : GN w m own n a l) (hb : Below w.heap.size w w') (h1 : w.heap.size ≤ g) (h2 : g < w'.heap.size) : GN w' m (fun k => own k ∧ k ≠ g) n a l := by
  obtain ⟨v, W, q1, q2⟩ := h; exact ⟨v, W, q1.minus hb h1 h2, q2⟩
def zeroW : Array Value := Array.ofFn (n := 256) fun _ => .int .u64 0
theorem zeroW_info : (Try.prog.info? 63).map (fun i => (i.zero, i.size)) = some (some (.agg zeroW), 256) := by kernel_rfl
theorem zeroW_val (w : World) : (zeroValue 63).run Try.prog w = .ok (.agg zeroW) w := (zero_of_info zeroW_info).1 w
theorem zeroW_size : zeroW.size = 256 := by simp [zeroW]
/-- All words are written over with nought. -/
theorem clear_words {w : World} {m n a : Nat} {v : Value} {W : Nat → Nat} (h : GB w m n a v W) :
    ∃ w', (storeCells ⟨m, 3, none⟩ zeroW.toList 0).run Try.prog w = .ok () w' ∧ GB w' m n a v (fun _ => 0) ∧ Chg (One m) w w' := by
  have hb := h.blk
  have hsz := gCells_size n a v W
  have h1 : ∀ u ∈ zeroW.toList, u.oneCell' = true := fun u hu => by
    unfold zeroW at hu
    rw [Array.toList_ofFn, List.mem_ofFn] at hu
    obtain ⟨i, rfl⟩ := hu
    rfl
  have hl : zeroW.toList.length = 256 := by rw [Array.length_toList, zeroW_size]
  refine ⟨_, run_storeCells_at _ m 3 65 zeroW.toList 0 (gCells n a v W) w hb (by rw [hl, hsz]; omega) h1, ⟨?_⟩, ?_⟩
  · have e : ((gCells n a v W).toList.take (3 + 0) ++ zeroW.toList ++ (gCells n a v W).toList.drop (3 + 0 + zeroW.toList.length)).toArray = gCells n a v (fun _ => 0) := by
      apply Array.ext_getElem?
      intro i
      rw [hl, List.getElem?_toArray]
      rw [List.drop_eq_nil_of_le (by rw [Array.length_toList, hsz]; omega), List.append_nil]
      have ht : ((gCells n a v W).toList.take (3 + 0)).length = 3 := by rw [List.length_take, Array.length_toList, hsz]; omega
      by_cases h3 : i < 3
      · rw [List.getElem?_append_left (by omega), List.getElem?_take, if_pos (by omega), Array.getElem?_toList, gCells_get _ _ _ _ (by omega), gCells_get _ _ _ _ (by omega)]
        unfold gField
        rcases (by omega : i = 0 ∨ i = 1 ∨ i = 2) with rfl | rfl | rfl <;> rfl
      · rw [List.getElem?_append_right (by omega), ht, Array.getElem?_toList]
        by_cases h9 : i < 259
        · rw [gCells_get _ _ _ _ h9]
          unfold zeroW gField
          rw [Array.getElem?_ofFn, dif_pos (by omega), if_neg (by omega), if_neg (by omega), if_neg (by omega)]
          rfl
        · rw [Array.getElem?_eq_none (by rw [zeroW_size]; omega), Array.getElem?_eq_none (by rw [gCells_size]; omega)]
    rw [e]
    exact setRow_heap w m _ _ _ _ hb
  · refine ⟨rfl, rfl, rfl, ?_, fun k hk hn => ?_⟩
    · simp [World.setRow]
    · simp only [World.setRow]
      rw [Array.getElem?_modify, if_neg (fun e => hn e.symm)]
def unifyA (l : List Ce) (a : Nat) : Nat := if hasR l a then num l a else 0
theorem unifyA_act {n : Nat} {l : List Ce} (h : OkG n l) (a : Nat) : unifyA l a < rowsG (closeG l) ∨ unifyA l a = 0 := by
  unfold unifyA
  split
  · rename_i hr
    obtain ⟨c, hc, e⟩ := hasR_iff.1 hr
    left
    have := rowsG_lt (closeG_ok h).srt (List.mem_map_of_mem (f := closeC l) hc)
    have e2 : (closeC l c).row = num l a := by rw [← e]; rfl
    omega
  · exact .inr rfl
end

section
open Go Go.RowKit Go.Lib
theorem chg_drew {o : Nat → Prop} {a b : World} (h : Chg o a b ∨ Chg o a.drew b) : Chg o a b := by
  rcases h with h | h
  · exact h
  · exact ⟨h.os, h.tape, h.output, h.size, h.block⟩
theorem closeRound {m n A gN k : Nat} {own ow os oc : Nat → Prop} {l : List Ce} {v : Value} {f : Nat → Nat} {w1 Xc w9 : World} (h1 : ∀ k, oc k → os k) (h2 : ∀ k, os k → ow k) (h3 : ∀ k, ow k → own k) (h4 : ¬ ow gN) (h5 : ∀ k, v.ownBlock = some k → ¬ os k)
    (hb : Blk Xc gN (nC f) 91) (hr : COwn Xc 0 v l) (hc : Chg own w1 Xc) (k1 : GN w9 m oc n A ((l.take (k + 1)).map (closeC l))) (k2 : Chg oc Xc w9) :
    GN w9 m os n A ((l.take (k + 1)).map (closeC l)) ∧ Blk w9 gN (nC f) 91 ∧ COwn w9 0 v l ∧ Chg own w1 w9 :=
  ⟨k1.wider h1, hb.chgC k2 (fun h => h4 (h2 _ (h1 _ h))), own_chg hr k2 (fun k hk h => h5 k hk (h1 _ h)), hc.trans (k2.weak fun k hk => h3 k (h2 k (h1 k hk)))⟩
set_option maxRecDepth 100000 in
set_option maxHeartbeats 8000000 in
theorem closeUp_any (m n a : Nat) (own : Nat → Prop) (l : List Ce) (w : World) (h : GN w m own n a l) (ha : a < 16) :
    Calls Try.prog 44 #[.pointer (some ⟨m, 0, none⟩)] w fun e w' => e = .returned (.tuple #[]) ∧ GM w' m own n (unifyA l a) (closeG l) ∧ Chg own w w' := by
  have HOK := Lib.hid h.ok
  have hlen := h.ok.len
  have HL0 := Lib.hid h
  obtain ⟨v, W0, hI, hW, hO⟩ := h
  have c2 := hI.gb.c2
  have c1 := hI.gb.c1
  have hm := hI.gb.lt
  have HROW := Lib.hid hI.row
  have HVB : Hid (∀ g, v.ownBlock = some g → own g ∧ g ≠ m ∧ g < w.heap.size) := fun g hg => ⟨(hI.ob g hg).1, (hI.ob g hg).2, (hI.row.lt g hg).2⟩
  obtain ⟨va, vc, rfl⟩ := own_slice hI.row
  obtain ⟨LL, hLL⟩ : ∃ n, n = l.length := ⟨_, rfl⟩
  rw [← hLL] at c2 hlen
  have HLL := Lib.hid hLL
  obtain ⟨gN, hgN⟩ : ∃ g, g = w.heap.size := ⟨_, rfl⟩
  have HNW : Hid (gN = w.heap.size) := hgN
  have hz := nC_zero
  clear hI hW hO hLL hgN
  go_enter Try.func44, Try.ntmps44
  go_upto_region 0 with fail
  go_cut [2, 3, 4] (fun x y z wx => x = .slice va LL vc ∧ y = .int .i64 (a : Nat) ∧ z = .pointer (some ⟨gN, 0, none⟩) ∧ Hid (Blk wx gN (nC (fun _ => 0)) 91) ∧ Hid (Below w.heap.size w wx))
  case first =>
    clear hz
    go_region
    all_goals (go_wp2_with fail)
    all_goals go_meet
    exact ⟨rfl, rfl, by rw [HNW.out], by rw [HNW.out]; exact Blk.drew (Blk.new _ _ _), ((Below.refl _ _).alloc (Nat.le_refl _) _).drew⟩
  case rest =>
    obtain ⟨rfl, rfl, rfl, HNB, HBW⟩ := hcut
    obtain ⟨w1, hw1⟩ : ∃ x, x = wc := ⟨_, rfl⟩
    subst hw1
    obtain ⟨ow, how⟩ : ∃ ow : Nat → Prop, ow = fun k => own k ∧ k ≠ gN := ⟨_, rfl⟩
    have HOW : Hid (∀ k, ow k → own k) := fun k hk => by rw [how] at hk; exact hk.1
    have HNN : Hid (¬ ow gN) := by unfold Hid; rw [how]; exact fun h => h.2 rfl
    have HNO : Hid (own gN) := HL0.out.new _ (Nat.le_of_eq HNW.out.symm)
    have HG1 : Hid (GN w1 m ow n a l) := by unfold Hid; rw [how]; exact HL0.out.minus HBW.out (Nat.le_of_eq HNW.out.symm) HNB.out.lt
    have HVO : Hid (∀ g, (Value.slice va LL vc).ownBlock = some g → own g ∧ g ≠ gN ∧ g ≠ m) := fun g hg => by
      have hg' : (Value.slice va l.length vc).ownBlock = some g := by rw [← HLL.out]; exact hg
      exact ⟨(HVB.out g hg').1, by have := (HVB.out g hg').2.2; have := HNW.out; omega, (HVB.out g hg').2.1⟩
    have HROW1 : Hid (COwn w1 0 (.slice va LL vc) l) := by unfold Hid; rw [HLL.out]; exact own_older HROW.out HBW.out
    have HBW0 := Lib.hid HBW.out
    clear how c2 c1 hm hz HVB
    go_upto_region 3 with fail
    go_loopw [18, 5] (fun iv nv wr => ∃ r : Nat, r ≤ 16 ∧ iv = .int .i64 r ∧ nv = .int .i64 (num l r : Nat) ∧ Hid (∃ f, (∀ i, i < r → f i = num l i) ∧ Blk wr gN (nC f) 91) ∧ Hid (Chg (One gN) w1 wr)) (fun iv _ _ => 16 - (RowKit.intOf iv).toNat)
    case atStart => exact ⟨0, Nat.zero_le _, rfl, rfl, ⟨_, fun i h => absurd h (Nat.not_lt_zero _), HNB.out⟩, Chg.refl _ _⟩
    case round =>
      obtain ⟨r, hr, rfl, rfl, HF, HC⟩ := hrel
      have HGr : Hid (GN wr m ow n a l) := HG1.out.far HC.out (fun k hk _ e => HNN.out (e ▸ hk))
      by_cases hlt : r < 16
      · have d1 : decide ((r : Int) < 16) = true := decide_eq_true (by omega)
        have d1' : decide (r < 16) = true := decide_eq_true hlt
        have hri : (r : Int) < 16 := by omega
        obtain ⟨f, hf, hfb⟩ := HF.out
        obtain ⟨w2, hw2⟩ : ∃ x, x = wr.setCell ⟨gN, r, none⟩ (.int .i64 (num l r : Nat)) := ⟨_, rfl⟩
        have HF2 : Hid (∃ f, (∀ i, i < r + 1 → f i = num l i) ∧ Blk w2 gN (nC f) 91) := by
          refine ⟨fun i => if i = r then num l r else f i, fun i hi => ?_, ?_⟩
          · by_cases e : i = r
            · subst e; simp
            · simp only [if_neg e]; exact hf i (by omega)
          · rw [hw2, ← nC_set f (num l r) hlt]; exact hfb.set r _
        have HC2 : Hid (Chg (One gN) w1 w2) := by unfold Hid; rw [hw2]; exact HC.out.trans (Chg.setCell _ _ rfl)
        have x0 := hfb.cell r
        rw [nC_get _ hlt] at x0
        have f0 := hfb.free r
        have HG2 : Hid (GN w2 m ow n a l) := HG1.out.far HC2.out (fun k hk _ e => HNN.out (e ▸ hk))
        have HH := Lib.hid (hasCells_any m n a r ow l w2 HG2.out hlt)
        have hnum := num_le l r
        have HNM : Hid (num l (r + 1) = num l r + if hasR l r then 1 else 0) := rfl
        obtain ⟨N, hN⟩ : ∃ N, N = num l r := ⟨_, rfl⟩
        rw [← hN] at hw2 hnum HNM ⊢
        clear hf hfb HF HC HGr hN HG2
        go_upto_region 6 with fail
        rw [← hw2]
        clear hw2 x0 f0
        go_wp2_with fail
        refine HH.out.mono ?_; rintro e w3 ⟨f2, rfl, hf2, b3⟩
        have HF3 : Hid (∃ f, (∀ i, i < r + 1 → f i = num l i) ∧ Blk w3 gN (nC f) 91) := by
          obtain ⟨f, q1, q2⟩ := HF2.out
          exact ⟨f, q1, q2.kept b3⟩
        have HC3 := Lib.hid (HC2.out.trans (Chg.of_below b3))
        have HIF := Lib.hid hf2
        clear b3 hf2 HH
        cases f2 with
        | true =>
          have HNX : Hid (num l (r + 1) = N + 1) := by
            have : hasR l r = true := hasR_iff.2 (HIF.out.1 rfl)
            unfold Hid; rw [HNM.out, this]; rfl
          go_wp2_with fail
          go_roundw
          case rel => exact ⟨r + 1, hlt, by go_num, by (rw [HNX.out]; go_num), HF3, HC3⟩
          case measure => simp [RowKit.intOf]; omega
        | false =>
          have HNX : Hid (num l (r + 1) = N) := by
            have : hasR l r = false := by
              cases h : hasR l r with
              | false => rfl
              | true => have := HIF.out.2 (hasR_iff.1 h); cases this
            unfold Hid; rw [HNM.out, this]; rfl
          go_wp2_with fail
          go_roundw
          case rel => exact ⟨r + 1, hlt, by go_num, by rw [HNX.out], HF3, HC3⟩
          case measure => simp [RowKit.intOf]; omega
      · have d1 : decide ((r : Int) < 16) = false := decide_eq_false (by omega)
        have d1' : decide (r < 16) = false := decide_eq_false hlt
        obtain rfl : r = 16 := by omega
        have HNB2 : Hid (Blk wr gN (nC (num l)) 91) := by
          obtain ⟨f, q1, q2⟩ := HF.out
          unfold Hid; rw [nC_congr (fun i hi => (q1 i hi).symm)]; exact q2
        clear HF hlt hr
        have HG2 : Hid (GN wr m ow n a l) := HG1.out.far HC.out (fun k hk _ e => HNN.out (e ▸ hk))
        obtain ⟨vX, WX, hIX, hWX, _⟩ := HG2.out
        have y1 := hIX.gb.c1
        have z1 := hIX.gb.frozen 1
        obtain ⟨w4, hw4⟩ : ∃ x, x = wr.setCell ⟨m, 1, none⟩ (.int .i64 0) := ⟨_, rfl⟩
        have HG4 : Hid (GN w4 m ow n 0 l) := by
          unfold Hid; rw [hw4]
          exact ⟨vX, WX, hIX.box (Chg.setCell _ _ rfl) (hIX.gb.setA 0), hWX, HOK.out⟩
        have hne : gN ≠ m := fun e => HNN.out (e ▸ hIX.bown)
        have HNE : Hid (gN ≠ m) := hne
        have HNB4 : Hid (Blk w4 gN (nC (num l)) 91) := by unfold Hid; rw [hw4]; exact HNB2.out.other hne _
        have HC4 : Hid (Chg own w1 w4) := by
          unfold Hid; rw [hw4]
          exact (HC.out.weak fun k e => by rw [e]; exact HNO.out).trans (Chg.setCell _ _ (HOW.out _ hIX.bown))
        have HV4 : Hid (∀ k, (Value.slice va LL vc).ownBlock = some k → k ≠ gN ∧ k ≠ m) := fun k hk => ⟨(HVO.out k hk).2.1, (HVO.out k hk).2.2⟩
        have HROW4 : Hid (COwn w4 0 (.slice va LL vc) l) := by
          unfold Hid; rw [hw4]
          exact ownsRow_setCell_other (own_one HROW1.out HC.out (fun e => (HV4.out gN e).1 rfl)) (fun e => (HV4.out m e).2 rfl) _
        have HH := Lib.hid (hasCells_any m n 0 a ow l w4 HG4.out ha)
        have hai : (a : Int) < 16 := by omega
        clear HG2 hIX hWX HNB2 HC hne HG1 HROW1 HNB HBW
        go_upto_region 10 with fail
        rw [← hw4]
        clear hw4 y1 z1
        go_wp2_with fail
        refine HH.out.mono ?_; rintro e w5 ⟨f2, rfl, hf2, b5⟩
        have HG5 := Lib.hid (HG4.out.kept b5)
        have HNB5 := Lib.hid (HNB4.out.kept b5)
        have HC5 := Lib.hid (HC4.out.trans (Chg.of_below b5))
        have HROW5 := Lib.hid (own_older HROW4.out b5)
        have HIF := Lib.hid hf2
        clear HH HG4 HNB4 HC4 HROW4 b5 hf2
        go_upto_if 35 with fail
        go_cut [3] (fun av wx => av = .int .i64 (a : Nat) ∧ Hid (GN wx m ow n (unifyA l a) l) ∧ Hid (Blk wx gN (nC (num l)) 91) ∧ Hid (Chg own w1 wx) ∧ Hid (COwn wx 0 (.slice va LL vc) l))
        case first =>
          cases f2 with
          | true =>
            have HU : Hid (unifyA l a = num l a) := by unfold Hid unifyA; rw [if_pos (hasR_iff.2 (HIF.out.1 rfl))]
            obtain ⟨vX, WX, hIX, hWX, _⟩ := HG5.out
            have y1 := hIX.gb.c1
            have z1 := hIX.gb.frozen 1
            have x0 := HNB5.out.cell a
            rw [nC_get _ ha] at x0
            have HX : Hid (GN (w5.setCell ⟨m, 1, none⟩ (.int .i64 (num l a : Nat))) m ow n (num l a) l ∧ Chg ow w5 (w5.setCell ⟨m, 1, none⟩ (.int .i64 (num l a : Nat)))) :=
              ⟨⟨vX, WX, hIX.box (Chg.setCell _ _ rfl) (hIX.gb.setA _), hWX, HOK.out⟩, Chg.setCell _ _ hIX.bown⟩
            clear hIX hWX
            go_wp2_with fail
            go_meet
            exact ⟨rfl, by rw [HU.out]; exact HX.out.1, HNB5.out.other HNE.out _, HC5.out.trans (HX.out.2.weak HOW.out), ownsRow_setCell_other HROW5.out (fun e => (HV4.out m e).2 rfl) _⟩
          | false =>
            have HU : Hid (unifyA l a = 0) := by
              unfold Hid unifyA
              rw [if_neg]
              intro h
              have := HIF.out.2 (hasR_iff.1 h)
              cases this
            go_wp2_with fail
            go_meet
            exact ⟨rfl, by rw [HU.out]; exact HG5.out, HNB5.out, HC5.out, HROW5.out⟩
        case rest =>
          obtain ⟨rfl, HG6, HNB6, HC6, HROW6⟩ := hcut
          obtain ⟨w6, hw6⟩ : ∃ x, x = wc := ⟨_, rfl⟩
          subst hw6
          obtain ⟨A, hA⟩ : ∃ A, A = unifyA l a := ⟨_, rfl⟩
          rw [← hA] at HG6
          have HA := Lib.hid hA
          obtain ⟨vX, WX, hIX, hWX, _⟩ := HG6.out
          have y2 := hIX.gb.c2
          have z2 := hIX.gb.frozen 2
          obtain ⟨w7, hw7⟩ : ∃ x, x = w6.setCell ⟨m, 2, none⟩ (.slice none 0 0) := ⟨_, rfl⟩
          have hgb7 : GB w7 m n A (.slice none 0 0) WX := by rw [hw7]; exact hIX.gb.setV _
          obtain ⟨w8, hst, hgb8, hc8⟩ := clear_words hgb7
          have hc68 : Chg (One m) w6 w8 := (by rw [hw7] at hc8; exact (Chg.setCell (own := One m) 2 _ rfl).trans hc8)
          obtain ⟨os, hos⟩ : ∃ os : Nat → Prop, os = fun k => ow k ∧ (Value.slice va LL vc).ownBlock ≠ some k := ⟨_, rfl⟩
          have HOS : Hid (∀ k, os k → ow k) := fun k hk => by rw [hos] at hk; exact hk.1
          have HVS : Hid (∀ k, (Value.slice va LL vc).ownBlock = some k → ¬ os k) := fun k hk h => by rw [hos] at h; exact h.2 hk
          have HG8 : Hid (GN w8 m os n A []) := by
            refine ⟨.slice none 0 0, fun _ => 0, ⟨hgb8, ⟨rfl, .inl ⟨rfl, rfl⟩⟩, ?_, fun k hk => ?_, fun g hg => by cases hg⟩, fun r _ => Words.none.congr fun x => ?_, OkG.nil HOK.out.n10⟩
            · rw [hos]; exact ⟨hIX.bown, fun e => (HV4.out m e).2 rfl⟩
            · rw [hos]
              have hk6 : w6.heap.size ≤ k := Nat.le_trans hc68.size hk
              exact ⟨hIX.new k hk6, fun e => by have := (HROW6.out.lt k e).2; omega⟩
            · constructor
              · exact False.elim
              · rintro ⟨c, hc, _⟩; cases hc
          have HNB8 : Hid (Blk w8 gN (nC (num l)) 91) := HNB6.out.chgC hc68 (fun e => HNE.out e)
          have HROW8 : Hid (COwn w8 0 (.slice va LL vc) l) := own_one HROW6.out hc68 (fun e => (HV4.out m e).2 rfl)
          have HC8 : Hid (Chg own w1 w8) := HC6.out.trans (hc68.weak fun k e => by rw [e]; exact HOW.out _ hIX.bown)
          have hzv := zeroW_val
          have hzs := zeroW_size
          generalize zeroW = Z at *
          have hZ0 : ¬ Z = #[] := by intro e; rw [e] at hzs; simp at hzs
          have hmw := hIX.gb.lt
          rw [hw7] at hst
          clear hIX hWX hgb7 hgb8 hc8 hc68 HG6 HNB6 HC6 HROW6 hos hA hw7
          go_upto_region 13 with fail
          clear hst hzv hzs hZ0 y2 z2 hmw
          go_wp2_with fail
          go_loopw [51] (fun iv wr => ∃ k : Nat, k ≤ LL ∧ iv = .int .i64 k ∧ Hid (GN wr m os n A ((l.take k).map (closeC l))) ∧ Hid (Blk wr gN (nC (num l)) 91) ∧ Hid (COwn wr 0 (.slice va LL vc) l) ∧ Hid (Chg own w1 wr)) (fun iv _ => LL - (RowKit.intOf iv).toNat)
          case atStart => exact ⟨0, Nat.zero_le _, rfl, by unfold Hid; simpa using HG8.out, HNB8.out, HROW8.out, HC8.out⟩
          case round =>
            obtain ⟨k, hk, rfl, HG, HB, HR, HC⟩ := hrel
            by_cases hlt : k < LL
            · have hd : decide (k < LL) = true := decide_eq_true hlt
              have hkl : k < l.length := by rw [← HLL.out]; exact hlt
              have hki : (k : Int) < (LL : Int) := by omega
              have hcr := crow_of_own HR.out
              cases va with
              | none => have := CRow.nil hcr; rw [this] at hkl; simp at hkl
              | some AD =>
              obtain ⟨bb, off, rfl⟩ := CRow.addr hcr (by omega)
              obtain ⟨x0, x1, x2, x3⟩ := hcr.cells hkl (Below.refl _ _)
              obtain ⟨q1, q2, q3, q4⟩ := close_step HOK.out hkl
              have hce := HOK.out.ce l[k] (List.getElem_mem hkl)
              obtain ⟨c, hc⟩ : ∃ c, c = l[k] := ⟨_, rfl⟩
              rw [← hc] at x0 x1 x2 x3 q1 q2 q3 q4 hce
              obtain ⟨id, r, s, o⟩ := c
              dsimp only at x0 x1 x2 x3
              have hr16 : r < 16 := hce.row
              have hri : (r : Int) < 16 := by omega
              obtain ⟨gc, hgc⟩ : ∃ g, g = wr.heap.size := ⟨_, rfl⟩
              obtain ⟨Xc, hXc⟩ : ∃ x, x = wr.alloc (.cells #[.int .u32 (id : Nat), .int .i64 (r : Nat), .int .i64 (s : Nat), .int .i64 (o : Nat)] 48) := ⟨_, rfl⟩
              have hbc : Below wr.heap.size wr Xc := by rw [hXc]; exact (Below.refl _ _).alloc (Nat.le_refl _) _
              have HCB : Hid (Blk Xc gc #[.int .u32 (id : Nat), .int .i64 (r : Nat), .int .i64 (s : Nat), .int .i64 (o : Nat)] 48) := by unfold Hid; rw [hXc, hgc]; exact Blk.new wr _ _
              obtain ⟨oc, hoc⟩ : ∃ oc : Nat → Prop, oc = fun k => os k ∧ k ≠ gc := ⟨_, rfl⟩
              have HOC : Hid (∀ k, oc k → os k) := fun k hk => by rw [hoc] at hk; exact hk.1
              have HGc : Hid (GN Xc m oc n A ((l.take k).map (closeC l))) := by unfold Hid; rw [hXc, hoc, hgc]; exact HG.out.boxed _
              have HBc : Hid (Blk Xc gN (nC (num l)) 91) := HB.out.kept hbc
              have HRc : Hid (COwn Xc 0 (.slice (some ⟨bb, off, none⟩) LL vc) l) := own_older HR.out hbc
              have HCc : Hid (Chg own w1 Xc) := HC.out.trans (Chg.of_below hbc)
              have AD : Hid (∀ w', Below Xc.heap.size Xc w' → Calls Try.prog 43 #[.pointer (some ⟨m, 0, none⟩), .agg #[.int .u32 (id : Nat), .int .i64 (num l r : Nat), .int .i64 (s : Nat), .int .i64 (o : Nat)]] w' fun e w'' => e = .returned (.tuple #[]) ∧ GN w'' m oc n A ((l.take (k + 1)).map (closeC l)) ∧ Chg oc w' w'') := fun w' hb => by
                have := gadd_any m n A oc _ _ w' (HGc.out.kept hb) q1 q2 q3
                rw [q4] at this
                exact this
              have b0 := HCB.out.cell 0
              have b1 := HCB.out.cell 1
              have b2 := HCB.out.cell 2
              have b3 := HCB.out.cell 3
              simp at b0 b1 b2 b3
              have nr := HBc.out.cell r
              rw [nC_get _ hr16] at nr
              obtain ⟨N, hN⟩ : ∃ N, N = num l r := ⟨_, rfl⟩
              rw [← hN] at nr AD
              obtain ⟨D, hD⟩ : ∃ x, x = Xc.drew := ⟨_, rfl⟩
              have HADD : Hid (Calls Try.prog 43 #[.pointer (some ⟨m, 0, none⟩), .agg #[.int .u32 (id : Nat), .int .i64 (N : Nat), .int .i64 (s : Nat), .int .i64 (o : Nat)]] D fun e w'' => e = .returned (.tuple #[]) ∧
                  Hid (GN w'' m os n A ((l.take (k + 1)).map (closeC l)) ∧ Blk w'' gN (nC (num l)) 91 ∧ COwn w'' 0 (.slice (some ⟨bb, off, none⟩) LL vc) l ∧ Chg own w1 w'')) := by
                refine (AD.out D (by rw [hD]; exact (Below.refl _ _).drew)).mono ?_
                rintro e w9 ⟨rfl, k1, k2⟩
                exact ⟨rfl, closeRound HOC.out HOS.out HOW.out HNN.out HVS.out HBc.out HRc.out HCc.out k1 (chg_drew (.inr (by rw [← hD]; exact k2)))⟩
              clear hcr q1 q2 q3 q4 hce hc hbc hoc HG HB HR HC hN hkl AD HCB HGc HBc HRc HCc
              go_upto_region 16 with fail
              rw [← hgc, ← hXc]
              clear hgc hXc x0 x1 x2 x3
              go_still_tail 10, (by kernel_rfl)
              change wpList _ _ _ _ _ Xc.drew
              rw [← hD]
              clear hD
              go_wp2_with fail
              refine HADD.out.mono ?_; rintro e w9 ⟨rfl, HE⟩
              clear HADD b0 b1 b2 b3 nr
              go_wp2_with fail
              go_roundw
              case rel => exact ⟨k + 1, hlt, by go_num, HE.out.1, HE.out.2.1, HE.out.2.2.1, HE.out.2.2.2⟩
              case measure => simp [RowKit.intOf]; omega
            · have hd : decide (k < LL) = false := decide_eq_false hlt
              have hkl : k = l.length := by have := HLL.out; omega
              have HEND : Hid ((l.take k).map (closeC l) = closeG l) := by unfold Hid closeG; rw [hkl, List.take_length]
              go_wp2_with fail
              go_returns
              have hg := HG.out
              rw [HEND.out, HA.out] at hg
              exact ⟨rfl, (hg.wider fun k hk => HOW.out k (HOS.out k hk)).gm (unifyA_act HOK.out a), (Chg.of_below HBW0.out).trans HC.out⟩
end

end Go.Proofs.Ytfobapnncjjeiaa
