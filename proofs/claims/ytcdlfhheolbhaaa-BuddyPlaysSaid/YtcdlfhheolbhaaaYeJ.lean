/-
  The yard's clone, Would.
-/
import Derived.Test.YtcdlfhheolbhaaaYeI
namespace Go.Proofs.Ytcdlfhheolbhaaa
open Go Go.RowKit Go.Lib
set_option linter.unusedVariables false

def cloneCs (n : Nat) (vt vf : Value) : Array Value := #[.int .i64 (n : Int), nilV, nilV, nilV, nilV, nilV, nilV, nilV, nilV, nilV, nilV, nilV, vt, vf]
theorem cloneCs_at (n : Nat) (vt vf : Value) {j : Nat} (h1 : 1 ≤ j) (h2 : j ≤ 11) : (cloneCs n vt vf)[j]? = some nilV := by
  rcases (by omega : j = 1 ∨ j = 2 ∨ j = 3 ∨ j = 4 ∨ j = 5 ∨ j = 6 ∨ j = 7 ∨ j = 8 ∨ j = 9 ∨ j = 10 ∨ j = 11) with rfl | rfl | rfl | rfl | rfl | rfl | rfl | rfl | rfl | rfl | rfl <;> rfl
/-- The rows of a clone, of which k rows of free blocks are copied. -/
noncomputable def cloX (n : Nat) (op : Opn) (tk : List Bk) (fl : List Nat) (k : Nat) : Nat → List Value := fun j => if j = 12 then blkL tk else if j = 13 then natL fl else if j ≤ k then natL (frL n op (j - 1)) else []
theorem YM.half (w : World) (g : Nat) (own : Nat → Prop) (n : Nat) (op : Opn) (tk : List Bk) (fl : List Nat) (vt vf : Value) (hB : Blk w g (cloneCs n vt vf) 65) (hg : own g) (hnew : ∀ k, w.heap.size ≤ k → own k)
    (ht : BOwn w 0 vt tk) (hf : NOwn w 0 vf (natI fl)) (ho1 : ∀ k, vt.ownBlock = some k → own k ∧ k ≠ g) (ho2 : ∀ k, vf.ownBlock = some k → own k ∧ k ≠ g) (hne : ∀ k, vt.ownBlock = some k → vf.ownBlock ≠ some k) :
    YM w g own (cloneCs n vt vf) (cloX n op tk fl 0) := by
  have at12 : (cloneCs n vt vf)[12]? = some vt := rfl
  have at13 : (cloneCs n vt vf)[13]? = some vf := rfl
  have hb : ∀ j v k, 1 ≤ j → j ≤ 13 → (cloneCs n vt vf)[j]? = some v → v.ownBlock = some k → (j = 12 ∧ v = vt) ∨ (j = 13 ∧ v = vf) := fun j v k j1 j2 hv hk => by
    rcases (by omega : j ≤ 11 ∨ j = 12 ∨ j = 13) with h | rfl | rfl
    · rw [cloneCs_at n vt vf j1 h] at hv; cases hv; cases hk
    · rw [at12] at hv; cases hv; exact .inl ⟨rfl, rfl⟩
    · rw [at13] at hv; cases hv; exact .inr ⟨rfl, rfl⟩
  refine ⟨hB, rfl, hg, hnew, fun j j1 j2 => ?_, fun j v k j1 j2 hv hk => ?_, fun j i v u k j1 j2 i1 i2 hv hu hk hk' => ?_⟩
  · rcases (by omega : j ≤ 11 ∨ j = 12 ∨ j = 13) with h | rfl | rfl
    · refine ⟨nilV, 0, cloneCs_at n vt vf j1 h, ?_⟩
      unfold cloX; rw [if_neg (by omega), if_neg (by omega), if_neg (by omega)]
      exact World.ownsRow_nil _ _ _ _
    · exact ⟨vt, _, at12, ht⟩
    · exact ⟨vf, _, at13, hf⟩
  · rcases hb j v k j1 j2 hv hk with ⟨_, rfl⟩ | ⟨_, rfl⟩
    · exact ho1 k hk
    · exact ho2 k hk
  · rcases hb j v k j1 j2 hv hk with ⟨rfl, rfl⟩ | ⟨rfl, rfl⟩ <;> rcases hb i u k i1 i2 hu hk' with ⟨rfl, rfl⟩ | ⟨rfl, rfl⟩
    · rfl
    · exact absurd hk' (hne k hk)
    · exact absurd hk (hne k hk')
    · rfl
def ClonePost (n : Nat) (op : Opn) (tk : List Bk) (fl : List Nat) (w : World) (e : Ending) (w' : World) : Prop :=
  ∃ g : Nat, e = .returned (.pointer (some ⟨g, 0, none⟩)) ∧ YI w' g (fun k => w.heap.size ≤ k) n op tk fl ∧ Below w.heap.size w w'
theorem cloneRelA {w wt wf : World} {n : Nat} {op : Opn} {tk : List Bk} {fl : List Nat} {ct cf : Value} (ht : Hid (BOwn wt w.drew.heap.size ct tk)) (bt : Below w.drew.heap.size w.drew wt) (hf : Hid (NOwn wf wt.heap.size cf (natI fl))) (bf : Below wt.heap.size wt wf) :
    YM (wf.alloc (.cells (cloneCs n ct cf) 65)) wf.heap.size (fun k => w.heap.size ≤ k) (cloneCs n ct cf) (cloX n op tk fl 0) ∧ Below w.heap.size w (wf.alloc (.cells (cloneCs n ct cf) 65)) := by
  have h1 : w.heap.size ≤ wt.heap.size := bt.size
  have h2 := bf.size
  have hb : Below wf.heap.size wf (wf.alloc (.cells (cloneCs n ct cf) 65)) := (Below.refl _ _).alloc (Nat.le_refl _) _
  have ht2 := (own_older ht.out bf)
  have lt1 := ht.out.lt
  have lt2 := hf.out.lt
  have lt3 := ht2.lt
  refine ⟨YM.half _ _ _ n op tk fl ct cf (Blk.new _ _ _) (by omega) (fun k hk => by simp at hk; omega) ((own_older ht2 hb).mono (Nat.zero_le _)) ((own_older hf.out hb).mono (Nat.zero_le _))
    (fun k hk => ⟨(lt1 k hk).1, by have := (lt3 k hk).2; omega⟩) (fun k hk => ⟨by have := (lt2 k hk).1; omega, by have := (lt2 k hk).2; omega⟩) (fun k hk hk' => by have := (lt1 k hk).2; have := (lt2 k hk').1; omega), ?_⟩
  have h4 : Below w.heap.size w wf := (bt.mono (Nat.le_refl _) : Below w.heap.size w.drew wt) |> fun h => (⟨h.os, h.tape, h.output, h.size, h.block⟩ : Below w.heap.size w wt).trans (bf.mono h1)
  exact h4.alloc h4.size _
theorem cloneRelB {w wt wf : World} {n : Nat} {op : Opn} {tk : List Bk} {fl : List Nat} {ct cf : Value} (hf : Hid (NOwn wf w.drew.heap.size cf (natI fl))) (bf : Below w.drew.heap.size w.drew wf) (ht : Hid (BOwn wt wf.heap.size ct tk)) (bt : Below wf.heap.size wf wt) :
    YM (wt.alloc (.cells (cloneCs n ct cf) 65)) wt.heap.size (fun k => w.heap.size ≤ k) (cloneCs n ct cf) (cloX n op tk fl 0) ∧ Below w.heap.size w (wt.alloc (.cells (cloneCs n ct cf) 65)) := by
  have h1 : w.heap.size ≤ wf.heap.size := bf.size
  have h2 := bt.size
  have hb : Below wt.heap.size wt (wt.alloc (.cells (cloneCs n ct cf) 65)) := (Below.refl _ _).alloc (Nat.le_refl _) _
  have hf2 := (own_older hf.out bt)
  have lt1 := hf.out.lt
  have lt2 := ht.out.lt
  have lt3 := hf2.lt
  refine ⟨YM.half _ _ _ n op tk fl ct cf (Blk.new _ _ _) (by omega) (fun k hk => by simp at hk; omega) ((own_older ht.out hb).mono (Nat.zero_le _)) ((own_older hf2 hb).mono (Nat.zero_le _))
    (fun k hk => ⟨by have := (lt2 k hk).1; omega, by have := (lt2 k hk).2; omega⟩) (fun k hk => ⟨(lt1 k hk).1, by have := (lt3 k hk).2; omega⟩) (fun k hk hk' => by have := (lt1 k hk').2; have := (lt2 k hk).1; omega), ?_⟩
  have h4 : Below w.heap.size w wt := (bf.mono (Nat.le_refl _) : Below w.heap.size w.drew wf) |> fun h => (⟨h.os, h.tape, h.output, h.size, h.block⟩ : Below w.heap.size w wf).trans (bt.mono h1)
  exact h4.alloc h4.size _
/-- One row more is copied. -/
theorem cloneStep {wr w1 : World} {g n k : Nat} {own : Nat → Prop} {op : Opn} {tk : List Bk} {fl : List Nat} {cs : Array Value} {v' : Value} (hk : k < 11) (hM : YM wr g own cs (cloX n op tk fl k)) (hnil : cs[1 + k]? = some nilV) (hb : Below wr.heap.size wr w1) (ho : NOwn w1 wr.heap.size v' (natI (frL n op k))) :
    YM (w1.setCell ⟨g, 1 + k, none⟩ v') g own (cs.setIfInBounds (1 + k) v') (cloX n op tk fl (k + 1)) ∧ Chg own wr (w1.setCell ⟨g, 1 + k, none⟩ v') ∧ Blk w1 g cs 65 := by
  have hS : slS (1 + k) = 1 := by unfold slS; rw [if_neg (by omega)]
  have hT : slT (1 + k) = 3 := by unfold slT; rw [if_neg (by omega)]
  obtain ⟨p1, p2, p3⟩ := hM.put (j := 1 + k) (by omega) (by omega) (v := nilV) (v' := v') hnil (w1 := w1) ⟨hb.os, hb.tape, hb.output, hb.size, fun j hj _ => hb.block j hj⟩ (fun q hq => .inr (ho.lt q hq).1) (m := (natI (frL n op k)).length) (xs := natL (frL n op k))
    (by rw [hS, hT]; exact ho.mono (Nat.zero_le _))
  refine ⟨p1.congr fun j j1 j2 => ?_, p2, p3⟩
  unfold updX cloX
  by_cases hj : j = 1 + k
  · rw [if_pos hj, if_neg (by omega), if_neg (by omega), if_pos (by omega), show j - 1 = k by omega]
  · rw [if_neg hj]
    by_cases h12 : j = 12
    · rw [if_pos h12, if_pos h12]
    · rw [if_neg h12, if_neg h12]
      by_cases h13 : j = 13
      · rw [if_pos h13, if_pos h13]
      · rw [if_neg h13, if_neg h13]
        by_cases hjk : j ≤ k
        · rw [if_pos hjk, if_pos (by omega)]
        · rw [if_neg hjk, if_neg (by omega)]
set_option maxHeartbeats 4000000 in
theorem clone_any (y : Nat) (own : Nat → Prop) (n : Nat) (op : Opn) (tk : List Bk) (fl : List Nat) (w : World) (hl : tk.length ≤ 1024) (hlf : fl.length ≤ 1024) (hY : YI w y own n op tk fl) :
    Calls Try.prog 54 #[.pointer (some ⟨y, 0, none⟩)] w fun e w' => ClonePost n op tk fl w e w' := by
  have hn := hY.n10
  have hy0 := hY.ord
  obtain ⟨vt, hvt, hrt⟩ := hY.tk
  obtain ⟨vf, hvf, hrf⟩ := hY.fl
  obtain ⟨A, hA, hAr⟩ := hY.rows
  have hyl := hY.lt
  have CB : Hid (∀ w1, Below w.heap.size w w1 → Calls Try.prog 45 #[vt] w1 fun e w' => ∃ va vn vc, e = .returned (.slice va vn vc) ∧ Hid (BOwn w' w1.heap.size (.slice va vn vc) tk) ∧ Below w1.heap.size w1 w') := fun w1 hb => by
    refine (cloneB_any vt tk w1 (by omega) ((brow_of_own hrt).kept hb)).mono ?_
    rintro e w2 ⟨v', rfl, h1, h2⟩
    obtain ⟨a, c, rfl⟩ := own_slice h1
    exact ⟨a, _, c, rfl, h1, h2⟩
  have CN : Hid (∀ w1, Below w.heap.size w w1 → Calls Try.prog 46 #[vf] w1 fun e w' => ∃ va vn vc, e = .returned (.slice va vn vc) ∧ Hid (NOwn w' w1.heap.size (.slice va vn vc) (natI fl)) ∧ Below w1.heap.size w1 w') := fun w1 hb => by
    refine (cloneN_any vf (natI fl) w1 (by rw [natI_len]; omega) ((nrow_of_own hrf).kept hb)).mono ?_
    rintro e w2 ⟨v', rfl, h1, h2⟩
    obtain ⟨a, c, rfl⟩ := own_slice h1
    exact ⟨a, _, c, rfl, h1, h2⟩
  have HA := Lib.hid hA
  have HAR := Lib.hid hAr
  have HY := Lib.hid hY
  have HBd : Hid (Below w.heap.size w w.drew) := (Below.refl _ _).drew
  clear hY hA hAr hrt hrf
  go_enter Try.func54, Try.ntmps54
  go_upto_region 1 with fail
  go_cut [3] (fun p wx => ∃ (g : Nat) (ct cf : Value), p = .pointer (some ⟨g, 0, none⟩) ∧ Hid (YM wx g (fun k => w.heap.size ≤ k) (cloneCs n ct cf) (cloX n op tk fl 0)) ∧ Hid (Below w.heap.size w wx))
  case first =>
    go_region_held3 (fun w' => w'.cell? ⟨y, 0, none⟩ = some (.int .i64 (n : Int)) ∧ w'.cell? ⟨y, 12, none⟩ = some vt ∧ w'.cell? ⟨y, 13, none⟩ = some vf ∧ Below w.heap.size w w')
      (first
        | exact ⟨hy0, hvt, hvf, HBd.out⟩
        | (rcases ‹_ ∧ _ ∧ _ ∧ Below w.heap.size _ _› with ⟨s0, s1, s2, s3⟩; exact ⟨cell_next (by assumption) s0, cell_next (by assumption) s1, cell_next (by assumption) s2, below_next (by assumption) s3⟩)
        | (rcases ‹_ ∧ _ ∧ _ ∧ Below w.heap.size _ _› with ⟨s0, s1, s2, s3⟩; exact ⟨Lib.cell?_alloc_some _ s0, Lib.cell?_alloc_some _ s1, Lib.cell?_alloc_some _ s2, s3.alloc s3.size _⟩))
      (first
        | (go_at_call 45; ((with_reducible refine (CB.out _ (‹_ ∧ _ ∧ _ ∧ Below w.heap.size _ _›).2.2.2).mono ?_); rintro e wt ⟨ta, tn, tc, rfl, ht, bt⟩))
        | (go_at_call 46; ((with_reducible refine (CN.out _ (‹_ ∧ _ ∧ _ ∧ Below w.heap.size _ _›).2.2.2).mono ?_); rintro e wf ⟨fa, fn, fc, rfl, hf, bf⟩)))
    all_goals
      go_wp2_with fail
      go_meet
      case rel =>
        first
          | exact ⟨_, _, _, rfl, cloneRelA (by assumption) (by assumption) (by assumption) (by assumption)⟩
          | exact ⟨_, _, _, rfl, cloneRelB (by assumption) (by assumption) (by assumption) (by assumption)⟩
  case rest =>
    obtain ⟨g, ct, cf, rfl, HM, HB⟩ := hcut
    have hld := HA.out wc (fun o => (bcell HB.out).1 y o hyl)
    have HLD := Lib.hid hld
    clear hld
    go_wp2_with (refine wpList_load_cells rfl 63 _ rfl ⟨y, 1, none⟩ rfl _ HLD.out ?_)
    go_loopg [26] 11 (fun gk i wr => ∃ (k : Nat) (cs : Array Value), gk + k = 11 ∧ i = .int .i64 k ∧ Hid (YM wr g (fun k => w.heap.size ≤ k) cs (cloX n op tk fl k)) ∧ Hid (cs[0]? = some (.int .i64 (n : Int)) ∧ ∀ j, k < j → j ≤ 11 → cs[j]? = some nilV) ∧ Hid (Below w.heap.size w wr))
    case atStart => exact ⟨0, _, rfl, rfl, HM, ⟨rfl, fun j h1 h2 => cloneCs_at n ct cf (by omega) h2⟩, HB⟩
    case round =>
      obtain ⟨k, cs, hgk, rfl, HMk, HCk, HBk⟩ := hrel
      by_cases hlt : (k : Int) < 11
      · have hd : decide ((k : Int) < 11) = true := decide_eq_true hlt
        have hk11 : k < 11 := by omega
        have hkz : (0 : Int) ≤ (k : Int) := by omega
        obtain ⟨v, hAv, hrow⟩ := HAR.out k hk11
        have hix : (Instr.index 63 (.agg A) (.int .i64 (k : Nat))).run Try.prog wr = .ok v wr := run_index_arr Try.underlying63 hk11 (Try.isAgg23 wr) (Try.sizeOf23 wr) hAv
        have hnil := HCk.out.2 (1 + k) (by omega) (by omega)
        have FK : Hid (Calls Try.prog 46 #[v] wr.drew fun e w' => ∃ va vn vc, e = .returned (.slice va vn vc) ∧ (w'.cell? ⟨g, 1 + k, none⟩ = some (.slice none 0 0) ∧ w'.frozen? ⟨g, 1 + k, none⟩ = false) ∧
            Hid (YM (w'.setCell ⟨g, 1 + k, none⟩ (.slice va vn vc)) g (fun k => w.heap.size ≤ k) (cs.setIfInBounds (1 + k) (.slice va vn vc)) (cloX n op tk fl (k + 1)) ∧ Below w.heap.size w (w'.setCell ⟨g, 1 + k, none⟩ (.slice va vn vc)))) := by
          have hd : Below wr.heap.size wr wr.drew := (Below.refl _ _).drew
          refine (cloneN_any v (natI (frL n op k)) wr.drew (by rw [natI_len]; have := frL_len hn op k; omega) ((nrow_of_own (own_older hrow HBk.out)).kept hd)).mono ?_
          rintro e w2 ⟨v', rfl, h1, h2⟩
          obtain ⟨a, c, rfl⟩ := own_slice h1
          have hb2 : Below wr.heap.size wr w2 := ⟨h2.os, h2.tape, h2.output, h2.size, h2.block⟩
          obtain ⟨r1, r2, r3⟩ := cloneStep hk11 HMk.out hnil hb2 h1
          exact ⟨a, _, c, rfl, r3.at hnil, r1, HBk.out.trans ((r2.to_below HBk.out.size (fun k hk h => by omega)))⟩
        clear hAv hrow
        go_wp2_with fail
        go_region_law (first | (go_simp; go_at_call 46; ((with_reducible refine FK.out.mono ?_); rintro e w2 ⟨va, vn, vc, rfl, ⟨d1, d2⟩, hfin⟩)))
        all_goals
          go_wp2_with fail
          go_roundg (gk - 1)
          case measure => omega
          case rel =>
            refine ⟨k + 1, _, by omega, by go_num, hfin.out.1, ⟨?_, fun j h1 h2 => ?_⟩, hfin.out.2⟩
            · rw [Array.getElem?_setIfInBounds_ne (by omega)]; exact HCk.out.1
            · rw [Array.getElem?_setIfInBounds_ne (by omega)]; exact HCk.out.2 j (by omega) h2
      · have hd : decide ((k : Int) < 11) = false := decide_eq_false hlt
        have ek : k = 11 := by omega
        go_wp2_with fail
        go_returns
        refine ⟨g, rfl, ⟨cs, HMk.out.congr fun j j1 j2 => ?_, HCk.out.1, hn⟩, HBk.out⟩
        unfold cloX slX
        by_cases h12 : j = 12
        · rw [if_pos h12, if_pos h12]
        · rw [if_neg h12, if_neg h12]
          by_cases h13 : j = 13
          · rw [if_pos h13, if_pos h13]
          · rw [if_neg h13, if_neg h13, if_pos (by omega)]
end Go.Proofs.Ytcdlfhheolbhaaa
