/-
  share.parentsOf: at any accounts that may be.
-/
import Derived.Test.YtbnlmeegepgioaaDoorShCk
import Derived.Maps.OwnOps
import Derived.Maps.AppendAt
import Derived.WalkArith
namespace Go.Proofs.YtbnlmeegepgioaaDoor
open Go Go.RowKit Go.Lib Go.Maps Go.WideShapes
set_option linter.unusedVariables false

/-- Where a name stands among the first k; 0: nowhere. -/
def posN (l : List AcT) : Nat → ByteArray → Nat
  | 0, _ => 0
  | k + 1, s => if s = nmI l k then k else posN l k s
theorem posN_at {l : List AcT} (h : Tree l) {j : Nat} (hj : j < l.length) : ∀ k, j < k → k ≤ l.length → posN l k (nmI l j) = j := by
  intro k
  induction k with
  | zero => intro h1; omega
  | succ k ih =>
    intro h1 h2
    rw [posN]
    by_cases e : nmI l j = nmI l k
    · rw [if_pos e]; exact (h.nw j k hj (by omega) e).symm
    · rw [if_neg e]
      refine ih ?_ (by omega)
      rcases (by omega : j = k ∨ j < k) with rfl | h3
      · exact absurd rfl e
      · exact h3
theorem posN_up {l : List AcT} (h : Tree l) {i : Nat} (hi : i < l.length) : posN l i (upI l i) = parI l i := by
  rcases Nat.eq_zero_or_pos i with rfl | h0
  · rw [h.p0]; rfl
  · rw [← h.up i hi h0]
    exact posN_at h (Nat.lt_trans (h.lt i hi h0) hi) i (h.lt i hi h0) (by omega)
/-- A map from names to their places. -/
def IdxIs (w : World) (b n : Nat) (l : List AcT) (k : Nat) : Prop :=
  ∃ D : DataW Unit, w.ownsMap Tryd.prog 9 (plainElem Tryd.prog 3) b n D ∧ IsMap D ∧ ∀ s : ByteArray, s.size ≤ maxLen → D.atKey (.string s.data.toList) (.lit (.int .i64 0)) = .lit (.int .i64 (posN l k s : Nat))
theorem IdxIs.made (w : World) (l : List AcT) : IdxIs (w.alloc (.map #[] 0)) w.heap.size 0 l 0 :=
  ⟨_, World.ownsMap_made _ _ _ _, isMap_empty, fun s _ => by simp [DataW.atKey, posN]⟩
theorem IdxIs.chg {own : Nat → Prop} {w w' : World} {b n k : Nat} {l : List AcT} (h : IdxIs w b n l k) (hc : Chg own w w') (hb : ¬ own b) : IdxIs w' b n l k := by
  obtain ⟨D, h1, h2, h3⟩ := h
  have hlt := h1.lt
  obtain ⟨es, clock, hbk, F, hs, hD⟩ := h1
  exact ⟨D, ⟨es, clock, (hc.block b hlt hb).trans hbk, F, hs, hD⟩, h2, h3⟩
theorem IdxIs.kept {w w' : World} {b n k : Nat} {l : List AcT} (h : IdxIs w b n l k) (hb : Below w.heap.size w w') : IdxIs w' b n l k := h.chg (own := fun _ => False) (Chg.of_below hb) id
theorem idx_put {D : DataW Unit} {l : List AcT} {k : Nat} {s : ByteArray} (hD : IsMap D) (hs : s = nmI l k) (h : ∀ s : ByteArray, s.size ≤ maxLen → D.atKey (.string s.data.toList) (.lit (.int .i64 0)) = .lit (.int .i64 (posN l k s : Nat))) :
    ∀ s' : ByteArray, s'.size ≤ maxLen → (D.put (.string s.data.toList) (.lit (.int .i64 (k : Nat)))).atKey (.string s'.data.toList) (.lit (.int .i64 0)) = .lit (.int .i64 (posN l (k + 1) s' : Nat)) := fun s' hs' => by
  rw [posN, ← hs]
  by_cases e : s' = s
  · subst e
    rw [if_pos rfl]
    exact atKey_put_same hD (by first | exact trivial | simp [WideAt.IsKeyLit] | exact ⟨_, rfl⟩) _ _
  · rw [if_neg e, atKey_put_other (fun h => e (str_inj h)), h s' hs']
theorem Tryd.zeroI (w : World) : (zeroValue 3).run Tryd.prog w = .ok (.int .i64 0) w := by kernel_rfl
theorem map_chg {own : Nat → Prop} {w w' : World} {b n : Nat} {kt : TypeId} {R : Value → Option (DataW Unit × List MemPlace)} {D : DataW Unit} (h1 : w.ownsMap Tryd.prog kt R b n D) (hc : Chg own w w') (hb : ¬ own b) : w'.ownsMap Tryd.prog kt R b n D := by
  have hlt := h1.lt
  obtain ⟨es, clock, hbk, F, hs, hD⟩ := h1
  exact ⟨es, clock, (hc.block b hlt hb).trans hbk, F, hs, hD⟩
theorem own_low {w : World} {base base' size n : Nat} {e : TypeId} {v : Value} {xs : List Value} (h : w.ownsRow base e size v n xs) (hb : base' ≤ base) : w.ownsRow base' e size v n xs := by
  refine ⟨h.1, ?_⟩
  rcases h.2 with hn | ⟨g, cap, cur, e, hb2, r⟩
  · exact .inl hn
  · exact .inr ⟨g, cap, cur, e, Nat.le_trans hb hb2, r⟩
theorem blk_grown {w w' : World} {b : Nat} {cs : Array Value} {t : TypeId} {k : Option Nat} (h : Blk w b cs t) (hg : w.grownBy w' k) (hne : some b ≠ k) : Blk w' b cs t := by
  have hl := h.lt
  unfold Blk at *
  rw [hg.block b hl hne]; exact h
theorem nown_new (w : World) (base : Nat) (h : base ≤ w.heap.size) : NOwn (w.alloc (.cells #[] 3)) base (.slice (some ⟨w.heap.size, 0, none⟩) 0 0) [] :=
  ⟨rfl, .inr ⟨w.heap.size, 0, #[], rfl, h, by have := Blk.new w #[] 3; unfold Blk at this; exact this, Nat.le_refl _, Nat.zero_le _, rfl, rfl⟩⟩
theorem lit_wf {n : Nat} (h : n ≤ 9223372036854775807) : (Lit.int .i64 (n : Int)).wf = true := by
  exact Go.WalkArith.wf_i64 ⟨by omega, by omega⟩
/-- The parents' places. -/
def parL (l : List AcT) (k : Nat) : List Int := (List.range k).map fun i => (parI l i : Int)
theorem parL_len (l : List AcT) (k : Nat) : (parL l k).length = k := by unfold parL; simp
theorem parL_succ (l : List AcT) (k : Nat) : parL l (k + 1) = parL l k ++ [(parI l k : Int)] := by unfold parL; rw [List.range_succ, List.map_append]; rfl
def ParPost (l : List AcT) (w : World) (e : Ending) (w' : World) : Prop := ∃ v, e = .returned v ∧ NOwn w' w.heap.size v (parL l l.length) ∧ Below w.heap.size w w'
set_option maxRecDepth 100000 in
set_option maxHeartbeats 4000000 in
theorem parentsOf_any (v : Value) (l : List AcT) (w : World) (hv : AcRow w v l) (hs : ∀ p ∈ l, Short p.1 ∧ Short p.2.1) (hA : Tree l) :
    Calls Tryd.prog 24 #[v] w fun e w' => ParPost l w e w' := by
  have hmm := @run_makeMap Tryd.prog
  obtain ⟨i0, hi, hz0, hz1, hz2⟩ := info_parts Tryd.infoNum
  obtain ⟨va, vc, rfl⟩ := hv.slice
  have HV := Lib.hid hv
  have HS := Lib.hid hs
  have HA := Lib.hid hA
  obtain ⟨LN, hLN⟩ : ∃ L, L = l.length := ⟨_, rfl⟩
  rw [← hLN] at HV ⊢
  have HLN := Lib.hid hLN
  have h50 : LN ≤ 50 := by rw [hLN]; exact hA.n50
  clear hv hs hA hLN
  have HM0 := Lib.hid (IdxIs.made w l)
  have HB0 : Hid (Below w.heap.size w (w.alloc (.map #[] 0))) := (Below.refl _ _).alloc (Nat.le_refl _) _
  go_enter Tryd.func24, Tryd.ntmps24
  go_wp2_with fail
  obtain ⟨bm, hbm⟩ : ∃ bm, bm = w.heap.size := ⟨_, rfl⟩
  have HM1 : Hid (IdxIs ((w.alloc (.map #[] 0)).alloc (.cells #[] 3)) bm 0 l 0) := by unfold Hid; rw [hbm]; exact HM0.out.kept ((Below.refl _ _).alloc (Nat.le_refl _) _)
  have HB1 : Hid (Below w.heap.size w ((w.alloc (.map #[] 0)).alloc (.cells #[] 3))) := HB0.out.alloc HB0.out.size _
  have hsz : (w.alloc (.map #[] 0)).heap.size = bm + 1 := by rw [hbm]; exact Array.size_push _
  have HR1 : Hid (NOwn ((w.alloc (.map #[] 0)).alloc (.cells #[] 3)) (bm + 1) (.slice (some ⟨bm + 1, 0, none⟩) 0 0) (parL l 0)) := by
    have := nown_new (w.alloc (.map #[] 0)) (bm + 1) (by omega)
    rw [hsz] at this; exact this
  have HBM := Lib.hid hbm
  rw [← hbm]
  clear hbm hsz HM0 HB0
  go_loopw [4, 11] (fun vr i wr => ∃ (k : Nat) (ra : Option Addr) (rc : Nat), k ≤ LN ∧ i = .int .i64 k ∧ vr = .slice ra k rc ∧ Hid (NOwn wr (bm + 1) (.slice ra k rc) (parL l k)) ∧ Hid (IdxIs wr bm k l k) ∧ Hid (Below w.heap.size w wr)) (fun _ i _ => LN - (RowKit.intOf i).toNat)
  case atStart => exact ⟨0, _, _, Nat.zero_le _, rfl, rfl, HR1, HM1, HB1⟩
  case round =>
    obtain ⟨k, ra, rc, hk, rfl, rfl, HO, HM, HB⟩ := hrel
    by_cases hlt : k < LN
    · have hd : decide (k < LN) = true := decide_eq_true hlt
      have hki : (k : Int) < (LN : Int) := by omega
      have hkl : k < l.length := by rw [← HLN.out]; exact hlt
      obtain ⟨b, off, hva, hcell⟩ := HV.out.at hkl
      subst hva
      have hse := HS.out _ (List.getElem_mem hkl)
      have hnm := nmI_at hkl
      have hup := upI_at hkl
      obtain ⟨⟨nm, pn, x2⟩, hx⟩ : ∃ x, x = l[k] := ⟨_, rfl⟩
      rw [← hx] at hcell hse hnm hup
      have c0 := hcell wr HB.out 0 _ rfl
      have c1 := hcell wr HB.out 1 _ rfl
      have c2 := hcell wr HB.out 2 _ rfl
      dsimp only at c0 c1 c2 hse hnm hup
      simp only [Nat.add_zero] at c0
      obtain ⟨wA, hwA⟩ : ∃ wA, wA = wr.alloc (.cells #[.string nm, .string pn, .int .i64 x2] 37) := ⟨_, rfl⟩
      have hbA : Below wr.heap.size wr wA := by rw [hwA]; exact (Below.refl _ _).alloc (Nat.le_refl _) _
      obtain ⟨gE, hgE⟩ : ∃ gE, gE = wr.heap.size := ⟨_, rfl⟩
      have HE : Hid (Blk wA gE #[.string nm, .string pn, .int .i64 x2] 37) := by unfold Hid; rw [hwA, hgE]; exact Blk.new _ _ _
      have HBA := Lib.hid (HB.out.trans (hbA.mono HB.out.size))
      have HOA : Hid (NOwn wA (bm + 1) (Value.slice ra k rc) (parL l k)) := own_older HO.out hbA
      obtain ⟨D, hown, hD, hat⟩ := HM.out.kept hbA
      have hGE : some gE ≠ (Value.slice ra k rc).ownBlock := fun e => by have := (HO.out.lt _ e.symm).2; omega
      have hBMv : some bm ≠ (Value.slice ra k rc).ownBlock := fun e => by have := (HO.out.lt _ e.symm).1; omega
      have hBMs : bm < wA.heap.size := hown.lt
      have hGB : gE ≠ bm := by have := (by obtain ⟨D', h1, _⟩ := HM.out; exact h1.lt : bm < wr.heap.size); omega
      have hsp : pn.size ≤ maxLen := by have h := hse.2; unfold Short at h; unfold maxLen; omega
      have hsn : nm.size ≤ maxLen := by have h := hse.1; unfold Short at h; unfold maxLen; omega
      have hkp : keyOf Tryd.prog 9 (.string pn) = some (.string pn.data.toList) := Go.WideMaps.keyOf_string_mk Tryd.underlying9 hsp
      have hkn : keyOf Tryd.prog 9 (.string nm) = some (.string nm.data.toList) := Go.WideMaps.keyOf_string_mk Tryd.underlying9 hsn
      obtain ⟨PK, hPK⟩ : ∃ PK, PK = parI l k := ⟨_, rfl⟩
      have HPB : Hid (PK ≤ 50) := by
        unfold Hid; rw [hPK]
        rcases Nat.eq_zero_or_pos k with rfl | h0
        · rw [HA.out.p0]; omega
        · have := HA.out.lt k hkl h0; omega
      have HLK : Hid (∀ c : Int, D.atKey (.string pn.data.toList) (.lit (.int .i64 0)) = .lit (.int .i64 c) → c = (PK : Int)) := fun c hc => by
        have h1 := hat pn hsp
        rw [hc, ← hup, posN_up HA.out hkl, ← hPK] at h1
        injection h1 with h1; injection h1 with _ h1
      have HPS : Hid (parL l (k + 1) = parL l k ++ [(PK : Int)]) := by unfold Hid; rw [parL_succ, hPK]
      have HAT2 := Lib.hid (idx_put hD hnm.symm hat)
      have HD2 := Lib.hid (hD.put (.string nm.data.toList) (.lit (.int .i64 (k : Nat))))
      have HOWN := Lib.hid hown
      have HKP := Lib.hid hkp
      have HKN := Lib.hid hkn
      have HGE := Lib.hid hGE
      have HGB := Lib.hid hGB
      have HBMv := Lib.hid hBMv
      have HBMs := Lib.hid hBMs
      have HKW : Hid ((Lit.int .i64 ((k : Nat) : Int)).wf = true) := lit_wf (by omega)
      have HPL : Hid ((parL l k).length = k) := parL_len l k
      obtain ⟨N, hN⟩ : ∃ N, N = (parL l k).length := ⟨_, rfl⟩
      have hN50 : N ≤ 50 := by rw [hN, parL_len]; omega
      unfold NOwn at HOA
      rw [← hN] at HOA
      have HNN := Lib.hid hN
      have e0 := HE.out.cell 0
      have e1 := HE.out.cell 1
      simp at e0 e1
      clear hcell hse hx hbA hown hD hat hGE hGB hBMv hBMs hkp hkn hPK hnm hup hsp hsn hN
      go_upto_region 6 with fail
      rw [← hwA, ← hgE]
      clear hwA hgE c0 c1 c2
      go_wp2_with (first
        | (at_lookup; refine wpList_lookup_own_int _ rfl _ _ 56 rfl 9 3 _ Tryd.keyS Tryd.underlying56 Tryd.underlying3 (Tryd.zeroI _) bm k D rfl HOWN.out _ _ rfl HKP.out ?_; intro c hat hwc; have hc := HLK.out c hat; clear hat hwc; subst hc)
        | (at_builtin; refine wpList_append_own_at _ rfl _ _ 23 rfl (bm + 1) 3 i0 _ 1 8 Tryd.underlying23 hi hz0 hz1 hz2 rfl (by decide) (Value.slice ra k rc) N _ rfl (World.ownsRow.alloc HOA.out _) ⟨wA.heap.size, 0, none⟩ 1 1 [.int .i64 (PK : Int)] rfl rfl (news_alloc _ [.int .i64 (PK : Int)] _) (by simp [Value.oneCell']) (by unfold maxLen; omega) (by omega) (by have := HBMs.out; simp; omega) ?_; intro v4 w5 hown4 hgrow4 _ hat4; have hE5 := blk_grown (HE.out.old (.cells #[.int .i64 (PK : Int)] 3)) hgrow4 HGE.out; have a0 := hE5.cell 0; simp only [List.getElem?_toArray, List.getElem?_cons_zero] at a0; have hM5 := map_chg (map_chg (own := fun _ => False) HOWN.out (Chg.of_below ((Below.refl _ _).alloc (Nat.le_refl _) (.cells #[.int .i64 (PK : Int)] 3))) id) (Chg.of_grown hgrow4 (own := fun q => some q = (Value.slice ra k rc).ownBlock) (fun q hq => hq.symm)) HBMv.out)
        | (at_mapUpdate; refine wpList_mapUpdate_own _ rfl _ _ _ 56 rfl 9 3 Tryd.keyS Tryd.underlying56 (plainElem Tryd.prog 3) bm k D rfl hM5 (by unfold maxLen; omega) _ _ _ rfl rfl HKN.out _ [] (plainElem_int Tryd.underlying3 HKW.out) ?_; intro w6 hM6 hgrow6))
      have hlen : N + 1 = k + 1 := by rw [HNN.out, HPL.out]
      have HE6 : Hid (NOwn w6 (bm + 1) v4 (parL l (k + 1))) := by
        have h1 := own_chg hown4 (Chg.of_grown hgrow6 (own := fun q => q = bm) (fun q hq => by cases hq; rfl)) fun q hq e => by have := (hown4.lt q hq).1; omega
        unfold Hid NOwn
        rw [HPS.out, numsL_app, List.length_append, ← HNN.out]
        exact h1
      have HM6 : Hid (IdxIs w6 bm (k + 1) l (k + 1)) := ⟨_, hM6, HD2.out, HAT2.out⟩
      have HB6 : Hid (Below w.heap.size w w6) := by
        have h1 := (HBA.out.alloc HBA.out.size (.cells #[.int .i64 (PK : Int)] 3)).grown hgrow4 (by simp; have := HBA.out.size; omega) (fun q hq => by have := (HO.out.lt q hq).1; rw [HBM.out] at this; omega)
        exact h1.grown hgrow6 h1.size (fun q hq => by cases hq; rw [HBM.out]; exact Nat.le_refl _)
      obtain ⟨a4, c4, rfl⟩ := own_slice hown4
      rw [hlen] at HE6 ⊢
      go_roundw
      case rel => exact ⟨k + 1, a4, c4, hlt, by go_num, rfl, HE6, HM6, HB6⟩
      case measure => simp [RowKit.intOf]; omega
    · have hd : decide (k < LN) = false := decide_eq_false hlt
      have hki : ¬ (k : Int) < (LN : Int) := by omega
      have hkl : k = l.length := by rw [← HLN.out]; omega
      have HF : Hid (NOwn wr w.heap.size (Value.slice ra k rc) (parL l l.length)) := by
        have h1 := own_low HO.out (base' := w.heap.size) (by rw [HBM.out]; omega)
        rw [← hkl]; exact h1
      clear hkl hlt hk
      go_wp2_with fail
      go_ret
      exact ⟨_, rfl, HF.out, HB.out⟩
end Go.Proofs.YtbnlmeegepgioaaDoor
