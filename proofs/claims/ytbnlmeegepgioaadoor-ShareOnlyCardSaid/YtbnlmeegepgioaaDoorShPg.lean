/-
  share.Norms: at any accounts.
  share.Sums: at any accounts and numbers.
  share.Parts, share.Factors: at any accounts and numbers.
-/
import Derived.Test.YtbnlmeegepgioaaDoorShRf
import Derived.Test.YtbnlmeegepgioaaDoorShNm
import Derived.Maps.AppendAt
import Derived.Deep.RegionHeld3
import Derived.Deep.AppendLies
import Derived.Test.YtbnlmeegepgioaaDoorClN
import Derived.Test.YtbnlmeegepgioaaDoorNum3
import Derived.Test.YtbnlmeegepgioaaDoorShPl
namespace Go.Proofs.YtbnlmeegepgioaaDoor
set_option linter.unusedVariables false

section
open Go Go.RowKit Go.Lib
theorem zeros_row (n : Nat) : zerosI n = rowI (fun _ => 0) n := by
  unfold zerosI rowI
  apply List.ext_getElem?
  intro i
  rw [List.getElem?_replicate, List.getElem?_map]
  by_cases h : i < n
  · rw [if_pos h, List.getElem?_range h]; rfl
  · rw [if_neg h, List.getElem?_eq_none (by simpa using h)]; rfl
theorem all_one (l : List AcT) (n : Nat) : zerosI n = rowI (fun m => allTo l m 1) n := by
  rw [zeros_row]
  exact rowI_congr fun i _ => by unfold allTo sumN sumN; simp
theorem all_step {l : List AcT} {k n p s : Nat} (h0 : 0 < k) (hp : p = parI l k) (hs : s = shI l k) : (rowI (fun m => allTo l m k) n).set p ((allTo l p k + s : Nat) : Int) = rowI (fun m => allTo l m (k + 1)) n := by
  subst hp; subst hs
  rw [rowI_set]
  refine rowI_congr fun i _ => ?_
  have e : allTo l i (k + 1) = allTo l i k + if 0 < k ∧ parI l k = i then shI l k else 0 := rfl
  rw [e]
  by_cases h : i = parI l k
  · rw [if_pos h, if_pos ⟨h0, h.symm⟩, h]
  · rw [if_neg h, if_neg fun hh => h hh.2.symm]; rfl
theorem all_full (l : List AcT) (n : Nat) : rowI (fun m => allTo l m l.length) n = rowI (allI l) n := rfl
theorem par_row (l : List AcT) (k : Nat) : parL l k = rowI (parI l) k := rfl
set_option maxRecDepth 100000 in
set_option maxHeartbeats 4000000 in
theorem norms_any (v : Value) (l : List AcT) (w : World) (hv : AcRow w v l) (hs : ∀ p ∈ l, Short p.1 ∧ Short p.2.1) (hT : U8W w) (hl : l.length ≤ 1000) :
    Calls Tryd.prog 16 #[v] w fun e w' => ResPost l (zerosI l.length) (normI l) w e w' := by
  obtain ⟨i0, hi, hz0, hz1, hz2⟩ := info_parts Tryd.infoNum
  have CA := Lib.hid (checkAccounts_any v l w hv hs hT)
  have PA : Hid (∀ w1, Below w.heap.size w w1 → Tree l → Calls Tryd.prog 24 #[v] w1 fun e w' => ParPost l w1 e w') := fun w1 hb hA => parentsOf_any v l w1 (hv.kept hb) hs hA
  have PT : Hid (∀ n s a w, n ≤ 9223372036854775807 → s ≤ 9223372036854775807 → a ≤ 9223372036854775807 → n * s / a ≤ 9223372036854775807 →
    Calls Tryd.prog 30 #[.int .i64 (n : Nat), .int .i64 (s : Nat), .int .i64 (a : Nat)] w fun e w' => e = .returned (.int .i64 (n * s / a : Nat)) ∧ Below w.heap.size w w') := part_any
  obtain ⟨va, vc, rfl⟩ := hv.slice
  have HV := Lib.hid hv
  obtain ⟨LN, hLN⟩ : ∃ L, L = l.length := ⟨_, rfl⟩
  rw [← hLN] at CA PA HV hl ⊢
  have HLN := Lib.hid hLN
  clear hv hs hT hLN
  go_enter Tryd.func16, Tryd.ntmps16
  go_wp2_with fail
  refine CA.out.mono ?_; rintro e w1 ⟨er, rfl, he, b1⟩
  have HB1 := Lib.hid b1
  rcases he with ⟨rfl, he⟩ | ⟨rfl, he⟩
  · have HA := Lib.hid (Tree.mk' he)
    have HER : Hid (ShCode l (zerosI l.length) 0) := .inl ⟨rfl, he, zeros_ok l⟩
    clear he b1 CA
    go_wp2_with fail
    refine (PA.out w1 HB1.out HA.out).mono ?_; rintro e w2 ⟨vp, rfl, hvp, b2⟩
    have HB2 := Lib.hid (below_next b2 HB1.out)
    have hn1 : 0 < l.length := HA.out.n1
    obtain ⟨gp, cp, hvpe, hgp1, hgp2, _⟩ := nown_parts hvp (by rw [parL_len]; exact hn1)
    rw [parL_len, ← HLN.out] at hvpe
    subst hvpe
    have hrow : parL l l.length = rowI (parI l) LN := by rw [HLN.out]; rfl
    have HP2 : Hid (NOwn w2 w1.heap.size (.slice (some ⟨gp, 0, none⟩) LN cp) (rowI (parI l) LN)) := by rw [hrow] at hvp; exact hvp
    clear hrow
    clear hvp b2 PA
    go_wp2_with (refine wpList_make_full _ rfl _ _ 23 rfl w2.heap.size 3 i0 _ 1 Tryd.underlying23 hi hz0 hz1 .i64 .i64 LN LN LN rfl rfl rfl rfl (by rw [hz2]; omega) (by unfold maxLen; omega) (by simp) ?_; intro w3 hmk hgr; have HZ3 := Lib.hid (zeros_made hmk); have HB3 : Hid (Below w2.heap.size w2 w3) := (Below.refl _ w2).grown hgr (by simp) (fun j hj => by simp at hj))
    obtain ⟨gs, hgs⟩ : ∃ gs, gs = w2.heap.size := ⟨_, rfl⟩
    rw [← hgs] at HZ3 ⊢
    have HGS := Lib.hid hgs
    have hpg : gp ≠ gs := by rw [hgs]; omega
    have HPG := Lib.hid hpg
    rw [all_one l] at HZ3
    have HGP2 := Lib.hid hgp2
    clear hmk hgr hpg hgs hgp1 hgp2
    go_loopw [7] (fun iv wr => ∃ k : Nat, 1 ≤ k ∧ k ≤ LN ∧ iv = .int .i64 k ∧ Hid (NOwn wr gs (.slice (some ⟨gs, 0, none⟩) LN LN) (rowI (fun m => allTo l m k) LN)) ∧ Hid (Below gs w2 wr)) (fun iv _ => LN - (RowKit.intOf iv).toNat)
    case atStart => exact ⟨1, Nat.le_refl _, by have := HLN.out; omega, rfl, HZ3, by unfold Hid; rw [HGS.out]; exact HB3.out⟩
    case round =>
      obtain ⟨k, hk1, hk, rfl, HO, HB⟩ := hrel
      by_cases hlt : k < LN
      · have hd : decide (k < LN) = true := decide_eq_true hlt
        have hki : (k : Int) < (LN : Int) := by omega
        have hkl : k < l.length := by rw [← HLN.out]; exact hlt
        have HBw2 : Below w2.heap.size w2 wr := by rw [← HGS.out]; exact HB.out
        have c1 := (nown_cell (own_older HP2.out HBw2) (k := k) (by rw [rowI_len]; exact hlt)).1
        rw [rowI_at _ hlt] at c1
        have hp := HA.out.lt k hkl (by omega)
        obtain ⟨c2, f2, _, hgw⟩ := nown_cell HO.out (k := parI l k) (by rw [rowI_len]; omega)
        rw [rowI_at _ (by omega)] at c2
        obtain ⟨bA, oA, hva, _⟩ := rowG_all HV.out hn1
        subst hva
        obtain ⟨k0, k1, k2⟩ := ac_cells HA.out HV.out hkl (below_next HBw2 HB2.out)
        have hsb := HA.out.sh k hkl
        have hab := allTo_le HA.out (parI l k) (k := k) (by omega)
        have hab2 := allTo_le HA.out (parI l k) (k := k + 1) hkl
        have STP := Lib.hid (fun (W : World) (hW : Below wr.heap.size wr W) => nown_store (own_older HO.out hW) (k := parI l k) (by rw [rowI_len]; omega) ((allTo l (parI l k) k + shI l k : Nat) : Int))
        rw [all_step (by omega) rfl rfl] at STP
        obtain ⟨p, hpe⟩ : ∃ p, p = parI l k := ⟨_, rfl⟩
        rw [← hpe] at c1 c2 f2 hp hab hab2 STP
        obtain ⟨A, hAe⟩ : ∃ A, A = allTo l p k := ⟨_, rfl⟩
        rw [← hAe] at c2 hab STP
        obtain ⟨S, hSe⟩ : ∃ S, S = shI l k := ⟨_, rfl⟩
        rw [← hSe] at k2 hsb STP
        have hpi : (p : Int) < (LN : Int) := by omega
        clear hpe hAe hSe k0 k1 hkl HBw2 hab2
        go_wp2_with fail
        go_region
        have HN2 : Hid (NOwn (wr.setCell ⟨gs, p, none⟩ (.int .i64 ((A : Int) + (S : Int)))).drew gs (.slice (some ⟨gs, 0, none⟩) LN LN) (rowI (fun m => allTo l m (k + 1)) LN)) := by
          have h := STP.out wr (Below.refl _ _)
          rw [Int.natCast_add] at h
          exact own_older h (Below.refl _ _).drew
        have HB4 : Hid (Below gs w2 (wr.setCell ⟨gs, p, none⟩ (.int .i64 ((A : Int) + (S : Int)))).drew) := (HB.out.setCell (p := ⟨gs, p, none⟩) (Nat.le_refl gs) _).drew
        clear c1 c2 f2 k2
        go_wp2_with fail
        go_roundw
        case rel => exact ⟨k + 1, by omega, hlt, by go_num, HN2, HB4⟩
        case measure => simp [RowKit.intOf]; omega
      · have hd : decide (k < LN) = false := decide_eq_false hlt
        have hki : ¬ (k : Int) < (LN : Int) := by omega
        have hkl : k = LN := by omega
        have HSR : Hid (NOwn wr gs (.slice (some ⟨gs, 0, none⟩) LN LN) (rowI (allI l) LN)) := by
          have h := HO.out
          rw [hkl, show (fun m => allTo l m LN) = allI l by rw [HLN.out]; rfl] at h
          exact h
        have HBr : Hid (Below w2.heap.size w2 wr) := by unfold Hid; rw [← HGS.out]; exact HB.out
        have hgr : gs < wr.heap.size := (nown_cell HO.out (k := 0) (by rw [rowI_len]; have := HLN.out; omega)).2.2.2
        clear hkl hk hk1 HO HB
        go_wp2_with fail
        have HN1 : Hid (NOwn (wr.alloc (.cells #[.int .i64 65536] 3)) wr.heap.size (.slice (some ⟨wr.heap.size, 0, none⟩) 1 1) (rowI (normI l) 1)) :=
          ⟨rfl, .inr ⟨wr.heap.size, 1, #[.int .i64 65536], rfl, Nat.le_refl _, Blk.new wr _ _, Nat.le_refl _, by unfold maxLen; omega, rfl, rfl⟩⟩
        obtain ⟨wL, hwL⟩ : ∃ wL, wL = wr.alloc (.cells #[.int .i64 65536] 3) := ⟨_, rfl⟩
        have HBL : Hid (Below wr.heap.size wr wL) := by unfold Hid; rw [hwL]; exact (Below.refl _ _).alloc (Nat.le_refl _) _
        obtain ⟨zL, hzL⟩ : ∃ z, z = wr.heap.size := ⟨_, rfl⟩
        rw [← hwL, ← hzL] at HN1
        rw [← hwL, ← hzL]
        have HZL := Lib.hid hzL
        have HSL : Hid (NOwn wL gs (.slice (some ⟨gs, 0, none⟩) LN LN) (rowI (allI l) LN)) := own_older HSR.out HBL.out
        have HB2L : Hid (Below w2.heap.size w2 wL) := below_next HBL.out HBr.out
        have HBW : Hid (Below w.heap.size w wL) := below_next HB2L.out HB2.out
        have HPL : Hid (NOwn wL w1.heap.size (.slice (some ⟨gp, 0, none⟩) LN cp) (rowI (parI l) LN)) := own_older HP2.out HB2L.out
        have HZB : Hid (w.heap.size ≤ zL) := by unfold Hid; rw [hzL]; exact (below_next HBr.out HB2.out).size
        have hzl2 : Hid (zL ≤ wL.heap.size) := by unfold Hid; rw [hzL]; exact HBL.out.size
        have HGSz : Hid (gs < zL) := by unfold Hid; rw [hzL]; exact hgr
        have HGPz : Hid (gp < zL) := by unfold Hid; rw [hzL]; exact Nat.lt_of_lt_of_le HGP2.out HBr.out.size
        clear hwL hzL HSR HBr hgr HP2
        go_loopw [8, 9] (fun nv iv wr => ∃ (k : Nat) (ra : Option Addr) (rc : Nat), 1 ≤ k ∧ k ≤ LN ∧ iv = .int .i64 k ∧ nv = .slice ra k rc ∧ Hid (NOwn wr zL (.slice ra k rc) (rowI (normI l) k)) ∧ Hid (Below zL wL wr)) (fun _ iv _ => LN - (RowKit.intOf iv).toNat)
        case atStart => exact ⟨1, _, _, Nat.le_refl _, by have := HLN.out; omega, rfl, rfl, HN1, (Below.refl _ _)⟩
        case round =>
          obtain ⟨k, ra, rc, hk1, hk, rfl, rfl, HO, HB⟩ := hrel
          by_cases hlt : k < LN
          · have hd : decide (k < LN) = true := decide_eq_true hlt
            have hki : (k : Int) < (LN : Int) := by omega
            have hkl : k < l.length := by rw [← HLN.out]; exact hlt
            obtain ⟨gn, cn, hra, hgn, _, _, _, _⟩ := nown_parts HO.out (by rw [rowI_len]; exact hk1)
            rw [rowI_len] at hra
            injection hra with hra _ hrc
            subst hra; subst hrc
            have c1 := (nown_cell HPL.out (k := k) (by rw [rowI_len]; exact hlt)).1
            rw [rowI_at _ hlt] at c1
            rw [← World.cell?_of_block (a := ⟨gp, k, none⟩) (HB.out.block gp HGPz.out)] at c1
            have hp := HA.out.lt k hkl (by omega)
            have c2 := (nown_cell HO.out (k := parI l k) (by rw [rowI_len]; omega)).1
            rw [rowI_at _ hp] at c2
            have c3 := (nown_cell HSL.out (k := parI l k) (by rw [rowI_len]; omega)).1
            rw [rowI_at _ (by omega)] at c3
            rw [← World.cell?_of_block (a := ⟨gs, parI l k, none⟩) (HB.out.block gs HGSz.out)] at c3
            obtain ⟨bA, oA, hva, _⟩ := rowG_all HV.out hn1
            subst hva
            obtain ⟨k0, k1, k2⟩ := ac_cells HA.out HV.out hkl (HBW.out.trans (HB.out.mono HZB.out))
            have hsb := HA.out.sh k hkl
            have hab := allI_le HA.out (parI l k)
            have hub := normI_le HA.out (parI l k) (parI l k) (Nat.le_refl _) (by omega)
            have hnb := normI_le HA.out k k (Nat.le_refl _) hkl
            have hnq := normI_eq HA.out hkl (by omega)
            have HRS : Hid (rowI (normI l) (k + 1) = rowI (normI l) k ++ [(normI l k : Int)]) := rowI_succ _ _
            obtain ⟨p, hpe⟩ : ∃ p, p = parI l k := ⟨_, rfl⟩
            rw [← hpe] at c1 c2 c3 hp hab hub hnq
            obtain ⟨A, hAe⟩ : ∃ A, A = allI l p := ⟨_, rfl⟩
            rw [← hAe] at c3 hab hnq
            obtain ⟨S, hSe⟩ : ∃ S, S = shI l k := ⟨_, rfl⟩
            rw [← hSe] at k2 hsb hnq
            obtain ⟨U, hUe⟩ : ∃ U, U = normI l p := ⟨_, rfl⟩
            rw [← hUe] at c2 hub hnq
            obtain ⟨X, hXe⟩ : ∃ X, X = normI l k := ⟨_, rfl⟩
            rw [← hXe] at hnb hnq HRS
            have hpi : (p : Int) < (LN : Int) := by omega
            have hpk : (p : Int) < (k : Int) := by omega
            have PK : Hid (∀ w, Calls Tryd.prog 30 #[.int .i64 (U : Nat), .int .i64 (S : Nat), .int .i64 (A : Nat)] w fun e w' => e = .returned (.int .i64 (X : Nat)) ∧ Below w.heap.size w w') := fun w => by
              rw [hnq]; exact PT.out U S A w (by omega) (by omega) (by omega) (by rw [← hnq]; omega)
            have h50 : LN ≤ 50 := by rw [HLN.out]; exact HA.out.n50
            obtain ⟨N, hN⟩ : ∃ N, N = (rowI (normI l) k).length := ⟨_, rfl⟩
            have hNk : N = k := by rw [hN, rowI_len]
            have hN50 : N ≤ 50 := by omega
            have HNN := Lib.hid hN
            have HNK := Lib.hid hNk
            have fin : ∀ (w2 : World), Below wr.heap.size wr w2 → Hid (w2.ownsRow zL 3 1 (.slice (some ⟨gn, 0, none⟩) k rc) N (numsL (rowI (normI l) k))) ∧ Hid (Below zL wL w2) := fun w2 b2 => by
              refine ⟨?_, HB.out.trans (b2.mono (Nat.le_trans hzl2.out HB.out.size))⟩
              unfold Hid; rw [HNN.out]; exact own_older HO.out b2
            have FIN := Lib.hid fin
            have hbA : bA < w.heap.size := by have := World.block_lt_of_cell? w _ (ac_cells HA.out HV.out hkl (Below.refl _ _)).1; exact this
            have hzw : zL ≤ wr.heap.size := Nat.le_trans hzl2.out HB.out.size
            have hnp : some gp ≠ (Value.slice (some ⟨gn, 0, none⟩) k rc).ownBlock := fun e => by have := HGPz.out; simp [Value.ownBlock] at e; omega
            have hns : some gs ≠ (Value.slice (some ⟨gn, 0, none⟩) k rc).ownBlock := fun e => by have := HGSz.out; simp [Value.ownBlock] at e; omega
            have hnb : some bA ≠ (Value.slice (some ⟨gn, 0, none⟩) k rc).ownBlock := fun e => by have := HZB.out; simp [Value.ownBlock] at e; omega
            have HNP := Lib.hid (And.intro hnp (And.intro hns hnb))
            have HLT : Hid (gp < wr.heap.size ∧ gs < wr.heap.size ∧ bA < wr.heap.size) := ⟨Nat.lt_of_lt_of_le HGPz.out hzw, Nat.lt_of_lt_of_le HGSz.out hzw, Nat.lt_of_lt_of_le hbA (Nat.le_trans HZB.out hzw)⟩
            clear hnp hns hnb hbA hzw
            clear fin hpe hAe hSe hUe hXe hN hNk hnq hkl k0 k1 hgn
            go_wp2_with fail
            obtain ⟨W, hW⟩ : ∃ W, W = wr.drew := ⟨_, rfl⟩
            have HBD : Hid (Below wr.heap.size wr wr.drew) := (Below.refl _ _).drew
            clear hW W
            refine wp_region_held_drew (S := (fun w' => w'.cell? ⟨gp, k, none⟩ = some (.int .i64 (p : Nat)) ∧ w'.cell? ⟨bA, oA + k * 3 + 2, none⟩ = some (.int .i64 (S : Nat)) ∧ w'.cell? ⟨gs, p, none⟩ = some (.int .i64 (A : Nat)))) (by kernel_rfl) (by
              first
                | exact ⟨c1, k2, c3⟩
                | exact ⟨cell_next (Below.refl _ _).drew c1, cell_next (Below.refl _ _).drew k2, cell_next (Below.refl _ _).drew c3⟩
              ) (fun hHeld => ?_)
            refine wpAnyH_take (i := 0) (oi := { dst := some 47, op := Op.move (Operand.tmp 8), type := 23, pos := "share.go:73", after := #[], guard := none }) (v := ?_) rfl (by kernel_rfl) (by kernel_rfl) (by kernel_rfl) (fun _ _ _ h => h) (Or.inl ⟨by kernel_rfl, ?_⟩) (by assumption) ?_
            rotate_left
            · (intro w hSw; (try dsimp only at hSw); go_simp; try with_reducible rfl)
            try simp only [Act.put, List.setIfInBounds_toArray, List.set_cons_zero, List.set_cons_succ]
            refine wpAnyH_take (i := 1) (oi := { dst := some 48, op := Op.move (Operand.tmp 8), type := 23, pos := "share.go:73", after := #[], guard := none }) (v := ?_) rfl (by kernel_rfl) (by kernel_rfl) (by kernel_rfl) (fun _ _ _ h => h) (Or.inl ⟨by kernel_rfl, ?_⟩) (by assumption) ?_
            rotate_left
            · (intro w hSw; (try dsimp only at hSw); go_simp; try with_reducible rfl)
            try simp only [Act.put, List.setIfInBounds_toArray, List.set_cons_zero, List.set_cons_succ]
            refine wpAnyH_take (i := 2) (oi := { dst := some 49, op := Op.move (Operand.tmp 5), type := 23, pos := "share.go:73", after := #[], guard := none }) (v := ?_) rfl (by kernel_rfl) (by kernel_rfl) (by kernel_rfl) (fun _ _ _ h => h) (Or.inl ⟨by kernel_rfl, ?_⟩) (by assumption) ?_
            rotate_left
            · (intro w hSw; (try dsimp only at hSw); go_simp; try with_reducible rfl)
            try simp only [Act.put, List.setIfInBounds_toArray, List.set_cons_zero, List.set_cons_succ]
            refine wpAnyH_take (i := 3) (oi := { dst := some 50, op := Op.move (Operand.tmp 9), type := 3, pos := "share.go:73", after := #[], guard := none }) (v := ?_) rfl (by kernel_rfl) (by kernel_rfl) (by kernel_rfl) (fun _ _ _ h => h) (Or.inl ⟨by kernel_rfl, ?_⟩) (by assumption) ?_
            rotate_left
            · (intro w hSw; (try dsimp only at hSw); go_simp; try with_reducible rfl)
            try simp only [Act.put, List.setIfInBounds_toArray, List.set_cons_zero, List.set_cons_succ]
            refine wpAnyH_take (i := 4) (oi := { dst := some 51, op := Op.indexAddr 23 (Operand.tmp 49) (Operand.tmp 50), type := 0, pos := "share.go:73", after := #[{ on := 2, ground := Ground.data }, { on := 3, ground := Ground.data }], guard := none }) (v := ?_) rfl (by kernel_rfl) (by kernel_rfl) (by kernel_rfl) (fun _ _ _ h => h) (Or.inl ⟨by kernel_rfl, ?_⟩) (by assumption) ?_
            rotate_left
            · (intro w hSw; (try dsimp only at hSw); go_simp; try with_reducible rfl)
            try simp only [Act.put, List.setIfInBounds_toArray, List.set_cons_zero, List.set_cons_succ]
            refine wpAnyH_take (i := 5) (oi := { dst := some 52, op := Op.load 3 (Operand.tmp 51), type := 3, pos := "share.go:73", after := #[{ on := 4, ground := Ground.data }], guard := none }) (v := ?_) rfl (by kernel_rfl) (by kernel_rfl) (by kernel_rfl) (fun _ _ _ h => h) (Or.inl ⟨by kernel_rfl, ?_⟩) (by assumption) ?_
            rotate_left
            · (intro w hSw; (try dsimp only at hSw); go_simp; try with_reducible rfl)
            try simp only [Act.put, List.setIfInBounds_toArray, List.set_cons_zero, List.set_cons_succ]
            refine wpAnyH_take (i := 6) (oi := { dst := some 53, op := Op.indexAddr 23 (Operand.tmp 48) (Operand.tmp 52), type := 0, pos := "share.go:73", after := #[{ on := 1, ground := Ground.data }, { on := 5, ground := Ground.data }], guard := none }) (v := ?_) rfl (by kernel_rfl) (by kernel_rfl) (by kernel_rfl) (fun _ _ _ h => h) (Or.inl ⟨by kernel_rfl, ?_⟩) (by assumption) ?_
            rotate_left
            · (intro w hSw; (try dsimp only at hSw); go_simp; try with_reducible rfl)
            try simp only [Act.put, List.setIfInBounds_toArray, List.set_cons_zero, List.set_cons_succ]
            refine wpAnyH_take (i := 8) (oi := { dst := some 55, op := Op.move (Operand.tmp 0), type := 22, pos := "share.go:73", after := #[], guard := none }) (v := ?_) rfl (by kernel_rfl) (by kernel_rfl) (by kernel_rfl) (fun _ _ _ h => h) (Or.inl ⟨by kernel_rfl, ?_⟩) (by assumption) ?_
            rotate_left
            · (intro w hSw; (try dsimp only at hSw); go_simp; try with_reducible rfl)
            try simp only [Act.put, List.setIfInBounds_toArray, List.set_cons_zero, List.set_cons_succ]
            refine wpAnyH_take (i := 9) (oi := { dst := some 56, op := Op.move (Operand.tmp 9), type := 3, pos := "share.go:73", after := #[], guard := none }) (v := ?_) rfl (by kernel_rfl) (by kernel_rfl) (by kernel_rfl) (fun _ _ _ h => h) (Or.inl ⟨by kernel_rfl, ?_⟩) (by assumption) ?_
            rotate_left
            · (intro w hSw; (try dsimp only at hSw); go_simp; try with_reducible rfl)
            try simp only [Act.put, List.setIfInBounds_toArray, List.set_cons_zero, List.set_cons_succ]
            refine wpAnyH_take (i := 10) (oi := { dst := some 57, op := Op.indexAddr 22 (Operand.tmp 55) (Operand.tmp 56), type := 0, pos := "share.go:73", after := #[{ on := 8, ground := Ground.data }, { on := 9, ground := Ground.data }], guard := none }) (v := ?_) rfl (by kernel_rfl) (by kernel_rfl) (by kernel_rfl) (fun _ _ _ h => h) (Or.inl ⟨by kernel_rfl, ?_⟩) (by assumption) ?_
            rotate_left
            · (intro w hSw; (try dsimp only at hSw); go_simp; try with_reducible rfl)
            try simp only [Act.put, List.setIfInBounds_toArray, List.set_cons_zero, List.set_cons_succ]
            refine wpAnyH_take (i := 11) (oi := { dst := some 58, op := Op.fieldAddr 37 (Operand.tmp 57) 2, type := 0, pos := "share.go:73", after := #[{ on := 10, ground := Ground.data }], guard := none }) (v := ?_) rfl (by kernel_rfl) (by kernel_rfl) (by kernel_rfl) (fun _ _ _ h => h) (Or.inl ⟨by kernel_rfl, ?_⟩) (by assumption) ?_
            rotate_left
            · (intro w hSw; (try dsimp only at hSw); go_simp; try with_reducible rfl)
            try simp only [Act.put, List.setIfInBounds_toArray, List.set_cons_zero, List.set_cons_succ]
            refine wpAnyH_take (i := 12) (oi := { dst := some 59, op := Op.load 3 (Operand.tmp 58), type := 3, pos := "share.go:73", after := #[{ on := 11, ground := Ground.data }], guard := none }) (v := ?_) rfl (by kernel_rfl) (by kernel_rfl) (by kernel_rfl) (fun _ _ _ h => h) (Or.inl ⟨by kernel_rfl, ?_⟩) (by assumption) ?_
            rotate_left
            · (intro w hSw; (try dsimp only at hSw); go_simp; try with_reducible rfl)
            try simp only [Act.put, List.setIfInBounds_toArray, List.set_cons_zero, List.set_cons_succ]
            refine wpAnyH_take (i := 13) (oi := { dst := some 60, op := Op.move (Operand.tmp 6), type := 23, pos := "share.go:73", after := #[], guard := none }) (v := ?_) rfl (by kernel_rfl) (by kernel_rfl) (by kernel_rfl) (fun _ _ _ h => h) (Or.inl ⟨by kernel_rfl, ?_⟩) (by assumption) ?_
            rotate_left
            · (intro w hSw; (try dsimp only at hSw); go_simp; try with_reducible rfl)
            try simp only [Act.put, List.setIfInBounds_toArray, List.set_cons_zero, List.set_cons_succ]
            refine wpAnyH_take (i := 14) (oi := { dst := some 61, op := Op.move (Operand.tmp 5), type := 23, pos := "share.go:73", after := #[], guard := none }) (v := ?_) rfl (by kernel_rfl) (by kernel_rfl) (by kernel_rfl) (fun _ _ _ h => h) (Or.inl ⟨by kernel_rfl, ?_⟩) (by assumption) ?_
            rotate_left
            · (intro w hSw; (try dsimp only at hSw); go_simp; try with_reducible rfl)
            try simp only [Act.put, List.setIfInBounds_toArray, List.set_cons_zero, List.set_cons_succ]
            refine wpAnyH_take (i := 15) (oi := { dst := some 62, op := Op.move (Operand.tmp 9), type := 3, pos := "share.go:73", after := #[], guard := none }) (v := ?_) rfl (by kernel_rfl) (by kernel_rfl) (by kernel_rfl) (fun _ _ _ h => h) (Or.inl ⟨by kernel_rfl, ?_⟩) (by assumption) ?_
            rotate_left
            · (intro w hSw; (try dsimp only at hSw); go_simp; try with_reducible rfl)
            try simp only [Act.put, List.setIfInBounds_toArray, List.set_cons_zero, List.set_cons_succ]
            refine wpAnyH_take (i := 16) (oi := { dst := some 63, op := Op.indexAddr 23 (Operand.tmp 61) (Operand.tmp 62), type := 0, pos := "share.go:73", after := #[{ on := 14, ground := Ground.data }, { on := 15, ground := Ground.data }], guard := none }) (v := ?_) rfl (by kernel_rfl) (by kernel_rfl) (by kernel_rfl) (fun _ _ _ h => h) (Or.inl ⟨by kernel_rfl, ?_⟩) (by assumption) ?_
            rotate_left
            · (intro w hSw; (try dsimp only at hSw); go_simp; try with_reducible rfl)
            try simp only [Act.put, List.setIfInBounds_toArray, List.set_cons_zero, List.set_cons_succ]
            refine wpAnyH_take (i := 17) (oi := { dst := some 64, op := Op.load 3 (Operand.tmp 63), type := 3, pos := "share.go:73", after := #[{ on := 16, ground := Ground.data }], guard := none }) (v := ?_) rfl (by kernel_rfl) (by kernel_rfl) (by kernel_rfl) (fun _ _ _ h => h) (Or.inl ⟨by kernel_rfl, ?_⟩) (by assumption) ?_
            rotate_left
            · (intro w hSw; (try dsimp only at hSw); go_simp; try with_reducible rfl)
            try simp only [Act.put, List.setIfInBounds_toArray, List.set_cons_zero, List.set_cons_succ]
            refine wpAnyH_take (i := 18) (oi := { dst := some 65, op := Op.indexAddr 23 (Operand.tmp 60) (Operand.tmp 64), type := 0, pos := "share.go:73", after := #[{ on := 13, ground := Ground.data }, { on := 17, ground := Ground.data }], guard := none }) (v := ?_) rfl (by kernel_rfl) (by kernel_rfl) (by kernel_rfl) (fun _ _ _ h => h) (Or.inl ⟨by kernel_rfl, ?_⟩) (by assumption) ?_
            rotate_left
            · (intro w hSw; (try dsimp only at hSw); go_simp; try with_reducible rfl)
            try simp only [Act.put, List.setIfInBounds_toArray, List.set_cons_zero, List.set_cons_succ]
            refine wpAnyH_take (i := 19) (oi := { dst := some 66, op := Op.load 3 (Operand.tmp 65), type := 3, pos := "share.go:73", after := #[{ on := 18, ground := Ground.data }], guard := none }) (v := ?_) rfl (by kernel_rfl) (by kernel_rfl) (by kernel_rfl) (fun _ _ _ h => h) (Or.inl ⟨by kernel_rfl, ?_⟩) (by assumption) ?_
            rotate_left
            · (intro w hSw; (try dsimp only at hSw); go_simp; try with_reducible rfl)
            try simp only [Act.put, List.setIfInBounds_toArray, List.set_cons_zero, List.set_cons_succ]
            refine wpAnyH_ready (rs := [7]) (by kernel_rfl) (by simp) ?_
            refine AllReadyH.cons (o := { dst := some 54, op := Op.load 3 (Operand.tmp 53), type := 3, pos := "share.go:73", after := #[{ on := 6, ground := Ground.data }], guard := none }) rfl (fun K hK => ?_) AllReadyH.nil
            go_simp
            refine hK.out _ _ ?_ (fun hHeld => ?_)
            · first
                | exact hHeld
                | (obtain ⟨g0, g1, g2⟩ := hHeld; exact ⟨cell_next b2 g0, cell_next b2 g1, cell_next b2 g2⟩)
                | (obtain ⟨g0, g1, g2⟩ := hHeld; exact ⟨Lib.cell?_alloc_some _ g0, Lib.cell?_alloc_some _ g1, Lib.cell?_alloc_some _ g2⟩)
                | (obtain ⟨g0, g1, g2⟩ := hHeld; exact ⟨(World.cell?_of_block (a := ⟨gp, k, none⟩) (hgrow4.block gp (hsz.out.1) HNP.out.1)).trans g0, (World.cell?_of_block (a := ⟨bA, oA + k * 3 + 2, none⟩) (hgrow4.block bA (hsz.out.2.2) HNP.out.2.2)).trans g1, (World.cell?_of_block (a := ⟨gs, p, none⟩) (hgrow4.block gs (hsz.out.2.1) HNP.out.2.1)).trans g2⟩)
            clear hK K
            try simp only [Act.put, List.setIfInBounds_toArray, List.set_cons_zero, List.set_cons_succ]
            refine wpAnyH_ready (rs := [20]) (by kernel_rfl) (by simp) ?_
            refine AllReadyH.cons (o := { dst := some 67, op := Op.call { callee := Callee.value (Operand.func 30), args := #[Operand.tmp 54, Operand.tmp 59, Operand.tmp 66], argTypes := #[3, 3, 3] }, type := 3, pos := "share.go:73", after := #[{ on := 7, ground := Ground.data }, { on := 12, ground := Ground.data }, { on := 19, ground := Ground.data }], guard := none }) rfl (fun K hK => ?_) AllReadyH.nil
            (go_simp; go_at_call 30; (with_reducible refine (PK.out _).mono ?_); rintro e w2 ⟨rfl, b2⟩; go_simp)
            refine hK.out _ _ ?_ (fun hHeld => ?_)
            · first
                | exact hHeld
                | (obtain ⟨g0, g1, g2⟩ := hHeld; exact ⟨cell_next b2 g0, cell_next b2 g1, cell_next b2 g2⟩)
                | (obtain ⟨g0, g1, g2⟩ := hHeld; exact ⟨Lib.cell?_alloc_some _ g0, Lib.cell?_alloc_some _ g1, Lib.cell?_alloc_some _ g2⟩)
                | (obtain ⟨g0, g1, g2⟩ := hHeld; exact ⟨(World.cell?_of_block (a := ⟨gp, k, none⟩) (hgrow4.block gp (hsz.out.1) HNP.out.1)).trans g0, (World.cell?_of_block (a := ⟨bA, oA + k * 3 + 2, none⟩) (hgrow4.block bA (hsz.out.2.2) HNP.out.2.2)).trans g1, (World.cell?_of_block (a := ⟨gs, p, none⟩) (hgrow4.block gs (hsz.out.2.1) HNP.out.2.1)).trans g2⟩)
            clear hK K
            try simp only [Act.put, List.setIfInBounds_toArray, List.set_cons_zero, List.set_cons_succ]
            obtain ⟨HO2, B2⟩ := FIN.out w2 (below_next b2 HBD.out)
            have hsz : Hid (gp < (w2.alloc (.cells #[.int .i64 (X : Int)] 3)).heap.size ∧ gs < (w2.alloc (.cells #[.int .i64 (X : Int)] 3)).heap.size ∧ bA < (w2.alloc (.cells #[.int .i64 (X : Int)] 3)).heap.size) := by
              have h1 := (below_next b2 HBD.out).size
              have h2 : (w2.alloc (.cells #[.int .i64 (X : Int)] 3)).heap.size = w2.heap.size + 1 := by simp
              obtain ⟨q1, q2, q3⟩ := HLT.out
              unfold Hid; rw [h2]
              exact ⟨by omega, by omega, by omega⟩
            refine wpAnyH_ready (rs := [21]) (by kernel_rfl) (by simp) ?_
            refine AllReadyH.cons (o := { dst := some 68, op := Op.buildSlice 23 1 #[(0, Operand.tmp 67)], type := 23, pos := "share.go:73", after := #[{ on := 20, ground := Ground.data }], guard := none }) rfl (fun K hK => ?_) AllReadyH.nil
            go_simp
            refine hK.out _ _ ?_ (fun hHeld => ?_)
            · first
                | exact hHeld
                | (obtain ⟨g0, g1, g2⟩ := hHeld; exact ⟨cell_next b2 g0, cell_next b2 g1, cell_next b2 g2⟩)
                | (obtain ⟨g0, g1, g2⟩ := hHeld; exact ⟨Lib.cell?_alloc_some _ g0, Lib.cell?_alloc_some _ g1, Lib.cell?_alloc_some _ g2⟩)
                | (obtain ⟨g0, g1, g2⟩ := hHeld; exact ⟨(World.cell?_of_block (a := ⟨gp, k, none⟩) (hgrow4.block gp (hsz.out.1) HNP.out.1)).trans g0, (World.cell?_of_block (a := ⟨bA, oA + k * 3 + 2, none⟩) (hgrow4.block bA (hsz.out.2.2) HNP.out.2.2)).trans g1, (World.cell?_of_block (a := ⟨gs, p, none⟩) (hgrow4.block gs (hsz.out.2.1) HNP.out.2.1)).trans g2⟩)
            clear hK K
            try simp only [Act.put, List.setIfInBounds_toArray, List.set_cons_zero, List.set_cons_succ]
            refine wpAnyH_ready (rs := [22]) (by kernel_rfl) (by simp) ?_
            refine AllReadyH.cons (o := { dst := some 69, op := Op.call { callee := Callee.builtin Builtin.append, args := #[Operand.tmp 47, Operand.tmp 68], argTypes := #[23, 23] }, type := 23, pos := "share.go:73", after := #[{ on := 0, ground := Ground.data }, { on := 21, ground := Ground.data }, { on := 20, ground := Ground.chain }], guard := none }) rfl (fun K hK => ?_) AllReadyH.nil
            (refine step_append_lies _ (by rfl) _ _ 23 (by rfl) zL 3 i0 _ 1 8 Tryd.underlying23 hi hz0 hz1 hz2 rfl (by decide) (.slice (some ⟨gn, 0, none⟩) k rc) N _ (by rfl) (World.ownsRow.alloc HO2.out _) ⟨w2.heap.size, 0, none⟩ 1 1 [.int .i64 (X : Int)] (by rfl) (by rfl) (news_alloc _ [.int .i64 (X : Int)] _) (by simp [Value.oneCell']) (by decide) (by unfold maxLen; omega) (by omega) (by have := B2.out.size; have := hzl2.out; simp; omega) (w2.heap.size + 1) (by simp) ?_; intro g4 cap4 w5 hown4 hgrow4 hlies4 _)
            refine hK.out _ _ ?_ (fun hHeld => ?_)
            · first
                | exact hHeld
                | (obtain ⟨g0, g1, g2⟩ := hHeld; exact ⟨cell_next b2 g0, cell_next b2 g1, cell_next b2 g2⟩)
                | (obtain ⟨g0, g1, g2⟩ := hHeld; exact ⟨Lib.cell?_alloc_some _ g0, Lib.cell?_alloc_some _ g1, Lib.cell?_alloc_some _ g2⟩)
                | (obtain ⟨g0, g1, g2⟩ := hHeld; exact ⟨(World.cell?_of_block (a := ⟨gp, k, none⟩) (hgrow4.block gp (hsz.out.1) HNP.out.1)).trans g0, (World.cell?_of_block (a := ⟨bA, oA + k * 3 + 2, none⟩) (hgrow4.block bA (hsz.out.2.2) HNP.out.2.2)).trans g1, (World.cell?_of_block (a := ⟨gs, p, none⟩) (hgrow4.block gs (hsz.out.2.1) HNP.out.2.1)).trans g2⟩)
            clear hK K
            try simp only [Act.put, List.setIfInBounds_toArray, List.set_cons_zero, List.set_cons_succ]
            refine wpAnyH_take (i := 23) (oi := { dst := some 8, op := Op.assign (Operand.tmp 69), type := 23, pos := "share.go:73", after := #[{ on := 22, ground := Ground.data }, { on := 22, ground := Ground.chain }, { on := 0, ground := Ground.phase }, { on := 1, ground := Ground.phase }, { on := 2, ground := Ground.phase }, { on := 3, ground := Ground.phase }, { on := 4, ground := Ground.phase }, { on := 5, ground := Ground.phase }, { on := 6, ground := Ground.phase }, { on := 7, ground := Ground.phase }, { on := 8, ground := Ground.phase }, { on := 9, ground := Ground.phase }, { on := 10, ground := Ground.phase }, { on := 11, ground := Ground.phase }, { on := 12, ground := Ground.phase }, { on := 13, ground := Ground.phase }, { on := 14, ground := Ground.phase }, { on := 15, ground := Ground.phase }, { on := 16, ground := Ground.phase }, { on := 17, ground := Ground.phase }, { on := 18, ground := Ground.phase }, { on := 19, ground := Ground.phase }, { on := 20, ground := Ground.phase }, { on := 21, ground := Ground.phase }, { on := 22, ground := Ground.phase }], guard := none }) (v := ?_) rfl (by kernel_rfl) (by kernel_rfl) (by kernel_rfl) (fun _ _ _ h => h) (Or.inl ⟨by kernel_rfl, ?_⟩) (by assumption) ?_
            rotate_left
            · (intro w hSw; (try dsimp only at hSw); go_simp; try with_reducible rfl)
            try simp only [Act.put, List.setIfInBounds_toArray, List.set_cons_zero, List.set_cons_succ]
            refine wpAnyH_done (by kernel_rfl) ?_ _
            have HE6 : Hid (NOwn w5 zL (.slice (some ⟨g4, 0, none⟩) (N + 1) cap4) (rowI (normI l) (k + 1))) := by
              unfold Hid NOwn
              rw [HRS.out, numsL_app, List.length_append, ← HNN.out]
              exact hown4
            have HB6 : Hid (Below zL wL w5) := (B2.out.alloc (Nat.le_trans hzl2.out B2.out.size) (.cells #[.int .i64 (X : Int)] 3)).grown hgrow4 (by simp; have := B2.out.size; have := hzl2.out; omega) (fun q hq => (HO.out.lt q hq).1)
            go_wp2_with fail
            rw [HNK.out] at HE6 ⊢
            go_roundw
            case rel => exact ⟨k + 1, _, cap4, by omega, hlt, by go_num, rfl, HE6, HB6⟩
            case measure => simp [RowKit.intOf]; omega
          · have hd : decide (k < LN) = false := decide_eq_false hlt
            have hki : ¬ (k : Int) < (LN : Int) := by omega
            have HR : Hid (NOwn wr w.heap.size (.slice ra k rc) (rowI (normI l) l.length)) := by
              have hkl : k = l.length := by rw [← HLN.out]; omega
              unfold Hid; rw [← hkl]; exact own_low HO.out HZB.out
            have HBF : Hid (Below w.heap.size w wr) := HBW.out.trans (HB.out.mono HZB.out)
            have hz : zerosI LN = zerosI l.length := by rw [HLN.out]
            clear hlt hk hk1
            go_wp2_with fail
            go_ret2
            exact ⟨0, _, _, rfl, by first | exact HER.out | (rw [hz]; exact HER.out), .inl ⟨rfl, rfl⟩, HR.out, HBF.out⟩
  · have HA : Hid (ShCode l (zerosI LN) 100) := .inr (.inl ⟨rfl, he⟩)
    clear he b1 CA PA PT
    go_wp2_with fail
    go_ret2
    exact ⟨100, _, [], rfl, HA.out, .inr ⟨by decide, rfl⟩, NOwn.none _ _, HB1.out⟩
end

section
open Go Go.RowKit Go.Lib
theorem sum_two {a b : Nat} (ha : a ≤ 9223372036854775807) (hb : b ≤ 9223372036854775807) : sumEnd [(a : Int), (b : Int)] = (capN (a + b) : Nat) := by
  unfold sumEnd
  simp only [List.foldl_cons, List.foldl_nil]
  have e1 : endV (0 + (a : Int)) = (a : Int) := by unfold endV; first | omega | (split <;> omega)
  rw [e1]
  unfold endV capN
  first | omega | (split <;> omega)
theorem sum_pair (g a b : Nat) (w : World) (ha : a ≤ 9223372036854775807) (hb : b ≤ 9223372036854775807) (h0 : w.cell? ⟨g, 0, none⟩ = some (.int .i64 (a : Nat))) (h1 : w.cell? ⟨g, 1, none⟩ = some (.int .i64 (b : Nat))) :
    Calls Tryd.prog 26 #[.slice (some ⟨g, 0, none⟩) 2 2] w fun e w' => e = .returned (.int .i64 (capN (a + b) : Nat)) ∧ w' = w := by
  have h := sum_row g 0 2 [(a : Int), (b : Int)] w (by simp) (fun z hz => by
    simp only [List.mem_cons, List.not_mem_nil, or_false] at hz
    rcases hz with rfl | rfl <;> (unfold I64; omega)) (fun k hk => by
    have : k = 0 ∨ k = 1 := by simp at hk; omega
    rcases this with rfl | rfl
    · exact h0
    · exact h1)
  rw [sum_two ha hb] at h
  exact h
theorem beh_store {l : List AcT} (h : Tree l) (own : Nat → Nat) {j : Nat} (h0 : 0 < j) (hj : j < l.length) :
    (rowI (fun m => capN (behI l own j m)) l.length).set (parI l j) ((capN (capN (behI l own j (parI l j)) + capN (behI l own j j)) : Nat) : Int) = rowI (fun m => capN (behI l own (j - 1) m)) l.length := by
  rw [rowI_set]
  refine rowI_congr fun i hi => ?_
  have hn := behI_next (l := l) own (j := j - 1) (m := i) (by omega)
  rw [show j - 1 + 1 = j by omega] at hn
  rw [behI_own h own (Nat.le_refl j) hj]
  by_cases e : i = parI l j
  · rw [if_pos e, hn, if_pos e.symm, cap_add, e]
  · rw [if_neg e, hn, if_neg fun hh => e hh.symm, Nat.add_zero]
theorem beh_start {l : List AcT} {own : List Int} (hO : OwnOk l own) (hB : ∀ x ∈ own, x ≤ 9223372036854775807) (hn : 1 ≤ l.length) : own = rowI (fun m => capN (behI l (ownN own) (l.length - 1) m)) l.length := by
  apply List.ext_getElem?
  intro i
  rw [rowI_get]
  by_cases h : i < l.length
  · have hi : i < own.length := by rw [hO.1]; exact h
    rw [if_pos h, behI_last l (ownN own) i (by omega), List.getElem?_eq_getElem hi]
    have h1 := hO.2 _ (List.getElem_mem hi)
    have h2 := hB _ (List.getElem_mem hi)
    have e : ownN own i = own[i].toNat := by unfold ownN; rw [List.getD_eq_getElem?_getD, List.getElem?_eq_getElem hi]; rfl
    have e2 : ((capN (ownN own i) : Nat) : Int) = own[i] := by unfold capN; rw [e]; omega
    rw [e2]
  · rw [if_neg h, List.getElem?_eq_none (by rw [hO.1]; omega)]
theorem beh_end {l : List AcT} (h : Tree l) (own : Nat → Nat) : rowI (fun m => capN (behI l own 0 m)) l.length = rowI (sumI l own) l.length :=
  rowI_congr fun i hi => by rw [behI_own h own (Nat.zero_le i) hi]; rfl
set_option maxRecDepth 100000 in
set_option maxHeartbeats 4000000 in
theorem sums_any (v vo : Value) (l : List AcT) (own : List Int) (w : World) (hv : AcRow w v l) (hs : ∀ p ∈ l, Short p.1 ∧ Short p.2.1) (hT : U8W w) (ho : GRow w vo own) (hn : own.length ≤ 1048576) (hB : ∀ x ∈ own, x ≤ 9223372036854775807) :
    Calls Tryd.prog 13 #[v, vo] w fun e w' => ResPost l own (sumI l (ownN own)) w e w' := by
  have CK := Lib.hid (shCheck_any v vo l own w hv hs hT ho hn)
  have PA : Hid (∀ w1, Below w.heap.size w w1 → Tree l → Calls Tryd.prog 24 #[v] w1 fun e w' => ParPost l w1 e w') := fun w1 hb hA => parentsOf_any v l w1 (hv.kept hb) hs hA
  have CL : Hid (∀ w1, Below w.heap.size w w1 → Calls Tryd.prog 25 #[vo] w1 fun e w' => ∃ v', e = .returned v' ∧ NOwn w' w1.heap.size v' own ∧ Below w1.heap.size w1 w') := fun w1 hb => cloneG_any vo own w1 (by omega) (ho.kept hb)
  obtain ⟨va, vc, rfl⟩ := hv.slice
  obtain ⟨oa, oc, rfl⟩ := ho.slice
  have HBO := Lib.hid hB
  obtain ⟨LN, hLN⟩ : ∃ L, L = l.length := ⟨_, rfl⟩
  obtain ⟨LO, hLO⟩ : ∃ L, L = own.length := ⟨_, rfl⟩
  rw [← hLN, ← hLO] at CK ⊢
  rw [← hLO] at CL
  rw [← hLN] at PA
  have HLN := Lib.hid hLN
  clear hv hs hT ho hn hB hLN hLO
  go_enter Tryd.func13, Tryd.ntmps13
  go_wp2_with fail
  refine CK.out.mono ?_; rintro e w1 ⟨er, rfl, he, b1⟩
  have HB1 := Lib.hid b1
  have HER : Hid (ShCode l own er) := he
  clear he b1 CK
  by_cases h0 : er = 0
  · subst h0
    obtain ⟨hA, hO⟩ : AccOk l ∧ OwnOk l own := by
      rcases HER.out with ⟨_, h1, h2⟩ | ⟨h, _⟩ | ⟨h, _⟩
      · exact ⟨h1, h2⟩
      · cases h
      · cases h
    have HA := Lib.hid (Tree.mk' hA)
    have h50 : LN ≤ 50 := by rw [HLN.out]; exact hA.2.1
    have h1n : 1 ≤ LN := by rw [HLN.out]; exact hA.1
    have HST := Lib.hid (beh_start hO HBO.out hA.1)
    clear hA hO
    go_wp2_with fail
    refine (PA.out w1 HB1.out HA.out).mono ?_; rintro e w2 ⟨vp, rfl, hvp, b2⟩
    have HB2 := Lib.hid (below_next b2 HB1.out)
    obtain ⟨gp, cp, hvpe, hgp1, hgp2, _⟩ := nown_parts hvp (by rw [parL_len, ← HLN.out]; exact h1n)
    rw [parL_len, ← HLN.out] at hvpe
    subst hvpe
    have hrow : parL l l.length = rowI (parI l) LN := by rw [HLN.out]; rfl
    have HP2 : Hid (NOwn w2 w1.heap.size (.slice (some ⟨gp, 0, none⟩) LN cp) (rowI (parI l) LN)) := by rw [hrow] at hvp; exact hvp
    have HGP2 := Lib.hid hgp2
    clear hrow hvp b2 PA hgp1 hgp2
    go_wp2_with fail
    refine (CL.out w2 HB2.out).mono ?_; rintro e w3 ⟨vs, rfl, hvs, b3⟩
    rw [HST.out] at hvs
    rw [← HLN.out] at hvs
    obtain ⟨gs, cs, hvse, hgs1, hgs2, _⟩ := nown_parts hvs (by rw [rowI_len]; exact h1n)
    rw [rowI_len] at hvse
    subst hvse
    have HS3 : Hid (NOwn w3 w2.heap.size (.slice (some ⟨gs, 0, none⟩) LN cs) (rowI (fun m => capN (behI l (ownN own) (LN - 1) m)) LN)) := hvs
    have HB3 : Hid (Below w2.heap.size w2 w3) := b3
    have hpg : gp ≠ gs := by have := HGP2.out; omega
    have HPG := Lib.hid hpg
    have HGS := Lib.hid hgs1
    clear hvs b3 hgs1 hgs2 hpg CL HST
    go_wp2_with fail
    go_loopw [9] (fun iv wr => ∃ j : Nat, j < LN ∧ iv = .int .i64 j ∧ Hid (NOwn wr w2.heap.size (.slice (some ⟨gs, 0, none⟩) LN cs) (rowI (fun m => capN (behI l (ownN own) j m)) LN)) ∧ Hid (Below w2.heap.size w2 wr)) (fun iv _ => (RowKit.intOf iv).toNat)
    case atStart => exact ⟨LN - 1, by omega, by go_num, HS3, HB3⟩
    case round =>
      obtain ⟨j, hj, rfl, HO, HB⟩ := hrel
      by_cases h0 : 0 < j
      · have hd : decide (0 < j) = true := decide_eq_true h0
        have hji : (0 : Int) < (j : Int) := by omega
        have hjn : (j : Int) < (LN : Int) := by omega
        have hjl : j < l.length := by rw [← HLN.out]; exact hj
        have c1 := (nown_cell (own_older HP2.out HB.out) (k := j) (by rw [rowI_len]; exact hj)).1
        rw [rowI_at _ hj] at c1
        have hp := HA.out.lt j hjl h0
        obtain ⟨c2, f2, _, hgw⟩ := nown_cell HO.out (k := parI l j) (by rw [rowI_len]; omega)
        rw [rowI_at _ (by omega)] at c2
        have c3 := (nown_cell HO.out (k := j) (by rw [rowI_len]; omega)).1
        rw [rowI_at _ hj] at c3
        have STP := Lib.hid (fun (W : World) (hW : Below wr.heap.size wr W) => nown_store (own_older HO.out hW) (k := parI l j) (by rw [rowI_len]; omega) ((capN (capN (behI l (ownN own) j (parI l j)) + capN (behI l (ownN own) j j)) : Nat) : Int))
        have HSE := beh_store HA.out (ownN own) h0 hjl
        rw [← HLN.out] at HSE
        rw [HSE] at STP
        clear HSE
        obtain ⟨p, hpe⟩ : ∃ p, p = parI l j := ⟨_, rfl⟩
        rw [← hpe] at c1 c2 f2 hp STP
        have hA9 : capN (behI l (ownN own) j p) ≤ 9223372036854775807 := cap_le _
        have hB9 : capN (behI l (ownN own) j j) ≤ 9223372036854775807 := cap_le _
        obtain ⟨A, hAe⟩ : ∃ A, A = capN (behI l (ownN own) j p) := ⟨_, rfl⟩
        rw [← hAe] at c2 STP hA9
        obtain ⟨B, hBe⟩ : ∃ B, B = capN (behI l (ownN own) j j) := ⟨_, rfl⟩
        rw [← hBe] at c3 STP hB9
        have SUM : Hid (∀ (g : Nat) (w : World), w.cell? ⟨g, 0, none⟩ = some (.int .i64 (A : Nat)) → w.cell? ⟨g, 1, none⟩ = some (.int .i64 (B : Nat)) →
          Calls Tryd.prog 26 #[.slice (some ⟨g, 0, none⟩) 2 2] w fun e w' => e = .returned (.int .i64 (capN (A + B) : Nat)) ∧ w' = w) := fun g w => sum_pair g A B w hA9 hB9
        have hpi : (p : Int) < (LN : Int) := by omega
        have HNE : Hid ((⟨gs, j, none⟩ : Addr) ≠ ⟨gs, p, none⟩) := fun e => by injection e with _ e; omega
        obtain ⟨X, hX⟩ : ∃ X, X = capN (A + B) := ⟨_, rfl⟩
        rw [← hX] at STP SUM
        clear hpe hAe hBe hX hA9 hB9 hjl
        go_wp2_with fail
        refine wp_region_held_drew (S := (fun w' => w'.cell? ⟨gp, j, none⟩ = some (.int .i64 (p : Nat)) ∧ w'.cell? ⟨gs, j, none⟩ = some (.int .i64 (B : Nat)))) (by kernel_rfl) (by
          first
            | exact ⟨c1, c3⟩
            | exact ⟨cell_next (Below.refl _ _).drew c1, cell_next (Below.refl _ _).drew c3⟩
          ) (fun hHeld => ?_)
        refine wpAnyH_take (i := 0) (oi := { dst := some 27, op := Op.move (Operand.tmp 8), type := 23, pos := "share.go:21", after := #[], guard := none }) (v := ?_) rfl (by kernel_rfl) (by kernel_rfl) (by kernel_rfl) (fun _ _ _ h => h) (Or.inl ⟨by kernel_rfl, ?_⟩) (by assumption) ?_
        rotate_left
        · (intro w hSw; (try dsimp only at hSw); go_simp; try with_reducible rfl)
        try simp only [Act.put, List.setIfInBounds_toArray, List.set_cons_zero, List.set_cons_succ]
        refine wpAnyH_take (i := 1) (oi := { dst := some 28, op := Op.move (Operand.tmp 7), type := 23, pos := "share.go:21", after := #[], guard := none }) (v := ?_) rfl (by kernel_rfl) (by kernel_rfl) (by kernel_rfl) (fun _ _ _ h => h) (Or.inl ⟨by kernel_rfl, ?_⟩) (by assumption) ?_
        rotate_left
        · (intro w hSw; (try dsimp only at hSw); go_simp; try with_reducible rfl)
        try simp only [Act.put, List.setIfInBounds_toArray, List.set_cons_zero, List.set_cons_succ]
        refine wpAnyH_take (i := 2) (oi := { dst := some 29, op := Op.move (Operand.tmp 9), type := 3, pos := "share.go:21", after := #[], guard := none }) (v := ?_) rfl (by kernel_rfl) (by kernel_rfl) (by kernel_rfl) (fun _ _ _ h => h) (Or.inl ⟨by kernel_rfl, ?_⟩) (by assumption) ?_
        rotate_left
        · (intro w hSw; (try dsimp only at hSw); go_simp; try with_reducible rfl)
        try simp only [Act.put, List.setIfInBounds_toArray, List.set_cons_zero, List.set_cons_succ]
        refine wpAnyH_take (i := 3) (oi := { dst := some 30, op := Op.indexAddr 23 (Operand.tmp 28) (Operand.tmp 29), type := 0, pos := "share.go:21", after := #[{ on := 1, ground := Ground.data }, { on := 2, ground := Ground.data }], guard := none }) (v := ?_) rfl (by kernel_rfl) (by kernel_rfl) (by kernel_rfl) (fun _ _ _ h => h) (Or.inl ⟨by kernel_rfl, ?_⟩) (by assumption) ?_
        rotate_left
        · (intro w hSw; (try dsimp only at hSw); go_simp; try with_reducible rfl)
        try simp only [Act.put, List.setIfInBounds_toArray, List.set_cons_zero, List.set_cons_succ]
        refine wpAnyH_take (i := 4) (oi := { dst := some 31, op := Op.load 3 (Operand.tmp 30), type := 3, pos := "share.go:21", after := #[{ on := 3, ground := Ground.data }], guard := none }) (v := ?_) rfl (by kernel_rfl) (by kernel_rfl) (by kernel_rfl) (fun _ _ _ h => h) (Or.inl ⟨by kernel_rfl, ?_⟩) (by assumption) ?_
        rotate_left
        · (intro w hSw; (try dsimp only at hSw); go_simp; try with_reducible rfl)
        try simp only [Act.put, List.setIfInBounds_toArray, List.set_cons_zero, List.set_cons_succ]
        refine wpAnyH_take (i := 5) (oi := { dst := some 32, op := Op.move (Operand.tmp 8), type := 23, pos := "share.go:21", after := #[], guard := none }) (v := ?_) rfl (by kernel_rfl) (by kernel_rfl) (by kernel_rfl) (fun _ _ _ h => h) (Or.inl ⟨by kernel_rfl, ?_⟩) (by assumption) ?_
        rotate_left
        · (intro w hSw; (try dsimp only at hSw); go_simp; try with_reducible rfl)
        try simp only [Act.put, List.setIfInBounds_toArray, List.set_cons_zero, List.set_cons_succ]
        refine wpAnyH_take (i := 6) (oi := { dst := some 33, op := Op.move (Operand.tmp 7), type := 23, pos := "share.go:21", after := #[], guard := none }) (v := ?_) rfl (by kernel_rfl) (by kernel_rfl) (by kernel_rfl) (fun _ _ _ h => h) (Or.inl ⟨by kernel_rfl, ?_⟩) (by assumption) ?_
        rotate_left
        · (intro w hSw; (try dsimp only at hSw); go_simp; try with_reducible rfl)
        try simp only [Act.put, List.setIfInBounds_toArray, List.set_cons_zero, List.set_cons_succ]
        refine wpAnyH_take (i := 7) (oi := { dst := some 34, op := Op.move (Operand.tmp 9), type := 3, pos := "share.go:21", after := #[], guard := none }) (v := ?_) rfl (by kernel_rfl) (by kernel_rfl) (by kernel_rfl) (fun _ _ _ h => h) (Or.inl ⟨by kernel_rfl, ?_⟩) (by assumption) ?_
        rotate_left
        · (intro w hSw; (try dsimp only at hSw); go_simp; try with_reducible rfl)
        try simp only [Act.put, List.setIfInBounds_toArray, List.set_cons_zero, List.set_cons_succ]
        refine wpAnyH_take (i := 8) (oi := { dst := some 35, op := Op.indexAddr 23 (Operand.tmp 33) (Operand.tmp 34), type := 0, pos := "share.go:21", after := #[{ on := 6, ground := Ground.data }, { on := 7, ground := Ground.data }], guard := none }) (v := ?_) rfl (by kernel_rfl) (by kernel_rfl) (by kernel_rfl) (fun _ _ _ h => h) (Or.inl ⟨by kernel_rfl, ?_⟩) (by assumption) ?_
        rotate_left
        · (intro w hSw; (try dsimp only at hSw); go_simp; try with_reducible rfl)
        try simp only [Act.put, List.setIfInBounds_toArray, List.set_cons_zero, List.set_cons_succ]
        refine wpAnyH_take (i := 9) (oi := { dst := some 36, op := Op.load 3 (Operand.tmp 35), type := 3, pos := "share.go:21", after := #[{ on := 8, ground := Ground.data }], guard := none }) (v := ?_) rfl (by kernel_rfl) (by kernel_rfl) (by kernel_rfl) (fun _ _ _ h => h) (Or.inl ⟨by kernel_rfl, ?_⟩) (by assumption) ?_
        rotate_left
        · (intro w hSw; (try dsimp only at hSw); go_simp; try with_reducible rfl)
        try simp only [Act.put, List.setIfInBounds_toArray, List.set_cons_zero, List.set_cons_succ]
        refine wpAnyH_take (i := 10) (oi := { dst := some 37, op := Op.indexAddr 23 (Operand.tmp 32) (Operand.tmp 36), type := 0, pos := "share.go:21", after := #[{ on := 5, ground := Ground.data }, { on := 9, ground := Ground.data }], guard := none }) (v := ?_) rfl (by kernel_rfl) (by kernel_rfl) (by kernel_rfl) (fun _ _ _ h => h) (Or.inl ⟨by kernel_rfl, ?_⟩) (by assumption) ?_
        rotate_left
        · (intro w hSw; (try dsimp only at hSw); go_simp; try with_reducible rfl)
        try simp only [Act.put, List.setIfInBounds_toArray, List.set_cons_zero, List.set_cons_succ]
        refine wpAnyH_take (i := 12) (oi := { dst := some 39, op := Op.move (Operand.tmp 8), type := 23, pos := "share.go:21", after := #[], guard := none }) (v := ?_) rfl (by kernel_rfl) (by kernel_rfl) (by kernel_rfl) (fun _ _ _ h => h) (Or.inl ⟨by kernel_rfl, ?_⟩) (by assumption) ?_
        rotate_left
        · (intro w hSw; (try dsimp only at hSw); go_simp; try with_reducible rfl)
        try simp only [Act.put, List.setIfInBounds_toArray, List.set_cons_zero, List.set_cons_succ]
        refine wpAnyH_take (i := 13) (oi := { dst := some 40, op := Op.move (Operand.tmp 9), type := 3, pos := "share.go:21", after := #[], guard := none }) (v := ?_) rfl (by kernel_rfl) (by kernel_rfl) (by kernel_rfl) (fun _ _ _ h => h) (Or.inl ⟨by kernel_rfl, ?_⟩) (by assumption) ?_
        rotate_left
        · (intro w hSw; (try dsimp only at hSw); go_simp; try with_reducible rfl)
        try simp only [Act.put, List.setIfInBounds_toArray, List.set_cons_zero, List.set_cons_succ]
        refine wpAnyH_take (i := 14) (oi := { dst := some 41, op := Op.indexAddr 23 (Operand.tmp 39) (Operand.tmp 40), type := 0, pos := "share.go:21", after := #[{ on := 12, ground := Ground.data }, { on := 13, ground := Ground.data }], guard := none }) (v := ?_) rfl (by kernel_rfl) (by kernel_rfl) (by kernel_rfl) (fun _ _ _ h => h) (Or.inl ⟨by kernel_rfl, ?_⟩) (by assumption) ?_
        rotate_left
        · (intro w hSw; (try dsimp only at hSw); go_simp; try with_reducible rfl)
        try simp only [Act.put, List.setIfInBounds_toArray, List.set_cons_zero, List.set_cons_succ]
        refine wpAnyH_take (i := 15) (oi := { dst := some 42, op := Op.load 3 (Operand.tmp 41), type := 3, pos := "share.go:21", after := #[{ on := 14, ground := Ground.data }], guard := none }) (v := ?_) rfl (by kernel_rfl) (by kernel_rfl) (by kernel_rfl) (fun _ _ _ h => h) (Or.inl ⟨by kernel_rfl, ?_⟩) (by assumption) ?_
        rotate_left
        · (intro w hSw; (try dsimp only at hSw); go_simp; try with_reducible rfl)
        try simp only [Act.put, List.setIfInBounds_toArray, List.set_cons_zero, List.set_cons_succ]
        refine wpAnyH_ready (rs := [11]) (by kernel_rfl) (by simp) ?_
        refine AllReadyH.cons (o := { dst := some 38, op := Op.load 3 (Operand.tmp 37), type := 3, pos := "share.go:21", after := #[{ on := 10, ground := Ground.data }], guard := none }) rfl (fun K hK => ?_) AllReadyH.nil
        go_simp
        refine hK.out _ _ ?_ (fun hHeld => ?_)
        · first
            | exact hHeld
            | (obtain ⟨g0, g1⟩ := hHeld; exact ⟨Lib.cell?_alloc_some _ g0, Lib.cell?_alloc_some _ g1⟩)
            | exact ⟨Lib.cell?_alloc_some _ ((World.cell?_setCell_far _ _ _ _ HPG.out.symm).trans c1), Lib.cell?_alloc_some _ ((World.cell?_setCell_other _ _ _ _ HNE.out.symm).trans c3)⟩
        clear hK K
        try simp only [Act.put, List.setIfInBounds_toArray, List.set_cons_zero, List.set_cons_succ]
        refine wpAnyH_ready (rs := [16]) (by kernel_rfl) (by simp) ?_
        refine AllReadyH.cons (o := { dst := some 43, op := Op.buildSlice 23 2 #[(0, Operand.tmp 38), (1, Operand.tmp 42)], type := 23, pos := "share.go:21", after := #[{ on := 11, ground := Ground.data }, { on := 15, ground := Ground.data }], guard := none }) rfl (fun K hK => ?_) AllReadyH.nil
        go_simp
        refine hK.out _ _ ?_ (fun hHeld => ?_)
        · first
            | exact hHeld
            | (obtain ⟨g0, g1⟩ := hHeld; exact ⟨Lib.cell?_alloc_some _ g0, Lib.cell?_alloc_some _ g1⟩)
            | exact ⟨Lib.cell?_alloc_some _ ((World.cell?_setCell_far _ _ _ _ HPG.out.symm).trans c1), Lib.cell?_alloc_some _ ((World.cell?_setCell_other _ _ _ _ HNE.out.symm).trans c3)⟩
        clear hK K
        try simp only [Act.put, List.setIfInBounds_toArray, List.set_cons_zero, List.set_cons_succ]
        refine wpAnyH_ready (rs := [17]) (by kernel_rfl) (by simp) ?_
        refine AllReadyH.cons (o := { dst := some 44, op := Op.call { callee := Callee.value (Operand.func 26), args := #[Operand.tmp 43], argTypes := #[23] }, type := 3, pos := "share.go:21", after := #[{ on := 16, ground := Ground.data }], guard := none }) rfl (fun K hK => ?_) AllReadyH.nil
        (go_simp; go_at_call 26; (with_reducible refine (SUM.out _ _ (by first | rfl | simp) (by first | rfl | simp)).mono ?_); rintro e w4 ⟨rfl, hw4⟩; go_simp)
        refine hK.out _ _ ?_ (fun hHeld => ?_)
        · first
            | exact hHeld
            | (obtain ⟨g0, g1⟩ := hHeld; exact ⟨Lib.cell?_alloc_some _ g0, Lib.cell?_alloc_some _ g1⟩)
            | exact ⟨Lib.cell?_alloc_some _ ((World.cell?_setCell_far _ _ _ _ HPG.out.symm).trans c1), Lib.cell?_alloc_some _ ((World.cell?_setCell_other _ _ _ _ HNE.out.symm).trans c3)⟩
        clear hK K
        try simp only [Act.put, List.setIfInBounds_toArray, List.set_cons_zero, List.set_cons_succ]
        refine wpAnyH_take (i := 18) (oi := { dst := some 45, op := Op.indexAddr 23 (Operand.tmp 27) (Operand.tmp 31), type := 0, pos := "share.go:21", after := #[{ on := 0, ground := Ground.data }, { on := 4, ground := Ground.data }, { on := 0, ground := Ground.phase }, { on := 1, ground := Ground.phase }, { on := 2, ground := Ground.phase }, { on := 3, ground := Ground.phase }, { on := 4, ground := Ground.phase }, { on := 5, ground := Ground.phase }, { on := 6, ground := Ground.phase }, { on := 7, ground := Ground.phase }, { on := 8, ground := Ground.phase }, { on := 9, ground := Ground.phase }, { on := 10, ground := Ground.phase }, { on := 11, ground := Ground.phase }, { on := 12, ground := Ground.phase }, { on := 13, ground := Ground.phase }, { on := 14, ground := Ground.phase }, { on := 15, ground := Ground.phase }, { on := 16, ground := Ground.phase }, { on := 17, ground := Ground.phase }], guard := none }) (v := ?_) rfl (by kernel_rfl) (by kernel_rfl) (by kernel_rfl) (fun _ _ _ h => h) (Or.inl ⟨by kernel_rfl, ?_⟩) (by assumption) ?_
        rotate_left
        · (intro w hSw; (try dsimp only at hSw); go_simp; try with_reducible rfl)
        try simp only [Act.put, List.setIfInBounds_toArray, List.set_cons_zero, List.set_cons_succ]
        refine wpAnyH_ready (rs := [19]) (by kernel_rfl) (by simp) ?_
        refine AllReadyH.cons (o := { dst := none, op := Op.store 3 (Operand.tmp 45) (Operand.tmp 44), type := 0, pos := "share.go:21", after := #[{ on := 18, ground := Ground.data }, { on := 17, ground := Ground.data }, { on := 17, ground := Ground.chain }, { on := 0, ground := Ground.phase }, { on := 1, ground := Ground.phase }, { on := 2, ground := Ground.phase }, { on := 3, ground := Ground.phase }, { on := 4, ground := Ground.phase }, { on := 5, ground := Ground.phase }, { on := 6, ground := Ground.phase }, { on := 7, ground := Ground.phase }, { on := 8, ground := Ground.phase }, { on := 9, ground := Ground.phase }, { on := 10, ground := Ground.phase }, { on := 11, ground := Ground.phase }, { on := 12, ground := Ground.phase }, { on := 13, ground := Ground.phase }, { on := 14, ground := Ground.phase }, { on := 15, ground := Ground.phase }, { on := 16, ground := Ground.phase }, { on := 17, ground := Ground.phase }], guard := none }) rfl (fun K hK => ?_) AllReadyH.nil
        go_simp
        refine hK.out _ _ ?_ (fun hHeld => ?_)
        · first
            | exact hHeld
            | (obtain ⟨g0, g1⟩ := hHeld; exact ⟨Lib.cell?_alloc_some _ g0, Lib.cell?_alloc_some _ g1⟩)
            | exact ⟨Lib.cell?_alloc_some _ ((World.cell?_setCell_far _ _ _ _ HPG.out.symm).trans c1), Lib.cell?_alloc_some _ ((World.cell?_setCell_other _ _ _ _ HNE.out.symm).trans c3)⟩
        clear hK K
        try simp only [Act.put, List.setIfInBounds_toArray, List.set_cons_zero, List.set_cons_succ]
        refine wpAnyH_done (by kernel_rfl) ?_ _
        have HO2 : Hid (NOwn ((wr.setCell ⟨gs, p, none⟩ (.int .i64 (X : Nat))).alloc (.cells #[.int .i64 (A : Nat), .int .i64 (B : Nat)] 3)).drew w2.heap.size (.slice (some ⟨gs, 0, none⟩) LN cs) (rowI (fun m => capN (behI l (ownN own) (j - 1) m)) LN)) :=
          own_older (STP.out wr (Below.refl _ _)) (((Below.refl _ _).alloc (Nat.le_refl _) _).drew)
        have HB4 : Hid (Below w2.heap.size w2 ((wr.setCell ⟨gs, p, none⟩ (.int .i64 (X : Nat))).alloc (.cells #[.int .i64 (A : Nat), .int .i64 (B : Nat)] 3)).drew) := by
          have h := HB.out.setCell (p := ⟨gs, p, none⟩) HGS.out (.int .i64 (X : Nat))
          exact (h.alloc h.size _).drew
        clear c1 c2 c3 f2
        go_wp2_with fail
        go_roundw
        case rel => exact ⟨j - 1, by omega, by go_num, HO2, HB4⟩
        case measure => simp [RowKit.intOf]; omega
      · have hd : decide (0 < j) = false := decide_eq_false h0
        have hji : ¬ (0 : Int) < (j : Int) := by omega
        have hj0 : j = 0 := by omega
        subst hj0
        have HR : Hid (NOwn wr w.heap.size (.slice (some ⟨gs, 0, none⟩) LN cs) (rowI (sumI l (ownN own)) l.length)) := by
          have h := own_low HO.out (base' := w.heap.size) HB2.out.size
          have e := beh_end HA.out (ownN own)
          rw [← HLN.out] at e
          rw [e] at h
          rw [← HLN.out]; exact h
        go_wp2_with fail
        go_ret2
        exact ⟨0, _, _, rfl, HER.out, .inl ⟨rfl, rfl⟩, HR.out, HB2.out.trans (HB.out.mono HB2.out.size)⟩
  · have t1 : decide (er = 0) = false := decide_eq_false h0
    have t2 : (er != 0) = true := by simp [h0]
    have t3 : (er == 0) = false := by simp [h0]
    clear PA CL
    go_wp2_with fail
    go_ret2
    exact ⟨er, _, [], rfl, HER.out, .inr ⟨h0, rfl⟩, NOwn.none _ _, HB1.out⟩
end

section
open Go Go.RowKit Go.Lib
set_option maxRecDepth 100000 in
set_option maxHeartbeats 4000000 in
theorem parts_any (v vo : Value) (l : List AcT) (own : List Int) (w : World) (hv : AcRow w v l) (hs : ∀ p ∈ l, Short p.1 ∧ Short p.2.1) (hT : U8W w) (ho : GRow w vo own) (hn : own.length ≤ 1048576) (hB : ∀ x ∈ own, x ≤ 9223372036854775807) :
    Calls Tryd.prog 18 #[v, vo] w fun e w' => ResPost l own (partI l (ownN own)) w e w' := by
  have SU := Lib.hid (sums_any v vo l own w hv hs hT ho hn hB)
  have PT : Hid (∀ n s a w, n ≤ 9223372036854775807 → s ≤ 9223372036854775807 → a ≤ 9223372036854775807 → n * s / a ≤ 9223372036854775807 →
    Calls Tryd.prog 30 #[.int .i64 (n : Nat), .int .i64 (s : Nat), .int .i64 (a : Nat)] w fun e w' => e = .returned (.int .i64 (n * s / a : Nat)) ∧ Below w.heap.size w w') := part_any
  obtain ⟨va, vc, rfl⟩ := hv.slice
  obtain ⟨oa, oc, rfl⟩ := ho.slice
  have PE : Hid (∀ i, partI l (ownN own) i = 65536 * sumI l (ownN own) i / sumI l (ownN own) 0) := fun i => rfl
  have SB : Hid (∀ i, sumI l (ownN own) i ≤ 9223372036854775807) := fun i => cap_le _
  have PB : Hid (AccOk l → ∀ i, i < l.length → partI l (ownN own) i ≤ 65536) := fun h i hi => partI_le (Tree.mk' h) (ownN own) hi
  obtain ⟨F, hF⟩ : ∃ F, F = sumI l (ownN own) := ⟨_, rfl⟩
  obtain ⟨G, hG⟩ : ∃ G, G = partI l (ownN own) := ⟨_, rfl⟩
  rw [← hF] at SU PE SB
  rw [← hG] at PE PB ⊢
  obtain ⟨LN, hLN⟩ : ∃ L, L = l.length := ⟨_, rfl⟩
  obtain ⟨LO, hLO⟩ : ∃ L, L = own.length := ⟨_, rfl⟩
  rw [← hLN, ← hLO] at SU ⊢
  rw [← hLN] at PB
  have HLN := Lib.hid hLN
  clear hv hs hT ho hn hB hF hG hLN hLO
  go_enter Tryd.func18, Tryd.ntmps18
  go_wp2_with fail
  refine SU.out.mono ?_; rintro e w1 ⟨er, v1, L, rfl, he, hL, hv1, b1⟩
  have HB1 := Lib.hid b1
  have HER := Lib.hid he
  clear he b1 SU
  rcases hL with ⟨rfl, rfl⟩ | ⟨h0, rfl⟩
  · have hA : AccOk l := by
      rcases HER.out with ⟨_, h1, h2⟩ | ⟨h, _⟩ | ⟨h, _⟩
      · exact h1
      · cases h
      · cases h
    have h50 : LN ≤ 50 := by rw [HLN.out]; exact hA.2.1
    have h1n : 1 ≤ LN := by rw [HLN.out]; exact hA.1
    have PB2 := Lib.hid (PB.out hA)
    clear hA PB
    rw [← HLN.out] at hv1
    obtain ⟨g, c, hve, hg1, hg2, _⟩ := nown_parts hv1 (by rw [rowI_len]; exact h1n)
    rw [rowI_len] at hve
    subst hve
    have c0 := (nown_cell hv1 (k := 0) (by rw [rowI_len]; exact h1n)).1
    rw [rowI_at _ h1n] at c0
    obtain ⟨A, hA⟩ : ∃ A, A = F 0 := ⟨_, rfl⟩
    rw [← hA] at c0 PE
    have hAb : A ≤ 9223372036854775807 := by rw [hA]; exact SB.out 0
    have HV1 : Hid (NOwn w1 w.heap.size (.slice (some ⟨g, 0, none⟩) LN c) (rowI (mixF G F 0) LN)) := by unfold Hid; rw [mix_zero]; exact hv1
    have HG := Lib.hid hg1
    have h0n : (0 : Int) < (LN : Int) := by omega
    have h0m : 0 < LN := by omega
    clear hv1 hg1 hg2 hA
    go_wp2_with fail
    go_loopw [25] (fun iv wr => ∃ k : Nat, k ≤ LN ∧ iv = .int .i64 k ∧ Hid (NOwn wr w.heap.size (.slice (some ⟨g, 0, none⟩) LN c) (rowI (mixF G F k) LN)) ∧ Hid (Below w.heap.size w wr)) (fun iv _ => LN - (RowKit.intOf iv).toNat)
    case atStart => exact ⟨0, Nat.zero_le _, rfl, HV1, HB1⟩
    case round =>
      obtain ⟨k, hk, rfl, HO, HB⟩ := hrel
      by_cases hlt : k < LN
      · have hd : decide (k < LN) = true := decide_eq_true hlt
        have hki : (k : Int) < (LN : Int) := by omega
        obtain ⟨ck, fk, _, hgw⟩ := nown_cell HO.out (k := k) (by rw [rowI_len]; exact hlt)
        rw [rowI_at _ hlt, mix_at] at ck
        have hSb := SB.out k
        have pb := PB2.out k hlt
        have pe := PE.out k
        have STP : Hid (∀ (W : World), Below wr.heap.size wr W → NOwn (W.setCell ⟨g, k, none⟩ (.int .i64 (G k : Nat))) w.heap.size (.slice (some ⟨g, 0, none⟩) LN c) (rowI (mixF G F (k + 1)) LN)) := fun W hW => by
          have h := nown_store (own_older HO.out hW) (k := k) (by rw [rowI_len]; exact hlt) ((G k : Nat) : Int)
          rwa [mix_set] at h
        obtain ⟨S, hS⟩ : ∃ S, S = F k := ⟨_, rfl⟩
        obtain ⟨X, hX⟩ : ∃ X, X = G k := ⟨_, rfl⟩
        rw [← hS] at ck pe hSb
        rw [← hX] at pe pb STP
        have PK : Hid (∀ w, Calls Tryd.prog 30 #[.int .i64 65536, .int .i64 (S : Nat), .int .i64 (A : Nat)] w fun e w' => e = .returned (.int .i64 (X : Nat)) ∧ Below w.heap.size w w') := fun w => by
          rw [pe]; exact PT.out 65536 S A w (by omega) hSb hAb (by rw [← pe]; omega)
        clear pe hS hX
        go_wp2_with fail
        refine (PK.out _).mono ?_; rintro e w2 ⟨rfl, b2⟩
        have f2 : w2.frozen? ⟨g, k, none⟩ = false := by
          have h := (nown_cell (own_older HO.out b2) (k := k) (by rw [rowI_len]; exact hlt)).2.1
          exact h
        have c2 := cell_next b2 ck
        have HO2 : Hid (NOwn (w2.setCell ⟨g, k, none⟩ (.int .i64 (X : Nat))) w.heap.size (.slice (some ⟨g, 0, none⟩) LN c) (rowI (mixF G F (k + 1)) LN)) := STP.out w2 b2
        have HB2 : Hid (Below w.heap.size w (w2.setCell ⟨g, k, none⟩ (.int .i64 (X : Nat)))) := (below_next b2 HB.out).setCell (p := ⟨g, k, none⟩) HG.out _
        clear b2 ck fk PK
        go_wp2_with fail
        go_roundw
        case rel => exact ⟨k + 1, hlt, by go_num, HO2, HB2⟩
        case measure => simp [RowKit.intOf]; omega
      · have hd : decide (k < LN) = false := decide_eq_false hlt
        have hki : ¬ (k : Int) < (LN : Int) := by omega
        have HR : Hid (NOwn wr w.heap.size (.slice (some ⟨g, 0, none⟩) LN c) (rowI G l.length)) := by
          have hkl : k = LN := by omega
          have h := HO.out
          rw [hkl, mix_all, HLN.out] at h
          rw [HLN.out]; exact h
        clear hlt hk
        go_wp2_with fail
        go_ret2
        exact ⟨0, _, _, rfl, HER.out, .inl ⟨rfl, rfl⟩, HR.out, HB.out⟩
  · have t1 : decide (er = 0) = false := decide_eq_false h0
    have t2 : (er != 0) = true := by simp [h0]
    have t3 : (er == 0) = false := by simp [h0]
    obtain ⟨va1, vc1, rfl⟩ := own_slice hv1
    clear hv1
    go_wp2_with fail
    go_ret2
    exact ⟨er, _, [], rfl, HER.out, .inr ⟨h0, rfl⟩, NOwn.none _ _, HB1.out⟩
set_option maxRecDepth 100000 in
set_option maxHeartbeats 4000000 in
theorem factors_any (v vo : Value) (l : List AcT) (own : List Int) (w : World) (hv : AcRow w v l) (hs : ∀ p ∈ l, Short p.1 ∧ Short p.2.1) (hT : U8W w) (ho : GRow w vo own) (hn : own.length ≤ 1048576) (hl : l.length ≤ 1000) (hB : ∀ x ∈ own, x ≤ 9223372036854775807) :
    Calls Tryd.prog 20 #[v, vo] w fun e w' => ResPost l own (facI l (ownN own)) w e w' := by
  have SU := Lib.hid (parts_any v vo l own w hv hs hT ho hn hB)
  have NO : Hid (∀ w1, Below w.heap.size w w1 → Calls Tryd.prog 16 #[v] w1 fun e w' => ResPost l (zerosI l.length) (normI l) w1 e w') := fun w1 hb => norms_any v l w1 (hv.kept hb) hs (hT.next hb) hl
  have PT : Hid (∀ n s a w, n ≤ 9223372036854775807 → s ≤ 9223372036854775807 → a ≤ 9223372036854775807 → n * s / a ≤ 9223372036854775807 →
    Calls Tryd.prog 30 #[.int .i64 (n : Nat), .int .i64 (s : Nat), .int .i64 (a : Nat)] w fun e w' => e = .returned (.int .i64 (n * s / a : Nat)) ∧ Below w.heap.size w w') := part_any
  obtain ⟨va, vc, rfl⟩ := hv.slice
  obtain ⟨oa, oc, rfl⟩ := ho.slice
  have PE : Hid (∀ i, facI l (ownN own) i = 65536 * normI l i / (normI l i + partI l (ownN own) i)) := fun i => rfl
  have FB : Hid (∀ i, facI l (ownN own) i ≤ 65536) := fun i => facI_le l (ownN own) i
  have PB : Hid (AccOk l → ∀ i, i < l.length → partI l (ownN own) i ≤ 65536) := fun h i hi => partI_le (Tree.mk' h) (ownN own) hi
  have NB : Hid (AccOk l → ∀ i, i < l.length → normI l i ≤ 65536) := fun h i hi => normI_le (Tree.mk' h) i i (Nat.le_refl _) hi
  obtain ⟨F, hF⟩ : ∃ F, F = partI l (ownN own) := ⟨_, rfl⟩
  obtain ⟨G, hG⟩ : ∃ G, G = facI l (ownN own) := ⟨_, rfl⟩
  obtain ⟨M, hM⟩ : ∃ M, M = normI l := ⟨_, rfl⟩
  rw [← hF] at SU PE PB
  rw [← hG] at PE FB ⊢
  rw [← hM] at NO PE NB
  obtain ⟨LN, hLN⟩ : ∃ L, L = l.length := ⟨_, rfl⟩
  obtain ⟨LO, hLO⟩ : ∃ L, L = own.length := ⟨_, rfl⟩
  rw [← hLN, ← hLO] at SU ⊢
  rw [← hLN] at PB NB NO
  have HLN := Lib.hid hLN
  clear hv hs hT ho hn hB hF hG hM hLN hLO
  go_enter Tryd.func20, Tryd.ntmps20
  go_wp2_with fail
  refine SU.out.mono ?_; rintro e w1 ⟨er, v1, L, rfl, he, hL, hv1, b1⟩
  have HB1 := Lib.hid b1
  have HER := Lib.hid he
  clear he b1 SU
  rcases hL with ⟨rfl, rfl⟩ | ⟨h0, rfl⟩
  · have hA : AccOk l := by
      rcases HER.out with ⟨_, h1, h2⟩ | ⟨h, _⟩ | ⟨h, _⟩
      · exact h1
      · cases h
      · cases h
    have h50 : LN ≤ 50 := by rw [HLN.out]; exact hA.2.1
    have h1n : 1 ≤ LN := by rw [HLN.out]; exact hA.1
    have PB2 := Lib.hid (PB.out hA)
    have NB2 := Lib.hid (NB.out hA)
    have HAA := Lib.hid hA
    clear hA PB NB
    rw [← HLN.out] at hv1
    obtain ⟨g, c, hve, hg1, hg2, _⟩ := nown_parts hv1 (by rw [rowI_len]; exact h1n)
    rw [rowI_len] at hve
    subst hve
    have HV1 := Lib.hid hv1
    have HG2 := Lib.hid hg2
    clear hv1 hg1 hg2
    go_wp2_with fail
    refine (NO.out w1 HB1.out).mono ?_; rintro e w2 ⟨er2, v2, L2, rfl, he2, hL2, hv2, b2⟩
    rcases hL2 with ⟨rfl, rfl⟩ | ⟨h0, rfl⟩
    · rw [← HLN.out] at hv2
      obtain ⟨g2, d, hve2, hg1, hg3, _⟩ := nown_parts hv2 (by rw [rowI_len]; exact h1n)
      rw [rowI_len] at hve2
      subst hve2
      have HB2 := Lib.hid (below_next b2 HB1.out)
      have HV2 : Hid (NOwn w2 w1.heap.size (.slice (some ⟨g2, 0, none⟩) LN d) (rowI (mixF G M 0) LN)) := by unfold Hid; rw [mix_zero]; exact hv2
      have HPV : Hid (NOwn w2 w.heap.size (.slice (some ⟨g, 0, none⟩) LN c) (rowI F LN)) := own_older HV1.out b2
      have HG := Lib.hid hg1
      clear hv2 hg1 hg3 he2 b2 NO HV1
      go_wp2_with fail
      go_loopw [30] (fun iv wr => ∃ k : Nat, k ≤ LN ∧ iv = .int .i64 k ∧ Hid (NOwn wr w1.heap.size (.slice (some ⟨g2, 0, none⟩) LN d) (rowI (mixF G M k) LN)) ∧ Hid (NOwn wr w.heap.size (.slice (some ⟨g, 0, none⟩) LN c) (rowI F LN)) ∧ Hid (Below w.heap.size w wr)) (fun iv _ => LN - (RowKit.intOf iv).toNat)
      case atStart => exact ⟨0, Nat.zero_le _, rfl, HV2, HPV, HB2⟩
      case round =>
        obtain ⟨k, hk, rfl, HO, HP, HB⟩ := hrel
        by_cases hlt : k < LN
        · have hd : decide (k < LN) = true := decide_eq_true hlt
          have hki : (k : Int) < (LN : Int) := by omega
          obtain ⟨ck, fk, _, hgw⟩ := nown_cell HO.out (k := k) (by rw [rowI_len]; exact hlt)
          rw [rowI_at _ hlt, mix_at] at ck
          have cp := (nown_cell HP.out (k := k) (by rw [rowI_len]; exact hlt)).1
          rw [rowI_at _ hlt] at cp
          have pb := PB2.out k hlt
          have nb := NB2.out k hlt
          have fb := FB.out k
          have pe := PE.out k
          have STP : Hid (∀ (W : World), Below wr.heap.size wr W → NOwn (W.setCell ⟨g2, k, none⟩ (.int .i64 (G k : Nat))) w1.heap.size (.slice (some ⟨g2, 0, none⟩) LN d) (rowI (mixF G M (k + 1)) LN)) := fun W hW => by
            have h := nown_store (own_older HO.out hW) (k := k) (by rw [rowI_len]; exact hlt) ((G k : Nat) : Int)
            rwa [mix_set] at h
          obtain ⟨P, hP⟩ : ∃ P, P = F k := ⟨_, rfl⟩
          obtain ⟨N, hN⟩ : ∃ N, N = M k := ⟨_, rfl⟩
          obtain ⟨X, hX⟩ : ∃ X, X = G k := ⟨_, rfl⟩
          rw [← hP] at cp pe pb
          rw [← hN] at ck pe nb
          rw [← hX] at pe fb STP
          have PK : Hid (∀ w, Calls Tryd.prog 30 #[.int .i64 65536, .int .i64 (N : Nat), .int .i64 ((N : Int) + (P : Int))] w fun e w' => e = .returned (.int .i64 (X : Nat)) ∧ Below w.heap.size w w') := fun w => by
            rw [pe]
            have h := PT.out 65536 N (N + P) w (by omega) (by omega) (by omega) (by rw [← pe]; omega)
            rwa [Int.natCast_add] at h
          have hng : g2 ≠ g := by have := HG.out; have := HG2.out; omega
          have HNG : Hid ((Value.slice (some ⟨g, 0, none⟩) LN c).ownBlock ≠ some g2) := fun e => by simp [Value.ownBlock] at e; omega
          clear pe hP hN hX
          go_wp2_with fail
          refine (PK.out _).mono ?_; rintro e w3 ⟨rfl, b3⟩
          have f2 : w3.frozen? ⟨g2, k, none⟩ = false := (nown_cell (own_older HO.out b3) (k := k) (by rw [rowI_len]; exact hlt)).2.1
          have c2 := cell_next b3 ck
          have HO2 : Hid (NOwn (w3.setCell ⟨g2, k, none⟩ (.int .i64 (X : Nat))) w1.heap.size (.slice (some ⟨g2, 0, none⟩) LN d) (rowI (mixF G M (k + 1)) LN)) := STP.out w3 b3
          have HP2 : Hid (NOwn (w3.setCell ⟨g2, k, none⟩ (.int .i64 (X : Nat))) w.heap.size (.slice (some ⟨g, 0, none⟩) LN c) (rowI F LN)) := own_one (own_older HP.out b3) (Chg.setCell k _ rfl) HNG.out
          have HB4 : Hid (Below w.heap.size w (w3.setCell ⟨g2, k, none⟩ (.int .i64 (X : Nat)))) := (below_next b3 HB.out).setCell (p := ⟨g2, k, none⟩) (Nat.le_trans HB1.out.size HG.out) _
          clear b3 ck cp fk PK hng
          go_wp2_with fail
          go_roundw
          case rel => exact ⟨k + 1, hlt, by go_num, HO2, HP2, HB4⟩
          case measure => simp [RowKit.intOf]; omega
        · have hd : decide (k < LN) = false := decide_eq_false hlt
          have hki : ¬ (k : Int) < (LN : Int) := by omega
          have HR : Hid (NOwn wr w.heap.size (.slice (some ⟨g2, 0, none⟩) LN d) (rowI G l.length)) := by
            have hkl : k = LN := by omega
            have h := own_low HO.out (base' := w.heap.size) HB1.out.size
            rw [hkl, mix_all, HLN.out] at h
            rw [HLN.out]; exact h
          clear hlt hk
          go_wp2_with fail
          go_ret2
          exact ⟨0, _, _, rfl, HER.out, .inl ⟨rfl, rfl⟩, HR.out, HB.out⟩
    · exfalso
      rcases he2 with ⟨h, _⟩ | ⟨_, h⟩ | ⟨_, _, h⟩
      · exact h0 h
      · exact h HAA.out
      · rw [HLN.out] at h; exact h (zeros_ok l)
  · have t1 : decide (er = 0) = false := decide_eq_false h0
    have t2 : (er != 0) = true := by simp [h0]
    have t3 : (er == 0) = false := by simp [h0]
    obtain ⟨va1, vc1, rfl⟩ := own_slice hv1
    clear hv1
    go_wp2_with fail
    go_ret2
    exact ⟨er, _, [], rfl, HER.out, .inr ⟨h0, rfl⟩, NOwn.none _ _, HB1.out⟩
end

end Go.Proofs.YtbnlmeegepgioaaDoor
