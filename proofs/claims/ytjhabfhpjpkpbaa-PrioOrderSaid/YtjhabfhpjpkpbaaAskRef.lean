/-
  gangerref12.Keys and gangerref12.First: at any jobs.
-/
import Derived.Test.YtjhabfhpjpkpbaaAsk
import Derived.Deep.RegionHeld3
namespace Go.Proofs.Ytjhabfhpjpkpbaa
open Go.ChangeShapes Go.WideShapes Go.ChangeAt Go.RowKit Go.Lib Go.Sort Go.Maps
set_option linter.unusedVariables false

set_option maxRecDepth 100000 in
set_option maxHeartbeats 2000000 in
theorem refKeys_row (b off c : Nat) (W : WtS) (l : List AskS) (now all : Int) (w : World) (hn : l.length ≤ 1048576) (h0 : 0 < l.length) (hnow : I64 now) (hall : I64 all) (hok : ∀ x ∈ l, AskOk x) (hc : ACells w b off l) :
    Calls Try.prog 20 #[.agg (wtL W).toArray, .slice (some ⟨b, off, none⟩) l.length c, .int .i64 now, .int .i64 all] w
      fun e w' => ∃ v', e = .returned (.tuple #[v', .int .i64 (keysE W now all l)]) ∧ KRow w' v' (keysL W now all l) ∧ Below w.heap.size w w' := by
  obtain ⟨i0, hi, hz0, hz1, hz2'⟩ := info_parts Try.infoKey
  have HC := Lib.hid hc
  have HP : Hid (∀ j, j < l.length → ∀ w, Calls Try.prog 18 #[.agg (wtL W).toArray, .agg (encA (aAt l j)).toArray, .int .i64 now, .int .i64 all] w
      fun e w' => e = .returned (.tuple #[.int .i64 (pV W now all (aAt l j)), .int .i64 (pE W now all (aAt l j))]) ∧ Below w.heap.size w w') := fun j hj w => refPrio_ask W now all hnow hall _ (hok _ (aAt_mem hj)) w
  have HE : Hid (keysE W now all l = if allB W now all l then (if twiceB (keysR W now all l) then 30 else 0) else 2) := rfl
  have HL : Hid (keysL W now all l = if keysE W now all l = 0 then sortK (keysR W now all l) else []) := rfl
  have HSt : Hid (∀ v w1, twiceB (keysR W now all l) = true → KRow w1 v (keysR W now all l) → Calls Try.prog 29 #[v] w1 fun e w' => e = .returned (.tuple #[.slice none 0 0, .int .i64 30]) ∧ Below w1.heap.size w1 w') :=
    fun v w1 ht hk => refSort_twice v _ w1 (by simp [keysR]; exact hn) hk ht
  have HSo : Hid (∀ v w1, twiceB (keysR W now all l) = false → KRow w1 v (keysR W now all l) → Calls Try.prog 29 #[v] w1 fun e w' => ∃ v', e = .returned (.tuple #[v', .int .i64 0]) ∧ KRow w' v' (sortK (keysR W now all l)) ∧ Below w1.heap.size w1 w') :=
    fun v w1 ht hk => refSort_ok v _ w1 (by simp [keysR]; exact hn) hk ht
  have HAll : Hid (allB W now all l = true ↔ ∀ j, j < l.length → pE W now all (aAt l j) = 0) := by
    unfold Hid allB
    rw [List.all_eq_true]
    constructor
    · intro h j hj; simpa using h _ (aAt_mem hj)
    · intro h x hx
      obtain ⟨j, hj, rfl⟩ := List.getElem_of_mem hx
      have := h j hj
      have e : aAt l j = l[j] := by have := aAt_get hj; rw [List.getElem?_eq_getElem hj] at this; simpa using this.symm
      rw [e] at this; simpa using this
  have HS := Lib.hid (keysR_snoc W now all l)
  have hkl : Hid ((keysR W now all l).length = l.length) := by simp [keysR, Hid]
  clear hc hok hnow hall
  generalize keysL W now all l = res at *
  generalize keysE W now all l = ee at *
  unfold wtL at *
  unfold encA at HP
  go_enter Try.func20, Try.ntmps20
  go_wp2_with fail
  go_loopw [10, 11] (fun o i wr => ∃ j : Nat, j ≤ l.length ∧ i = .int .i64 j ∧ (∀ k, k < j → pE W now all (aAt l k) = 0) ∧ wr.ownsRow (w.heap.size + 1) 53 3 o j (flatL (keysR W now all (l.take j))) ∧
      Blk wr w.heap.size #[.int .i64 W.f, .int .i64 W.a, .int .i64 W.s, .int .i64 W.q, .int .i64 W.p] 26 ∧ Below w.heap.size w wr)
    (fun _ i _ => l.length - (intOf i).toNat)
  case atStart =>
    exact ⟨0, Nat.zero_le _, rfl, fun j hj => absurd hj (Nat.not_lt_zero _), World.ownsRow_nil _ _ _ _, Blk.new _ _ _, (Below.refl _ _).alloc (Nat.le_refl _) _⟩
  case round =>
    obtain ⟨j, hj, rfl, he0, hown, hwb, hB⟩ := hrel
    have HE0 := Lib.hid he0
    have HO := Lib.hid hown
    have HB := Lib.hid hB
    have HWB := Lib.hid hwb
    clear he0 hown hB
    by_cases hlt : j < l.length
    · have hlt' : decide (j < l.length) = true := decide_eq_true hlt
      have hlt2 : (j : Int) < l.length := by omega
      obtain ⟨c0, c1, c2, c3, c4, c5, c6⟩ := (HC.out.kept HB.out).2 j hlt
      have HP1 := Lib.hid (HP.out j hlt)
      have HS1 := Lib.hid (HS.out j hlt)
      have HE1 : Hid (pE W now all (aAt l j) = 0 ∨ pE W now all (aAt l j) = 2) := pE_two _ _ _ _
      obtain ⟨x, hx⟩ : ∃ x, x = aAt l j := ⟨_, rfl⟩
      rw [← hx] at c0 c1 c2 c3 c4 c5 c6 HP1 HS1 HE1
      have HX := Lib.hid hx
      have HKO : Hid (keyOf W now all x = (pV W now all x, x.since, x.id)) := rfl
      clear hx
      have hz : w.heap.size < wr.heap.size := HWB.out.lt
      have g0 := hwb.cell 0; simp at g0
      have g1 := hwb.cell 1; simp at g1
      have g2 := hwb.cell 2; simp at g2
      have g3 := hwb.cell 3; simp at g3
      have g4 := hwb.cell 4; simp at g4
      generalize keyOf W now all x = ky at *
      generalize hpv : pV W now all x = pv at *
      generalize hpe : pE W now all x = pe at *
      clear hwb hpv
      have HPE := Lib.hid hpe
      clear hpe
      rcases HE1.out with rfl | rfl
      · go_wp2_with fail
        go_region_held3 (fun w' => w'.cell? ⟨w.heap.size, 0, none⟩ = some (.int .i64 W.f) ∧ w'.cell? ⟨w.heap.size, 1, none⟩ = some (.int .i64 W.a) ∧ w'.cell? ⟨w.heap.size, 2, none⟩ = some (.int .i64 W.s) ∧ w'.cell? ⟨w.heap.size, 3, none⟩ = some (.int .i64 W.q) ∧ w'.cell? ⟨w.heap.size, 4, none⟩ = some (.int .i64 W.p) ∧ w'.cell? ⟨b, off + j * 7, none⟩ = some (.int .u32 x.id) ∧ w'.cell? ⟨b, off + j * 7 + 1, none⟩ = some (.int .i64 x.since) ∧ w'.cell? ⟨b, off + j * 7 + 2, none⟩ = some (.int .i64 x.size) ∧ w'.cell? ⟨b, off + j * 7 + 3, none⟩ = some (.int .i64 x.nice) ∧ w'.cell? ⟨b, off + j * 7 + 4, none⟩ = some (.int .i64 x.qos) ∧ w'.cell? ⟨b, off + j * 7 + 5, none⟩ = some (.int .i64 x.part) ∧ w'.cell? ⟨b, off + j * 7 + 6, none⟩ = some (.int .i64 x.factor) ∧ Below wr.heap.size wr w')
          (first
            | exact ⟨g0, g1, g2, g3, g4, c0, c1, c2, c3, c4, c5, c6, (Below.refl _ _).drew⟩
            | (rcases ‹_ ∧ _ ∧ _ ∧ _ ∧ _ ∧ _ ∧ _ ∧ _ ∧ _ ∧ _ ∧ _ ∧ _ ∧ Below _ _ _› with ⟨q0, q1, q2, q3, q4, q5, q6, q7, q8, q9, q10, q11, q12⟩; exact ⟨cell_next (by assumption) q0, cell_next (by assumption) q1, cell_next (by assumption) q2, cell_next (by assumption) q3, cell_next (by assumption) q4, cell_next (by assumption) q5, cell_next (by assumption) q6, cell_next (by assumption) q7, cell_next (by assumption) q8, cell_next (by assumption) q9, cell_next (by assumption) q10, cell_next (by assumption) q11, below_next (by assumption) q12⟩))
          (first
            | (go_at_call 18; ((with_reducible refine (HP1.out _).mono ?_); rintro e w2 ⟨rfl, b2⟩)))
        rcases ‹_ ∧ _ ∧ _ ∧ _ ∧ _ ∧ _ ∧ _ ∧ _ ∧ _ ∧ _ ∧ _ ∧ _ ∧ Below _ _ _› with ⟨_, _, _, _, _, x0, x1, _, _, _, _, _, b2'⟩
        have B2 : Hid (Below w.heap.size w w2) := below_next b2' HB.out
        have OW := Lib.hid (owns_below HO.out b2')
        have WB := Lib.hid (HWB.out.kept b2')
        have hz2 : w.heap.size + 1 ≤ w2.heap.size := by have := WB.out.lt; omega
        clear c0 c1 c2 c3 c4 c5 c6 g0 g1 g2 g3 g4
        go_wp2_with fail
        have hbw : b < w.heap.size := HC.out.1
        go_region_held3 (fun w' => w'.cell? ⟨b, off + j * 7, none⟩ = some (.int .u32 x.id) ∧ w'.cell? ⟨b, off + j * 7 + 1, none⟩ = some (.int .i64 x.since) ∧ Below w.heap.size w w')
          (first
            | exact ⟨x0, x1, B2.out.drew⟩
            | (rcases ‹_ ∧ _ ∧ Below _ _ _› with ⟨q0, q1, q2⟩; exact ⟨Lib.cell?_alloc_some _ q0, Lib.cell?_alloc_some _ q1, q2.alloc q2.size _⟩)
            | (rcases ‹_ ∧ _ ∧ Below _ _ _› with ⟨q0, q1, q2⟩; exact ⟨hgrow4.cell q0 (fun e => by have := (OW.out.lt b e.symm).1; omega), hgrow4.cell q1 (fun e => by have := (OW.out.lt b e.symm).1; omega), q2.grown hgrow4 q2.size (fun i hi => by have := (OW.out.lt i hi).1; omega)⟩))
          ((refine step_append_lies _ (by rfl) _ _ 37 (by rfl) (w.heap.size + 1) 53 i0 _ 3 24 Try.underlying37 hi hz0 hz1 hz2' rfl (by decide) _ j _ (by rfl) (World.ownsRow.alloc (w := w2.drew) OW.out _) ⟨w2.heap.size, 0, none⟩ 1 1 (encK (pv, x.since, x.id)) (by rfl) (by rfl) (news_key (x := (pv, x.since, x.id)) (Blk.fresh _ _ _ _ (by rfl))) (encK_one _) (by decide) (by unfold maxLen; omega) (by omega) (by simp; omega) (w2.heap.size + 1) (by simp) ?_; intro g4 cap4 w4 hown4 hgrow4 _ _))
        rcases ‹_ ∧ _ ∧ Below _ _ _› with ⟨_, _, B4⟩
        go_wp2_with fail
        go_roundw
        case rel =>
          refine ⟨j + 1, hlt, by go_num, ?_, by rw [HS1.out, HKO.out]; exact hown4, (WB.out.drew.old _).grown hgrow4 (fun e => ?_), B4⟩
          · intro k hk
            rcases Nat.lt_succ_iff_lt_or_eq.1 hk with h | rfl
            · exact HE0.out k h
            · rw [← HX.out]; exact HPE.out
          · have := (OW.out.lt w.heap.size e.symm).1; omega
        case measure => simp [intOf]; omega
      · have ER : Hid (ee = 2) := by
          have h : allB W now all l = false := by
            rw [← Bool.not_eq_true, HAll.out]
            intro hh
            have := hh j hlt
            rw [← HX.out, HPE.out] at this; omega
          have := HE.out; rw [h] at this; exact this
        have RR : Hid (∀ w', KRow w' (.slice none 0 0) res) := fun w' => by
          rw [HL.out, ER.out, if_neg (by omega)]; exact .inl ⟨rfl, none, 0, rfl, Nat.zero_le _⟩
        obtain rfl := ER.out
        clear ER HE HL HAll HSt HSo HS HS1 HX HPE HKO HE0 HO HWB HC HP hkl
        go_wp2_with fail
        go_region_held3 (fun w' => w'.cell? ⟨w.heap.size, 0, none⟩ = some (.int .i64 W.f) ∧ w'.cell? ⟨w.heap.size, 1, none⟩ = some (.int .i64 W.a) ∧ w'.cell? ⟨w.heap.size, 2, none⟩ = some (.int .i64 W.s) ∧ w'.cell? ⟨w.heap.size, 3, none⟩ = some (.int .i64 W.q) ∧ w'.cell? ⟨w.heap.size, 4, none⟩ = some (.int .i64 W.p) ∧ w'.cell? ⟨b, off + j * 7, none⟩ = some (.int .u32 x.id) ∧ w'.cell? ⟨b, off + j * 7 + 1, none⟩ = some (.int .i64 x.since) ∧ w'.cell? ⟨b, off + j * 7 + 2, none⟩ = some (.int .i64 x.size) ∧ w'.cell? ⟨b, off + j * 7 + 3, none⟩ = some (.int .i64 x.nice) ∧ w'.cell? ⟨b, off + j * 7 + 4, none⟩ = some (.int .i64 x.qos) ∧ w'.cell? ⟨b, off + j * 7 + 5, none⟩ = some (.int .i64 x.part) ∧ w'.cell? ⟨b, off + j * 7 + 6, none⟩ = some (.int .i64 x.factor) ∧ Below wr.heap.size wr w')
          (first
            | exact ⟨g0, g1, g2, g3, g4, c0, c1, c2, c3, c4, c5, c6, (Below.refl _ _).drew⟩
            | (rcases ‹_ ∧ _ ∧ _ ∧ _ ∧ _ ∧ _ ∧ _ ∧ _ ∧ _ ∧ _ ∧ _ ∧ _ ∧ Below _ _ _› with ⟨q0, q1, q2, q3, q4, q5, q6, q7, q8, q9, q10, q11, q12⟩; exact ⟨cell_next (by assumption) q0, cell_next (by assumption) q1, cell_next (by assumption) q2, cell_next (by assumption) q3, cell_next (by assumption) q4, cell_next (by assumption) q5, cell_next (by assumption) q6, cell_next (by assumption) q7, cell_next (by assumption) q8, cell_next (by assumption) q9, cell_next (by assumption) q10, cell_next (by assumption) q11, below_next (by assumption) q12⟩))
          (first
            | (go_at_call 18; ((with_reducible refine (HP1.out _).mono ?_); rintro e w2 ⟨rfl, b2⟩)))
        rcases ‹_ ∧ _ ∧ _ ∧ _ ∧ _ ∧ _ ∧ _ ∧ _ ∧ _ ∧ _ ∧ _ ∧ _ ∧ Below _ _ _› with ⟨_, _, _, _, _, x0, x1, _, _, _, _, _, b2'⟩
        have B2 : Hid (Below w.heap.size w w2) := below_next b2' HB.out
        clear c0 c1 c2 c3 c4 c5 c6 g0 g1 g2 g3 g4
        go_wp2_with fail
        go_ret2
        exact ⟨_, rfl, RR.out _, B2.out⟩
    · obtain rfl : j = l.length := by omega
      have hlt' : decide (l.length < l.length) = false := decide_eq_false (by omega)
      have HA : Hid (allB W now all l = true) := HAll.out.2 HE0.out
      have KR : Hid (KRow wr u10 (keysR W now all l)) := by
        have := HO.out
        rw [List.take_length] at this
        exact krow_owned' hkl.out.symm this
      have HE2 : Hid (ee = if twiceB (keysR W now all l) then 30 else 0) := by have := HE.out; rw [HA.out] at this; exact this
      clear HE HAll HS HC HP HWB hwb HE0 HO HA
      cases ht : twiceB (keysR W now all l)
      · have HS2 := Lib.hid (HSo.out _ _ ht KR.out)
        rw [ht] at HE2
        obtain rfl : ee = 0 := HE2.out
        have HL2 : Hid (res = sortK (keysR W now all l)) := HL.out
        clear HL HSo HSt ht HE2
        rw [← HL2.out] at HS2
        go_wp2_with fail
        refine HS2.out.mono ?_; rintro e w2 ⟨v2, rfl, hk2, b2⟩
        have HK2 := Lib.hid hk2
        clear hk2
        go_wp2_with fail
        go_ret2
        exact ⟨v2, rfl, HK2.out, below_next b2 HB.out⟩
      · have HS2 := Lib.hid (HSt.out _ _ ht KR.out)
        rw [ht] at HE2
        obtain rfl : ee = 30 := HE2.out
        have HL2 : Hid (∀ w', KRow w' (.slice none 0 0) res) := fun w' => by rw [HL.out, if_neg (by decide)]; exact .inl ⟨rfl, none, 0, rfl, Nat.zero_le _⟩
        clear HL HSo HSt ht HE2
        go_wp2_with fail
        refine HS2.out.mono ?_; rintro e w2 ⟨rfl, b2⟩
        go_wp2_with fail
        go_ret2
        exact ⟨_, rfl, HL2.out _, below_next b2 HB.out⟩
end Go.Proofs.Ytjhabfhpjpkpbaa
