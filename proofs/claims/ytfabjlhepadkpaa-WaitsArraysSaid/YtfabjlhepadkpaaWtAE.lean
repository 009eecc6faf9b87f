/-
  How a job is, for those that wait for it: waits.How, gangerref14.How.
  waits.Check, gangerref14.Check.
  waits.find, gangerref14.there.
  waits.alone: none like it is about.
  waits.Alone, waits.Room.
-/
import Derived.Test.YtfabjlhepadkpaaJbP
import Derived.Test.YtfabjlhepadkpaaStr
import Derived.Test.YtfabjlhepadkpaaIdxG
namespace Go.Proofs.Ytfabjlhepadkpaa
set_option linter.unusedVariables false

section
open Go Go.RowKit Go.Lib
def howJ (h : Int) : Int := if 1 ≤ h ∧ h ≤ 2 then 1 else if 3 ≤ h ∧ h ≤ 4 then 2 else if h = 5 then 3 else if 6 ≤ h ∧ h ≤ 9 then 4 else 0
set_option maxRecDepth 100000 in
theorem how_any (j : Jb) (w : World) :
    Calls Try.prog 14 #[.agg (jbC j)] w fun e w' => e = .returned (.int .i64 (howJ j.how)) ∧ Below w.heap.size w w' := by
  obtain ⟨gx, hgx⟩ : ∃ g, g = w.heap.size := ⟨_, rfl⟩
  obtain ⟨X, hX⟩ : ∃ X, X = w.alloc (.cells (jbC j) 41) := ⟨_, rfl⟩
  have hbX : Below w.heap.size w X := by rw [hX]; exact (Below.refl _ _).alloc (Nat.le_refl _) _
  have hbk : Blk X gx (jbC j) 41 := by rw [hX, hgx]; exact Blk.new w _ _
  have y19 : X.cell? ⟨gx, 19, none⟩ = some (.int .i64 j.how) := blk_jb hbk 19
  have HBX := Lib.hid hbX
  obtain ⟨J, hJ⟩ : ∃ J, J = jbC j := ⟨_, rfl⟩
  obtain ⟨h, hh⟩ : ∃ h, h = j.how := ⟨_, rfl⟩
  rw [← hJ] at hX ⊢
  rw [← hh] at y19 ⊢
  have HXX := Lib.hid hX
  have HGX := Lib.hid hgx
  obtain ⟨r, hr⟩ : ∃ r, r = howJ h := ⟨_, rfl⟩
  have HR := Lib.hid hr
  rw [← hr]
  unfold howJ at HR
  clear hX hgx hbX hbk hJ hh hr
  have go : ∀ (a1 a2 a3 a4 a5 a6 a7 : Bool), decide (1 ≤ h) = a1 → decide (h ≥ 1) = a1 → decide (h ≤ 2) = a2 → decide (3 ≤ h) = a3 → decide (h ≥ 3) = a3 → decide (h ≤ 4) = a4 → (h == 5) = a5 → decide (6 ≤ h) = a6 → decide (h ≥ 6) = a6 → decide (h ≤ 9) = a7 →
      Hid (r = if (a1 && a2) = true then 1 else if (a3 && a4) = true then 2 else if a5 = true then 3 else if (a6 && a7) = true then 4 else 0) →
      Calls Try.prog 14 #[.agg J] w fun e w' => e = .returned (.int .i64 r) ∧ Below w.heap.size w w' := by
    intro a1 a2 a3 a4 a5 a6 a7 p1 p1' p2 p3 p3' p4 p5 p6 p6' p7 HE
    cases a1
    · cases a3
      · cases a5
        · cases a6
          · go_enter Try.func14, Try.ntmps14
            go_upto_region 1 with fail
            rw [← HGX.out, ← HXX.out]
            go_wp2_with fail
            go_ret
            exact ⟨by rw [HE.out]; rfl, HBX.out⟩
          · exfalso; have := of_decide_eq_false p1; have := of_decide_eq_true p6; omega
        · exfalso; have := of_decide_eq_false p1; have := eq_of_beq p5; omega
      · exfalso; have := of_decide_eq_false p1; have := of_decide_eq_true p3; omega
    · cases a2
      · cases a3
        · exfalso; have := of_decide_eq_false p2; have := of_decide_eq_false p3; omega
        · cases a4
          · cases a5
            · cases a6
              · exfalso; have := of_decide_eq_false p4; have := of_decide_eq_false p6; simp at p5; omega
              · cases a7 <;>
                · go_enter Try.func14, Try.ntmps14
                  go_upto_region 1 with fail
                  rw [← HGX.out, ← HXX.out]
                  go_wp2_with fail
                  go_ret
                  exact ⟨by rw [HE.out]; rfl, HBX.out⟩
            · go_enter Try.func14, Try.ntmps14
              go_upto_region 1 with fail
              rw [← HGX.out, ← HXX.out]
              go_wp2_with fail
              go_ret
              exact ⟨by rw [HE.out]; rfl, HBX.out⟩
          · go_enter Try.func14, Try.ntmps14
            go_upto_region 1 with fail
            rw [← HGX.out, ← HXX.out]
            go_wp2_with fail
            go_ret
            exact ⟨by rw [HE.out]; rfl, HBX.out⟩
      · go_enter Try.func14, Try.ntmps14
        go_upto_region 1 with fail
        rw [← HGX.out, ← HXX.out]
        go_wp2_with fail
        go_ret
        exact ⟨by rw [HE.out]; rfl, HBX.out⟩
  exact go _ _ _ _ _ _ _ rfl rfl rfl rfl rfl rfl rfl rfl rfl rfl (by unfold Hid; rw [HR.out]; simp only [Bool.and_eq_true, decide_eq_true_eq, beq_iff_eq])
def tabH : Array Value := #[.int .i64 0, .int .i64 1, .int .i64 1, .int .i64 2, .int .i64 2, .int .i64 3, .int .i64 4, .int .i64 4, .int .i64 4, .int .i64 4]
theorem tabH_at {h : Nat} (hh : h ≤ 9) : tabH[h]? = some (.int .i64 (howJ h)) := by
  have : h = 0 ∨ h = 1 ∨ h = 2 ∨ h = 3 ∨ h = 4 ∨ h = 5 ∨ h = 6 ∨ h = 7 ∨ h = 8 ∨ h = 9 := by omega
  rcases this with rfl | rfl | rfl | rfl | rfl | rfl | rfl | rfl | rfl | rfl <;> rfl
set_option maxRecDepth 100000 in
theorem rhow14_any (j : Jb) (w : World) :
    Calls Try.prog 15 #[.agg (jbC j)] w fun e w' => e = .returned (.int .i64 (howJ j.how)) ∧ Below w.heap.size w w' := by
  obtain ⟨gx, hgx⟩ : ∃ g, g = w.heap.size := ⟨_, rfl⟩
  obtain ⟨X, hX⟩ : ∃ X, X = w.alloc (.cells (jbC j) 41) := ⟨_, rfl⟩
  have hbX : Below w.heap.size w X := by rw [hX]; exact (Below.refl _ _).alloc (Nat.le_refl _) _
  have hbk : Blk X gx (jbC j) 41 := by rw [hX, hgx]; exact Blk.new w _ _
  obtain ⟨Y, hY⟩ : ∃ Y, Y = X.alloc (.cells tabH 3) := ⟨_, rfl⟩
  have hbY : Below X.heap.size X Y := by rw [hY]; exact (Below.refl _ _).alloc (Nat.le_refl _) _
  have htb : Blk Y X.heap.size tabH 3 := by rw [hY]; exact Blk.new X _ _
  have y19 : Y.cell? ⟨gx, 19, none⟩ = some (.int .i64 j.how) := cell_next hbY (blk_jb hbk 19)
  have HBY := Lib.hid (below_next hbY hbX)
  obtain ⟨J, hJ⟩ : ∃ J, J = jbC j := ⟨_, rfl⟩
  obtain ⟨h, hh⟩ : ∃ h, h = j.how := ⟨_, rfl⟩
  rw [← hJ] at hX ⊢
  rw [← hh] at y19 ⊢
  unfold tabH at hY
  have HTB := Lib.hid htb
  obtain ⟨gt, hgt⟩ : ∃ g, g = X.heap.size := ⟨_, rfl⟩
  have HXX := Lib.hid hX
  have HGX := Lib.hid hgx
  have HGT := Lib.hid hgt
  have HYY := Lib.hid hY
  rw [← hgt] at HTB
  obtain ⟨r, hr⟩ : ∃ r, r = howJ h := ⟨_, rfl⟩
  have HR := Lib.hid hr
  rw [← hr]
  clear hX hgx hbX hbk hJ hh hr hY hbY htb hgt
  by_cases h0 : h < 0
  · have d0 : decide (h < 0) = true := decide_eq_true h0
    have HE : Hid (r = 0) := by unfold Hid; rw [HR.out]; unfold howJ; rw [if_neg (by omega), if_neg (by omega), if_neg (by omega), if_neg (by omega)]
    go_enter Try.func15, Try.ntmps15
    go_upto_region 1 with fail
    rw [← HGX.out, ← HXX.out]
    go_upto_region 2 with fail
    rw [← HYY.out]
    go_wp2_with fail
    go_ret
    exact ⟨by rw [HE.out]; rfl, HBY.out⟩
  · have d0 : decide (h < 0) = false := decide_eq_false h0
    by_cases h9 : 9 < h
    · have d9 : decide (h > 9) = true := decide_eq_true h9
      have d9' : decide (9 < h) = true := decide_eq_true h9
      have HE : Hid (r = 0) := by unfold Hid; rw [HR.out]; unfold howJ; rw [if_neg (by omega), if_neg (by omega), if_neg (by omega), if_neg (by omega)]
      go_enter Try.func15, Try.ntmps15
      go_upto_region 1 with fail
      rw [← HGX.out, ← HXX.out]
      go_upto_region 2 with fail
      rw [← HYY.out]
      go_wp2_with fail
      go_ret
      exact ⟨by rw [HE.out]; rfl, HBY.out⟩
    · have d9 : decide (h > 9) = false := decide_eq_false h9
      have d9' : decide (9 < h) = false := decide_eq_false h9
      obtain ⟨k, rfl⟩ := Int.eq_ofNat_of_zero_le (show 0 ≤ h by omega)
      have hk9 : k ≤ 9 := by omega
      have hk10 : (k : Int) < 10 := by omega
      have z : Y.cell? ⟨gt, k, none⟩ = some (.int .i64 r) := by
        rw [HTB.out.cell, tabH_at hk9, HR.out]
      clear h0 h9
      go_enter Try.func15, Try.ntmps15
      go_upto_region 1 with fail
      rw [← HGX.out, ← HXX.out]
      go_upto_region 2 with fail
      rw [← HYY.out, ← HGT.out]
      go_wp2_with fail
      go_ret
      exact ⟨rfl, HBY.out⟩
end

section
open Go Go.RowKit Go.Lib
def okJb (l : List Jb) (i : Nat) : Bool := match l[i]? with | some j => decide (j.id = i + 1) && decide (howJ j.how ≠ 0) | none => true
def okJs (l : List Jb) : Bool := (List.range l.length).all (okJb l)
def chkJ (l : List Jb) : Int := if okJs l = true then 0 else 2
theorem okJb_at {l : List Jb} {i : Nat} (h : i < l.length) : okJb l i = (decide (l[i].id = i + 1) && decide (howJ l[i].how ≠ 0)) := by unfold okJb; rw [List.getElem?_eq_getElem h]
theorem okJs_iff {l : List Jb} : okJs l = true ↔ ∀ i (h : i < l.length), l[i].id = i + 1 ∧ howJ l[i].how ≠ 0 := by
  unfold okJs
  rw [List.all_eq_true]
  constructor
  · intro h i hi
    have := h i (List.mem_range.2 hi)
    rw [okJb_at hi] at this
    simpa using this
  · intro h i hi
    have hi := List.mem_range.1 hi
    rw [okJb_at hi]
    simpa using h i hi
set_option maxRecDepth 100000 in
set_option maxHeartbeats 2000000 in
theorem wcheck_any (v : Value) (l : List Jb) (w : World) (h : JRw w v l) :
    Calls Try.prog 12 #[v] w fun e w' => e = .returned (.int .i64 (chkJ l)) ∧ Below w.heap.size w w' := by
  obtain ⟨a, c, rfl⟩ := h.row.slice
  obtain ⟨r, hr⟩ : ∃ r, r = chkJ l := ⟨_, rfl⟩
  have HE : Hid ((∀ q (hq : q < l.length), okJb l q = true) → r = 0) := fun hh => by
    rw [hr]; unfold chkJ; rw [if_pos]
    unfold okJs; rw [List.all_eq_true]; exact fun i hi => hh i (List.mem_range.1 hi)
  have HF : Hid (∀ q (hq : q < l.length), okJb l q = false → r = 2) := fun q hq hh => by
    rw [hr]; unfold chkJ; rw [if_neg]
    unfold okJs; rw [List.all_eq_true]; intro h; rw [h q (List.mem_range.2 hq)] at hh; cases hh
  rw [← hr]
  obtain ⟨N, hN⟩ : ∃ N, N = l.length := ⟨_, rfl⟩
  have HN := Lib.hid hN
  have HL := Lib.hid h
  have hlen := h.len
  rw [← hN] at hlen ⊢
  clear h hN hr
  go_enter Try.func12, Try.ntmps12
  go_wp2_with fail
  go_loopw [7] (fun iv wr => ∃ i : Nat, i ≤ N ∧ iv = .int .i64 (i : Nat) ∧ Hid (∀ q (hq : q < l.length), q < i → okJb l q = true) ∧ Hid (Below w.heap.size w wr)) (fun iv _ => N - (RowKit.intOf iv).toNat)
  case atStart => exact ⟨0, Nat.zero_le _, rfl, fun q _ h => by omega, Below.refl _ _⟩
  case round =>
    obtain ⟨i, hi, rfl, HO, HB⟩ := hrel
    by_cases hlt : i < N
    · have d1 : decide ((i : Int) < (N : Int)) = true := decide_eq_true (by omega)
      have d1' : decide (i < N) = true := decide_eq_true hlt
      have hii : (i : Int) < (N : Int) := by omega
      have hik : i < l.length := by rw [← HN.out]; exact hlt
      obtain ⟨bb, off, e, hrg⟩ := JRw.at HL.out HB.out hik
      subst e
      have hone := HL.out.one (List.getElem_mem hik)
      have hid32 : (l[i].id : Int) < 4294967296 := by have := (HL.out.ok _ (List.getElem_mem hik)).id; omega
      have HQ : Hid (okJb l i = true → ∀ q (hq : q < l.length), q < i + 1 → okJb l q = true) := fun hh q hq h2 => by
        by_cases e : q = i
        · subst e; exact hh
        · exact HO.out q hq (by omega)
      have HZ : Hid (okJb l i = false → r = 2) := HF.out i hik
      have HOK : Hid (okJb l i = (decide (l[i].id = i + 1) && decide (howJ l[i].how ≠ 0))) := okJb_at hik
      obtain ⟨j, hj⟩ : ∃ j, j = l[i] := ⟨_, rfl⟩
      rw [← hj] at hrg hone HOK hid32
      clear hj
      obtain ⟨W, hW⟩ : ∃ W, W = wr.alloc (.cells (jbC j) 41) := ⟨_, rfl⟩
      have hbW : Below wr.heap.size wr W := by rw [hW]; exact (Below.refl _ _).alloc (Nat.le_refl _) _
      have hbn : Blk W wr.heap.size (jbC j) 41 := by rw [hW]; exact Blk.new _ _ _
      have z0 : W.cell? ⟨wr.heap.size, 0, none⟩ = some (.int .u32 (j.id : Nat)) := blk_jb hbn 0
      have C := Lib.hid (how_any j W)
      have HBW := Lib.hid (below_next hbW HB.out)
      have HRN := Lib.hid (range_blk hbn)
      clear hbW
      by_cases hid : j.id = i + 1
      · have q1 : ((j.id : Int) != (i : Int) + 1) = false := by simp; omega
        obtain ⟨β, hβ⟩ : ∃ β, β = (howJ j.how == 0) := ⟨_, rfl⟩
        have HK : Hid (okJb l i = !β) := by unfold Hid; rw [HOK.out, hβ]; by_cases hz : howJ j.how = 0 <;> simp [hid, hz]
        rw [HK.out] at HQ HZ
        obtain ⟨hv, hhv⟩ : ∃ h, h = howJ j.how := ⟨_, rfl⟩
        rw [← hhv] at C hβ
        have q2 : (hv == 0) = β := hβ.symm
        clear hβ hhv HOK HK hid
        obtain ⟨ji, hji⟩ : ∃ x, x = j.id := ⟨_, rfl⟩
        rw [← hji] at q1 z0 hid32
        clear hji
        go_upto_region 4 with (first | (refine ld_jb rfl _ rfl _ _ rfl _ hrg ?_) | (refine st_jb rfl _ _ rfl _ _ rfl rfl j rfl rfl hone ?_))
        rw [← hW]
        clear hW
        cases β with
        | true =>
          go_wp2_with (first | (refine ld_jbg rfl _ rfl _ _ rfl _ HRN.out ?_))
          refine C.out.mono ?_; rintro e w5 ⟨rfl, b5⟩
          have HB5 := Lib.hid (below_next b5 HBW.out)
          clear b5 C z0 hbn
          go_wp2_with fail
          go_ret
          exact ⟨by rw [HZ.out rfl]; rfl, HB5.out⟩
        | false =>
          go_wp2_with (first | (refine ld_jbg rfl _ rfl _ _ rfl _ HRN.out ?_))
          refine C.out.mono ?_; rintro e w5 ⟨rfl, b5⟩
          have HB5 := Lib.hid (below_next b5 HBW.out)
          clear b5 C z0 hbn
          go_wp2_with fail
          go_roundw
          case rel => exact ⟨i + 1, hlt, by go_num, HQ.out rfl, HB5.out⟩
          case measure => simp [RowKit.intOf]; omega
      · have q1 : ((j.id : Int) != (i : Int) + 1) = true := by simp; omega
        have HN : Hid (okJb l i = false) := by unfold Hid; rw [HOK.out]; simp [hid]
        clear HOK hid
        obtain ⟨ji, hji⟩ : ∃ x, x = j.id := ⟨_, rfl⟩
        rw [← hji] at q1 z0 hid32
        clear hji
        go_upto_region 4 with (first | (refine ld_jb rfl _ rfl _ _ rfl _ hrg ?_) | (refine st_jb rfl _ _ rfl _ _ rfl rfl j rfl rfl hone ?_))
        rw [← hW]
        clear hW
        go_wp2_with fail
        go_ret
        exact ⟨by rw [HZ.out HN.out]; rfl, HBW.out⟩
    · have d1 : decide ((i : Int) < (N : Int)) = false := decide_eq_false (by omega)
      have d1' : decide (i < N) = false := decide_eq_false hlt
      have HRR : Hid (r = 0) := HE.out fun q hq => HO.out q hq (by have := HN.out; omega)
      go_wp2_with fail
      go_ret
      exact ⟨by rw [HRR.out]; rfl, HB.out⟩
set_option maxRecDepth 100000 in
set_option maxHeartbeats 2000000 in
theorem rcheck14_any (v : Value) (l : List Jb) (w : World) (h : JRw w v l) :
    Calls Try.prog 13 #[v] w fun e w' => e = .returned (.int .i64 (chkJ l)) ∧ w' = w := by
  obtain ⟨a, c, rfl⟩ := h.row.slice
  obtain ⟨r, hr⟩ : ∃ r, r = chkJ l := ⟨_, rfl⟩
  have HE : Hid ((∀ q (hq : q < l.length), okJb l q = true) → r = 0) := fun hh => by
    rw [hr]; unfold chkJ; rw [if_pos]
    unfold okJs; rw [List.all_eq_true]; exact fun i hi => hh i (List.mem_range.1 hi)
  have HF : Hid (∀ q (hq : q < l.length), okJb l q = false → r = 2) := fun q hq hh => by
    rw [hr]; unfold chkJ; rw [if_neg]
    unfold okJs; rw [List.all_eq_true]; intro h; rw [h q (List.mem_range.2 hq)] at hh; cases hh
  rw [← hr]
  obtain ⟨N, hN⟩ : ∃ N, N = l.length := ⟨_, rfl⟩
  have HN := Lib.hid hN
  have HL := Lib.hid h
  have hlen := h.len
  rw [← hN] at hlen ⊢
  clear h hN hr
  go_enter Try.func13, Try.ntmps13
  go_wp2_with fail
  go_loopw [3] (fun iv wr => ∃ i : Nat, i ≤ N ∧ iv = .int .i64 (i : Nat) ∧ wr = w ∧ Hid (∀ q (hq : q < l.length), q < i → okJb l q = true)) (fun iv _ => N - (RowKit.intOf iv).toNat)
  case atStart => exact ⟨0, Nat.zero_le _, rfl, rfl, fun q _ h => by omega⟩
  case round =>
    obtain ⟨i, hi, rfl, rfl, HO⟩ := hrel
    by_cases hlt : i < N
    · have d1 : decide ((i : Int) < (N : Int)) = true := decide_eq_true (by omega)
      have d1' : decide (i < N) = true := decide_eq_true hlt
      have hii : (i : Int) < (N : Int) := by omega
      have hik : i < l.length := by rw [← HN.out]; exact hlt
      obtain ⟨bb, off, e, hrg⟩ := JRw.at HL.out (Below.refl _ _) hik
      subst e
      have hid32 : (l[i].id : Int) < 4294967296 := by have := (HL.out.ok _ (List.getElem_mem hik)).id; omega
      have HQ : Hid (okJb l i = true → ∀ q (hq : q < l.length), q < i + 1 → okJb l q = true) := fun hh q hq h2 => by
        by_cases e : q = i
        · subst e; exact hh
        · exact HO.out q hq (by omega)
      have HZ : Hid (okJb l i = false → r = 2) := HF.out i hik
      have HOK : Hid (okJb l i = (decide (l[i].id = i + 1) && decide (howJ l[i].how ≠ 0))) := okJb_at hik
      have x0 : wr.cell? ⟨bb, off + i * 26, none⟩ = some (.int .u32 (l[i].id : Nat)) := hrg 0 _ rfl
      have x19 : wr.cell? ⟨bb, off + i * 26 + 19, none⟩ = some (.int .i64 l[i].how) := hrg 19 _ rfl
      obtain ⟨ji, hji⟩ : ∃ x, x = l[i].id := ⟨_, rfl⟩
      obtain ⟨h, hh⟩ : ∃ x, x = l[i].how := ⟨_, rfl⟩
      rw [← hji] at HOK hid32 x0
      rw [← hh] at HOK x19
      have HK : Hid (howJ h = 0 ↔ h < 1 ∨ 9 < h) := by unfold Hid howJ; constructor <;> intro hx <;> (repeat split at hx) <;> first | omega | (repeat' split) <;> omega
      clear hji hh hrg
      have w32 : IntKind.u32.wrap ((i : Int) + 1) = (i : Int) + 1 := Int.emod_eq_of_lt (by omega) (by show _ < (4294967296 : Int); omega)
      by_cases hid : ji = i + 1
      · have q1 : ((ji : Int) != (i : Int) + 1) = false := by simp; omega
        by_cases h1 : h < 1
        · have d2 : decide (h < 1) = true := decide_eq_true h1
          have HN2 : Hid (okJb l i = false) := by unfold Hid; rw [HOK.out]; simp [hid, HK.out.2 (.inl h1)]
          clear HOK HK hid
          go_wp2_with fail
          go_ret
          exact ⟨by rw [HZ.out HN2.out]; rfl, rfl⟩
        · have d2 : decide (h < 1) = false := decide_eq_false h1
          by_cases h9 : 9 < h
          · have d3 : decide (h > 9) = true := decide_eq_true h9
            have d3' : decide (9 < h) = true := decide_eq_true h9
            have HN2 : Hid (okJb l i = false) := by unfold Hid; rw [HOK.out]; simp [hid, HK.out.2 (.inr h9)]
            clear HOK HK hid
            go_wp2_with fail
            go_ret
            exact ⟨by rw [HZ.out HN2.out]; rfl, rfl⟩
          · have d3 : decide (h > 9) = false := decide_eq_false h9
            have d3' : decide (9 < h) = false := decide_eq_false h9
            have HN2 : Hid (okJb l i = true) := by
              unfold Hid; rw [HOK.out]
              have : howJ h ≠ 0 := fun e => by have := HK.out.1 e; omega
              simp [hid, this]
            clear HOK HK hid
            go_wp2_with fail
            go_roundw
            case rel => exact ⟨i + 1, hlt, by go_num, trivial, HQ.out HN2.out⟩
            case measure => simp [RowKit.intOf]; omega
      · have q1 : ((ji : Int) != (i : Int) + 1) = true := by simp; omega
        have HN2 : Hid (okJb l i = false) := by unfold Hid; rw [HOK.out]; simp [hid]
        clear HOK HK hid
        go_wp2_with fail
        go_ret
        exact ⟨by rw [HZ.out HN2.out]; rfl, rfl⟩
    · have d1 : decide ((i : Int) < (N : Int)) = false := decide_eq_false (by omega)
      have d1' : decide (i < N) = false := decide_eq_false hlt
      have HRR : Hid (r = 0) := HE.out fun q hq => HO.out q hq (by have := HN.out; omega)
      go_wp2_with fail
      go_ret
      exact ⟨by rw [HRR.out]; rfl, rfl⟩
end

section
open Go Go.RowKit Go.Lib
/-- The job of that number, if the row is a table's and has it. -/
def findJ (l : List Jb) (id : Nat) : Option Jb := if okJs l = true ∧ 1 ≤ id then l[id - 1]? else none
theorem findJ_mem {l : List Jb} {id : Nat} {j : Jb} (h : findJ l id = some j) : okJs l = true ∧ 1 ≤ id ∧ ∃ hk : id - 1 < l.length, l[id - 1] = j := by
  unfold findJ at h
  split at h
  · rename_i hc; exact ⟨hc.1, hc.2, List.getElem?_eq_some_iff.1 h⟩
  · cases h
theorem findJ_none {l : List Jb} {id : Nat} (h : okJs l = true → 1 ≤ id → l.length < id) : findJ l id = none := by
  unfold findJ; split
  · rename_i hc; exact List.getElem?_eq_none (by have := h hc.1 hc.2; omega)
  · rfl
theorem findJ_at {l : List Jb} {id : Nat} (h : okJs l = true) (h1 : 1 ≤ id) (hk : id - 1 < l.length) : findJ l id = some l[id - 1] := by
  unfold findJ; rw [if_pos ⟨h, h1⟩, List.getElem?_eq_getElem hk]
def FindPost (l : List Jb) (id : Nat) (e : Ending) : Prop := (findJ l id = none ∧ e = .returned (.tuple #[.agg (jbC zJb), .bool false])) ∨ ∃ j, findJ l id = some j ∧ e = .returned (.tuple #[.agg (jbC j), .bool true])
theorem okJs_chk {l : List Jb} (h : okJs l = true) : chkJ l = 0 := by unfold chkJ; rw [if_pos h]
theorem notJs_chk {l : List Jb} (h : okJs l = false) : chkJ l = 2 := by unfold chkJ; rw [if_neg (by simp [h])]
set_option maxRecDepth 100000 in
set_option maxHeartbeats 2000000 in
theorem find_any (v : Value) (l : List Jb) (id : Nat) (w : World) (h : JRw w v l) (hid : id < 4294967296) :
    Calls Try.prog 29 #[v, .int .u32 (id : Nat)] w fun e w' => FindPost l id e ∧ Below w.heap.size w w' := by
  obtain ⟨a, c, rfl⟩ := h.row.slice
  obtain ⟨X, hX⟩ : ∃ X, X = w.alloc (.cells (jbC zJb) 41) := ⟨_, rfl⟩
  obtain ⟨gx, hgx⟩ : ∃ g, g = w.heap.size := ⟨_, rfl⟩
  have hbX : Below w.heap.size w X := by rw [hX]; exact (Below.refl _ _).alloc (Nat.le_refl _) _
  have hbk : Blk X gx (jbC zJb) 41 := by rw [hX, hgx]; exact Blk.new w _ _
  have CK := Lib.hid (wcheck_any (.slice a l.length c) l X (h.kept hbX))
  obtain ⟨N, hN⟩ : ∃ N, N = l.length := ⟨_, rfl⟩
  have HN := Lib.hid hN
  have HL := Lib.hid h
  have hlen := h.len
  rw [← hN] at CK hlen ⊢
  rw [zJbC_eq] at hX
  unfold zJbC at hX
  have HXX := Lib.hid hX
  have HGX := Lib.hid hgx
  have HBX := Lib.hid hbX
  have HBK := Lib.hid hbk
  clear h hN hX hgx hbX hbk
  obtain ⟨C0, hC0⟩ : ∃ C, C = chkJ l := ⟨_, rfl⟩
  have HC := Lib.hid hC0
  rw [← hC0] at CK
  clear hC0
  have HW0 : Hid (w.heap.size ≤ gx) := by unfold Hid; rw [HGX.out]; exact Nat.le_refl _
  have no : ∀ β : Bool, (C0 != 0) = β → Hid (findJ l id = none) → Hid (β = false → (id = 0 ∨ (id ≠ 0 ∧ N < id))) → Calls Try.prog 29 #[.slice a N c, .int .u32 (id : Nat)] w fun e w' => FindPost l id e ∧ Below w.heap.size w w' := by
    intro β q1 HF hor
    have main : ∀ γ δ : Bool, ((id : Int) == 0) = γ → (id == 0) = γ → decide ((id : Int) > (N : Int)) = δ → decide (N < id) = δ → Hid ((β || (γ || δ)) = true) → Calls Try.prog 29 #[.slice a N c, .int .u32 (id : Nat)] w fun e w' => FindPost l id e ∧ Below w.heap.size w w' := by
      intro γ δ q2 q3 q4 q5 HO
      go_enter Try.func29, Try.ntmps29
      go_upto_region 1 with fail
      rw [← HGX.out, ← HXX.out]
      go_wp2_with fail
      refine CK.out.mono ?_; rintro e w1 ⟨rfl, b1⟩
      have hB1 := HBK.out.kept b1
      have HB1 := Lib.hid (below_next b1 HBX.out)
      clear b1 CK
      have end1 : ∀ K, K = 1 → True := fun _ _ => trivial
      cases β with
      | true =>
        go_wp2_with (first | (refine st_jbo rfl _ _ rfl gx _ _ hB1 rfl zJb rfl rfl zJb_s ?_))
        refine bodyPost_ret (v := .tuple #[.agg (jbC zJb), .bool false]) (res_jb2 rfl _ _ gx zJb _ rfl _ rfl (hB1.setRow _)) rfl ⟨.inl ⟨HF.out, rfl⟩, below_setRow HB1.out HW0.out _⟩
      | false =>
        cases γ with
        | true =>
          go_wp2_with (first | (refine st_jbo rfl _ _ rfl gx _ _ hB1 rfl zJb rfl rfl zJb_s ?_))
          refine bodyPost_ret (v := .tuple #[.agg (jbC zJb), .bool false]) (res_jb2 rfl _ _ gx zJb _ rfl _ rfl (hB1.setRow _)) rfl ⟨.inl ⟨HF.out, rfl⟩, below_setRow HB1.out HW0.out _⟩
        | false =>
          cases δ with
          | true =>
            go_wp2_with (first | (refine st_jbo rfl _ _ rfl gx _ _ hB1 rfl zJb rfl rfl zJb_s ?_))
            refine bodyPost_ret (v := .tuple #[.agg (jbC zJb), .bool false]) (res_jb2 rfl _ _ gx zJb _ rfl _ rfl (hB1.setRow _)) rfl ⟨.inl ⟨HF.out, rfl⟩, below_setRow HB1.out HW0.out _⟩
          | false => exact absurd HO.out (by simp)
    exact main _ _ rfl (by cases id <;> simp <;> omega) rfl (by simp) (by
      unfold Hid
      cases hβ : β
      · rcases hor.out hβ with h | ⟨_, h⟩
        · simp [h]
        · simp [h]
      · rfl)
  cases hck : okJs l
  · have HF : Hid (findJ l id = none) := findJ_none fun h => by rw [hck] at h; cases h
    exact no true (by rw [HC.out, notJs_chk hck]; rfl) HF fun h => by cases h
  · have q1 : (C0 != 0) = false := by rw [HC.out, okJs_chk hck]; rfl
    by_cases h0 : id = 0
    · exact no false q1 (by unfold Hid findJ; rw [if_neg (by omega)]) fun _ => .inl h0
    · by_cases hlt : N < id
      · exact no false q1 (findJ_none fun _ _ => by rw [← HN.out]; exact hlt) fun _ => .inr ⟨h0, hlt⟩
      · obtain ⟨k, hk⟩ : ∃ k, k = id - 1 := ⟨_, rfl⟩
        have hkN : k < N := by omega
        have hik : k < l.length := by rw [← HN.out]; exact hkN
        have HFJ : Hid (findJ l id = some l[k]) := by
          unfold Hid findJ
          rw [if_pos ⟨hck, by omega⟩, ← hk, List.getElem?_eq_getElem hik]
        have q2 : ((id : Int) == 0) = false := by simp; omega
        have q3 : (id == 0) = false := by simp [h0]
        have q4 : decide ((id : Int) > (N : Int)) = false := decide_eq_false (by omega)
        have q5 : decide (N < id) = false := decide_eq_false hlt
        have q6 : decide (id > N) = false := decide_eq_false hlt
        have hone := HL.out.one (List.getElem_mem hik)
        have HRN : Hid (∀ w', Below w.heap.size w w' → ∃ b off, a = some ⟨b, off, none⟩ ∧ w'.rangeAt b (off + k * 26) (jbV l[k])) := fun w' hb => JRw.at HL.out hb hik
        have hk1 : IntKind.u32.wrap ((id : Int) - 1) = (k : Int) := by
          have : (id : Int) - 1 = (k : Int) := by omega
          rw [this]; exact Int.emod_eq_of_lt (by omega) (by show _ < (4294967296 : Int); omega)
        have hkN2 : (k : Int) < (N : Int) := by omega
        have hkd : decide ((k : Int) < (N : Int)) = true := decide_eq_true hkN2
        obtain ⟨j, hj⟩ : ∃ j, j = l[k] := ⟨_, rfl⟩
        rw [← hj] at HRN hone HFJ
        clear hj hk no hck HC h0 hlt
        go_enter Try.func29, Try.ntmps29
        go_upto_region 1 with fail
        rw [← HGX.out, ← HXX.out]
        go_wp2_with fail
        refine CK.out.mono ?_; rintro e w1 ⟨rfl, b1⟩
        have hB1 := HBK.out.kept b1
        have HB1 := Lib.hid (below_next b1 HBX.out)
        obtain ⟨bb, off, e, hrg⟩ := HRN.out w1 HB1.out
        subst e
        clear b1 CK HRN
        go_wp2_with (first | (refine ld_jb rfl _ rfl _ _ rfl _ hrg ?_) | (refine st_jbo rfl _ _ rfl gx _ _ hB1 rfl j rfl rfl hone ?_))
        refine bodyPost_ret (v := .tuple #[.agg (jbC j), .bool true]) (res_jb2 rfl _ _ gx j _ rfl _ rfl (hB1.setRow _)) rfl ⟨.inr ⟨j, HFJ.out, rfl⟩, below_setRow HB1.out HW0.out _⟩
end

section
open Go Go.RowKit Go.Lib
def otherJ (j o : Jb) : Bool := (o.id == j.id) || (!(o.name.toList == j.name.toList) || !(o.acct.toList == j.acct.toList))
def stirJ (j o : Jb) : Bool := (howJ o.how == 2) || ((howJ o.how == 1) && decide (o.id < j.id))
/-- Does a job stand in the way of one that wants to be alone? -/
def busyJ (j o : Jb) : Bool := !otherJ j o && stirJ j o
set_option maxRecDepth 100000 in
set_option maxHeartbeats 2000000 in
theorem busy_any (j o : Jb) (g : Nat) (w : World) (hone : JbS o) (hb : Blk w g (jbC j) 41) :
    Calls Try.prog 38 #[.agg (jbC o), .pointer (some ⟨g, 0, none⟩)] w fun e w' => e = .returned (.bool (busyJ j o)) ∧ Below w.heap.size w w' := by
  obtain ⟨gx, hgx⟩ : ∃ g, g = w.heap.size := ⟨_, rfl⟩
  obtain ⟨X, hX⟩ : ∃ X, X = w.alloc (.cells (jbC o) 41) := ⟨_, rfl⟩
  have hbX : Below w.heap.size w X := by rw [hX]; exact (Below.refl _ _).alloc (Nat.le_refl _) _
  have hbo : Blk X gx (jbC o) 41 := by rw [hX, hgx]; exact Blk.new w _ _
  have hbj := hb.kept hbX
  have x0 : X.cell? ⟨gx, 0, none⟩ = some (.int .u32 (o.id : Nat)) := blk_jb hbo 0
  have x3 : X.cell? ⟨gx, 3, none⟩ = some (.string o.name) := blk_jb hbo 3
  have x4 : X.cell? ⟨gx, 4, none⟩ = some (.string o.acct) := blk_jb hbo 4
  have y0 : X.cell? ⟨g, 0, none⟩ = some (.int .u32 (j.id : Nat)) := blk_jb hbj 0
  have y3 : X.cell? ⟨g, 3, none⟩ = some (.string j.name) := blk_jb hbj 3
  have y4 : X.cell? ⟨g, 4, none⟩ = some (.string j.acct) := blk_jb hbj 4
  have HR := Lib.hid (range_blk hbo)
  have C := Lib.hid (how_any o X)
  have HBX := Lib.hid hbX
  have HX1 : Hid (X = w.alloc (.cells (jbC o) 41)) := hX
  have HGX := Lib.hid hgx
  obtain ⟨r, hr⟩ : ∃ r, r = busyJ j o := ⟨_, rfl⟩
  rw [← hr]
  unfold busyJ otherJ stirJ at hr
  have HRR := Lib.hid hr
  obtain ⟨oi, hoi⟩ : ∃ x, x = o.id := ⟨_, rfl⟩
  obtain ⟨on, hon⟩ : ∃ x, x = o.name := ⟨_, rfl⟩
  obtain ⟨oa, hoa⟩ : ∃ x, x = o.acct := ⟨_, rfl⟩
  obtain ⟨ji, hji⟩ : ∃ x, x = j.id := ⟨_, rfl⟩
  obtain ⟨jn, hjn⟩ : ∃ x, x = j.name := ⟨_, rfl⟩
  obtain ⟨ja, hja⟩ : ∃ x, x = j.acct := ⟨_, rfl⟩
  obtain ⟨hv, hhv⟩ : ∃ x, x = howJ o.how := ⟨_, rfl⟩
  rw [← hhv] at C
  rw [← hhv, ← hoi, ← hji, ← hon, ← hjn, ← hoa, ← hja] at HRR
  rw [← hoi] at x0
  rw [← hon] at x3
  rw [← hoa] at x4
  rw [← hji] at y0
  rw [← hjn] at y3
  rw [← hja] at y4
  obtain ⟨J, hJ⟩ : ∃ J, J = jbC o := ⟨_, rfl⟩
  rw [← hJ] at HX1 ⊢
  have HJ := Lib.hid hJ
  clear hX hgx hbX hbo hbj hr hoi hon hoa hji hjn hja hhv hJ hb
  have go : ∀ (a1 a2 a3 b1 b2 b3 : Bool), ((oi : Int) == (ji : Int)) = a1 → (oi == ji) = a1 → (!(on.toList == jn.toList)) = a2 → (!(oa.toList == ja.toList)) = a3 → (hv == 2) = b1 → (hv == 1) = b2 → decide ((oi : Int) < (ji : Int)) = b3 → decide (oi < ji) = b3 → Hid (r = (!(a1 || (a2 || a3)) && (b1 || (b2 && b3)))) →
      Calls Try.prog 38 #[.agg J, .pointer (some ⟨g, 0, none⟩)] w fun e w' => e = .returned (.bool r) ∧ Below w.heap.size w w' := by
    intro a1 a2 a3 b1 b2 b3 p1 p1' p2 p3 p4 p5 p6 p6' HE
    go_enter Try.func38, Try.ntmps38
    go_upto_region 1 with fail
    rw [← HGX.out, ← HX1.out]
    cases a1 with
    | true =>
      go_wp2_with fail
      go_ret
      exact ⟨by rw [HE.out]; rfl, HBX.out⟩
    | false =>
      cases a2 with
      | true =>
        go_wp2_with fail
        go_ret
        exact ⟨by rw [HE.out]; rfl, HBX.out⟩
      | false =>
        cases a3 with
        | true =>
          go_wp2_with fail
          go_ret
          exact ⟨by rw [HE.out]; rfl, HBX.out⟩
        | false =>
          rw [HJ.out]
          go_upto_region 3 with fail
          go_wp2_with (first | (refine ld_jb rfl _ rfl _ _ rfl _ HR.out ?_))
          refine C.out.mono ?_; rintro e w1 ⟨rfl, bb1⟩
          have HB1 := Lib.hid (below_next bb1 HBX.out)
          have z0 := cell_next bb1 x0
          have z1 := cell_next bb1 y0
          clear bb1 C x0 x3 x4 y0 y3 y4 HR
          cases b1 with
          | true =>
            go_wp2_with fail
            go_ret
            exact ⟨by rw [HE.out]; rfl, HB1.out⟩
          | false =>
            cases b2 with
            | true =>
              go_wp2_with fail
              go_ret
              exact ⟨by rw [HE.out]; rfl, HB1.out⟩
            | false =>
              go_wp2_with fail
              go_ret
              exact ⟨by rw [HE.out]; rfl, HB1.out⟩
  exact go _ _ _ _ _ _ (by rw [Bool.eq_iff_iff]; simp <;> omega) rfl rfl rfl rfl rfl (by rw [Bool.eq_iff_iff]; simp <;> omega) rfl (by unfold Hid; rw [HRR.out])
set_option maxRecDepth 100000 in
set_option maxHeartbeats 2000000 in
theorem idxBusy_any (v : Value) (l : List Jb) (g : Nat) (j : Jb) (w : World) (h : JRw w v l) (hb : Blk w g (jbC j) 41) :
    Calls Try.prog 44 #[v, .func (.func 38) #[] #[.pointer (some ⟨g, 0, none⟩)]] w fun e w' => e = .returned (.int .i64 (idxG (busyJ j) l)) ∧ Below w.heap.size w w' := by
  obtain ⟨a, c, rfl⟩ := h.row.slice
  obtain ⟨r, hr⟩ : ∃ r, r = idxG (busyJ j) l := ⟨_, rfl⟩
  have HE : Hid ((∀ q (hq : q < l.length), busyJ j l[q] = false) → r = -1) := fun hh => by rw [hr]; exact idxG_none hh
  have HF : Hid (∀ k (hk : k < l.length), (∀ q (hq : q < l.length), q < k → busyJ j l[q] = false) → busyJ j l[k] = true → r = k) := fun k hk h1 h2 => by rw [hr]; exact idxG_at hk h1 h2
  rw [← hr]
  have HJB := Lib.hid hb
  obtain ⟨N, hN⟩ : ∃ N, N = l.length := ⟨_, rfl⟩
  have HN := Lib.hid hN
  have HL := Lib.hid h
  have hlen := h.len
  rw [← hN] at hlen ⊢
  clear h hN hr hb
  go_enter Try.func44, Try.ntmps44
  go_wp2_with fail
  go_loopw [8] (fun iv wr => ∃ i : Nat, i ≤ N ∧ iv = .int .i64 (i : Nat) ∧ Hid (∀ q (hq : q < l.length), q < i → busyJ j l[q] = false) ∧ Hid (Below w.heap.size w wr)) (fun iv _ => N - (RowKit.intOf iv).toNat)
  case atStart => exact ⟨0, Nat.zero_le _, rfl, fun q _ h => by omega, Below.refl _ _⟩
  case round =>
    obtain ⟨i, hi, rfl, HO, HB⟩ := hrel
    by_cases hlt : i < N
    · have d1 : decide ((i : Int) < (N : Int)) = true := decide_eq_true (by omega)
      have d1' : decide (i < N) = true := decide_eq_true hlt
      have hii : (i : Int) < (N : Int) := by omega
      have hik : i < l.length := by rw [← HN.out]; exact hlt
      obtain ⟨bb, off, e, hrg⟩ := JRw.at HL.out HB.out hik
      subst e
      have hone := HL.out.one (List.getElem_mem hik)
      have HQ : Hid (busyJ j l[i] = false → ∀ q (hq : q < l.length), q < i + 1 → busyJ j l[q] = false) := fun hh q hq h2 => by
        by_cases e : q = i
        · subst e; exact hh
        · exact HO.out q hq (by omega)
      have HZ : Hid (busyJ j l[i] = true → r = i) := fun hh => HF.out i hik HO.out hh
      obtain ⟨o, ho⟩ : ∃ o, o = l[i] := ⟨_, rfl⟩
      rw [← ho] at hrg hone HQ HZ
      have C := Lib.hid (busy_any j o g wr hone (HJB.out.kept HB.out))
      clear ho
      obtain ⟨β, hβ⟩ : ∃ β, β = busyJ j o := ⟨_, rfl⟩
      rw [← hβ] at C HQ HZ
      clear hβ HO
      cases β with
      | true =>
        go_wp2_with (first | (refine ld_jb rfl _ rfl _ _ rfl _ hrg ?_))
        refine C.out.mono ?_; rintro e w5 ⟨rfl, b5⟩
        have HB5 := Lib.hid (below_next b5 HB.out)
        clear b5 C
        go_wp2_with fail
        go_ret
        exact ⟨by rw [HZ.out trivial]; rfl, HB5.out⟩
      | false =>
        go_wp2_with (first | (refine ld_jb rfl _ rfl _ _ rfl _ hrg ?_))
        refine C.out.mono ?_; rintro e w5 ⟨rfl, b5⟩
        have HB5 := Lib.hid (below_next b5 HB.out)
        clear b5 C
        go_wp2_with fail
        go_roundw
        case rel => exact ⟨i + 1, hlt, by go_num, HQ.out trivial, HB5.out⟩
        case measure => simp [RowKit.intOf]; omega
    · have d1 : decide ((i : Int) < (N : Int)) = false := decide_eq_false (by omega)
      have d1' : decide (i < N) = false := decide_eq_false hlt
      have HRR : Hid (r = -1) := HE.out fun q hq => HO.out q hq (by have := HN.out; omega)
      go_wp2_with fail
      go_ret
      exact ⟨by rw [HRR.out]; rfl, HB.out⟩
theorem hasBusy_any (v : Value) (l : List Jb) (g : Nat) (j : Jb) (w : World) (h : JRw w v l) (hb : Blk w g (jbC j) 41) :
    Calls Try.prog 37 #[v, .func (.func 38) #[] #[.pointer (some ⟨g, 0, none⟩)]] w fun e w' => e = .returned (.bool (l.any (busyJ j))) ∧ Below w.heap.size w w' := by
  have HI := Lib.hid (idxBusy_any v l g j w h hb)
  obtain ⟨a, c, rfl⟩ := h.row.slice
  have E := idxG_any (busyJ j) l
  generalize idxG (busyJ j) l = r at *
  generalize (l.any (busyJ j)) = f at *
  generalize l.length = N at *
  clear h hb
  have HE := Lib.hid E
  clear E
  go_enter Try.func37, Try.ntmps37
  go_wp2_with fail
  refine HI.out.mono ?_; rintro e w1 ⟨rfl, b1⟩
  go_wp2_with fail
  go_ret
  rw [← HE.out]
  exact ⟨rfl, b1⟩
def aloneJ (l : List Jb) (j : Jb) : Bool := !l.any (busyJ j)
theorem alone_any (v : Value) (l : List Jb) (j : Jb) (w : World) (h : JRw w v l) :
    Calls Try.prog 30 #[v, .agg (jbC j)] w fun e w' => e = .returned (.bool (aloneJ l j)) ∧ Below w.heap.size w w' := by
  obtain ⟨a, c, rfl⟩ := h.row.slice
  obtain ⟨gx, hgx⟩ : ∃ g, g = w.heap.size := ⟨_, rfl⟩
  obtain ⟨X, hX⟩ : ∃ X, X = w.alloc (.cells (jbC j) 41) := ⟨_, rfl⟩
  have hbX : Below w.heap.size w X := by rw [hX]; exact (Below.refl _ _).alloc (Nat.le_refl _) _
  have hbj : Blk X gx (jbC j) 41 := by rw [hX, hgx]; exact Blk.new w _ _
  have C := Lib.hid (hasBusy_any (.slice a l.length c) l gx j X (h.kept hbX) hbj)
  have HBX := Lib.hid hbX
  have HGX := Lib.hid hgx
  obtain ⟨β, hβ⟩ : ∃ β, β = l.any (busyJ j) := ⟨_, rfl⟩
  unfold aloneJ
  rw [← hβ] at C ⊢
  generalize l.length = N at *
  generalize jbC j = J at *
  have HXX := Lib.hid hX
  clear hX hgx hbX hbj hβ h
  go_enter Try.func30, Try.ntmps30
  go_upto_region 1 with fail
  rw [← HGX.out, ← HXX.out]
  go_wp2_with fail
  refine C.out.mono ?_; rintro e w1 ⟨rfl, b1⟩
  have HB1 := Lib.hid (below_next b1 HBX.out)
  clear b1 C
  go_wp2_with fail
  go_ret
  exact ⟨rfl, HB1.out⟩
end

section
open Go Go.RowKit Go.Lib
def AloneJ (l : List Jb) (id : Nat) : Bool := match findJ l id with | some j => aloneJ l j | none => false
theorem findJ_one {w : World} {v : Value} {l : List Jb} {id : Nat} {j : Jb} (h : JRw w v l) (hf : findJ l id = some j) : JbS j := by
  obtain ⟨_, _, hk, e⟩ := findJ_mem hf
  rw [← e]; exact h.one (List.getElem_mem hk)
set_option maxRecDepth 100000 in
set_option maxHeartbeats 2000000 in
theorem Alone_any (v : Value) (l : List Jb) (id : Nat) (w : World) (h : JRw w v l) (hid : id < 4294967296) :
    Calls Try.prog 16 #[v, .int .u32 (id : Nat)] w fun e w' => e = .returned (.bool (AloneJ l id)) ∧ Below w.heap.size w w' := by
  have F := Lib.hid (find_any v l id w h hid)
  have HL := Lib.hid h
  obtain ⟨a, c, rfl⟩ := h.row.slice
  obtain ⟨N, hN⟩ : ∃ N, N = l.length := ⟨_, rfl⟩
  rw [← hN] at F ⊢
  have HN := Lib.hid hN
  clear h hN
  go_enter Try.func16, Try.ntmps16
  go_wp2_with fail
  refine F.out.mono ?_; rintro e w1 ⟨hf, b1⟩
  obtain ⟨W, hW⟩ : ∃ W, ∀ j, W j = w1.alloc (.cells (jbC j) 41) := ⟨fun j => w1.alloc (.cells (jbC j) 41), fun _ => rfl⟩
  rcases hf with ⟨hf, rfl⟩ | ⟨j, hf, rfl⟩
  · have HE : Hid (AloneJ l id = false) := by unfold Hid AloneJ; rw [hf]
    have HB : Hid (Below w.heap.size w (W zJb)) := by unfold Hid; rw [hW]; exact below_next ((Below.refl _ _).alloc (Nat.le_refl _) _) b1
    go_upto_region 2 with (first | (refine st_jb rfl _ _ rfl _ _ rfl rfl zJb rfl rfl zJb_s ?_))
    rw [← hW]
    clear hW b1 hf F
    go_wp2_with fail
    go_ret
    exact ⟨by rw [HE.out]; rfl, HB.out⟩
  · have hone := findJ_one HL.out hf
    have HE : Hid (AloneJ l id = aloneJ l j) := by unfold Hid AloneJ; rw [hf]
    have hbW : Below w1.heap.size w1 (W j) := by rw [hW]; exact (Below.refl _ _).alloc (Nat.le_refl _) _
    have hbn : Blk (W j) w1.heap.size (jbC j) 41 := by rw [hW]; exact Blk.new _ _ _
    have HB := Lib.hid (below_next hbW b1)
    have HRN := Lib.hid (range_blk hbn)
    have C := Lib.hid (alone_any (.slice a l.length c) l j (W j) (HL.out.kept HB.out))
    rw [← HN.out] at C
    go_upto_region 2 with (first | (refine st_jb rfl _ _ rfl _ _ rfl rfl j rfl rfl hone ?_))
    rw [← hW]
    clear hW b1 hf F hbW hbn
    go_wp2_with (first | (refine ld_jbg rfl _ rfl _ _ rfl _ HRN.out ?_))
    refine C.out.mono ?_; rintro e w2 ⟨rfl, b2⟩
    have HB2 := Lib.hid (below_next b2 HB.out)
    clear b2 C
    go_wp2_with fail
    go_ret
    exact ⟨by rw [HE.out]; rfl, HB2.out⟩
/-! How many of an array run. -/
def runJ (j o : Jb) : Bool := (o.arr == j.arr) && (howJ o.how == 2)
def roomJ (l : List Jb) (j : Jb) : Bool := (j.arr == 0) || ((j.most == 0) || decide (((l.countP (runJ j) : Nat) : Int) < j.most))
def RoomJ (l : List Jb) (id : Nat) : Bool := match findJ l id with | some j => roomJ l j | none => false
theorem count_take {α : Type} (p : α → Bool) (l : List α) {i : Nat} (h : i < l.length) : (l.take (i + 1)).countP p = (l.take i).countP p + if p l[i] = true then 1 else 0 := by
  rw [List.take_add_one, List.getElem?_eq_getElem h, List.countP_append]
  simp [List.countP_cons]
theorem count_le {α : Type} (p : α → Bool) (l : List α) (i : Nat) : (l.take i).countP p ≤ i := Nat.le_trans List.countP_le_length (by rw [List.length_take]; omega)
set_option maxRecDepth 100000 in
set_option maxHeartbeats 2000000 in
theorem room_any (v : Value) (l : List Jb) (j : Jb) (w : World) (h : JRw w v l) :
    Calls Try.prog 32 #[v, .agg (jbC j)] w fun e w' => e = .returned (.bool (roomJ l j)) ∧ Below w.heap.size w w' := by
  obtain ⟨a, c, rfl⟩ := h.row.slice
  obtain ⟨gx, hgx⟩ : ∃ g, g = w.heap.size := ⟨_, rfl⟩
  obtain ⟨X, hX⟩ : ∃ X, X = w.alloc (.cells (jbC j) 41) := ⟨_, rfl⟩
  have hbX : Below w.heap.size w X := by rw [hX]; exact (Below.refl _ _).alloc (Nat.le_refl _) _
  have hbj : Blk X gx (jbC j) 41 := by rw [hX, hgx]; exact Blk.new w _ _
  have y1 : X.cell? ⟨gx, 1, none⟩ = some (.int .u32 (j.arr : Nat)) := blk_jb hbj 1
  have y10 : X.cell? ⟨gx, 10, none⟩ = some (.int .i64 j.most) := blk_jb hbj 10
  have HL := Lib.hid (h.kept hbX)
  have HBX := Lib.hid hbX
  have HGX := Lib.hid hgx
  obtain ⟨r, hr⟩ : ∃ r, r = roomJ l j := ⟨_, rfl⟩
  rw [← hr]
  unfold roomJ at hr
  obtain ⟨ar, har⟩ : ∃ x, x = j.arr := ⟨_, rfl⟩
  obtain ⟨mo, hmo⟩ : ∃ x, x = j.most := ⟨_, rfl⟩
  rw [← har, ← hmo] at hr
  rw [← har] at y1
  rw [← hmo] at y10
  have HR := Lib.hid hr
  have HAR := Lib.hid har
  obtain ⟨N, hN⟩ : ∃ N, N = l.length := ⟨_, rfl⟩
  rw [← hN]
  have HN := Lib.hid hN
  have hlen := h.len
  rw [← hN] at hlen
  generalize jbC j = J at *
  have HXX := Lib.hid hX
  have HY1 := Lib.hid y1
  have hgl : gx < X.heap.size := hbj.lt
  clear hX hgx hbX hbj h hr har hmo hN
  have main : ∀ e1 e2 : Bool, ((ar : Int) == 0) = e1 → (ar == 0) = e1 → (mo == 0) = e2 → Calls Try.prog 32 #[.slice a N c, .agg J] w fun e w' => e = .returned (.bool r) ∧ Below w.heap.size w w' := by
    intro e1 e2 q1 q1' q2
    have HE : Hid (r = (e1 || (e2 || decide (((l.countP (runJ j) : Nat) : Int) < mo)))) := by unfold Hid; rw [HR.out, q1', q2]
    clear HR
    go_enter Try.func32, Try.ntmps32
    go_upto_region 1 with fail
    rw [← HGX.out, ← HXX.out]
    cases e1 with
    | true =>
      go_wp2_with fail
      go_ret
      exact ⟨by rw [HE.out]; rfl, HBX.out⟩
    | false =>
      cases e2 with
      | true =>
        go_wp2_with fail
        go_ret
        exact ⟨by rw [HE.out]; rfl, HBX.out⟩
      | false =>
        go_wp2_with fail
        go_loopw [6, 22] (fun nv iv wr => ∃ i n : Nat, i ≤ N ∧ n ≤ i ∧ iv = .int .i64 (i : Nat) ∧ nv = .int .i64 (n : Nat) ∧ Hid (n = (l.take i).countP (runJ j)) ∧ Hid (Below X.heap.size X wr)) (fun _ iv _ => N - (RowKit.intOf iv).toNat)
        case atStart => exact ⟨0, 0, Nat.zero_le _, Nat.zero_le _, rfl, rfl, rfl, Below.refl _ _⟩
        case round =>
          obtain ⟨i, n, hi, hni, rfl, rfl, HO, HB⟩ := hrel
          by_cases hlt : i < N
          · have d1 : decide ((i : Int) < (N : Int)) = true := decide_eq_true (by omega)
            have d1' : decide (i < N) = true := decide_eq_true hlt
            have hii : (i : Int) < (N : Int) := by omega
            have hik : i < l.length := by rw [← HN.out]; exact hlt
            obtain ⟨bb, off, e, hrg⟩ := JRw.at HL.out HB.out hik
            subst e
            have hone := HL.out.one (List.getElem_mem hik)
            have HCT : Hid ((l.take (i + 1)).countP (runJ j) = (l.take i).countP (runJ j) + if runJ j l[i] = true then 1 else 0) := count_take _ _ hik
            rw [← HO.out] at HCT
            obtain ⟨o, ho⟩ : ∃ o, o = l[i] := ⟨_, rfl⟩
            rw [← ho] at hrg hone HCT
            unfold runJ at HCT
            rw [← HAR.out] at HCT
            clear ho HO
            obtain ⟨W, hW⟩ : ∃ W, W = wr.alloc (.cells (jbC o) 41) := ⟨_, rfl⟩
            have hbW : Below wr.heap.size wr W := by rw [hW]; exact (Below.refl _ _).alloc (Nat.le_refl _) _
            have hbn : Blk W wr.heap.size (jbC o) 41 := by rw [hW]; exact Blk.new _ _ _
            have z1 : W.cell? ⟨wr.heap.size, 1, none⟩ = some (.int .u32 (o.arr : Nat)) := blk_jb hbn 1
            have HBW := Lib.hid (below_next hbW HB.out)
            have y1 := cell_next HBW.out HY1.out
            have C := Lib.hid (how_any o W)
            have HRN := Lib.hid (range_blk hbn)
            obtain ⟨oa, hoa⟩ : ∃ x, x = o.arr := ⟨_, rfl⟩
            rw [← hoa] at z1 HCT
            obtain ⟨hv, hhv⟩ : ∃ x, x = howJ o.how := ⟨_, rfl⟩
            rw [← hhv] at C HCT
            clear hoa hhv hbW hbn
            go_upto_region 8 with (first | (refine ld_jb rfl _ rfl _ _ rfl _ hrg ?_) | (refine st_jb rfl _ _ rfl _ _ rfl rfl o rfl rfl hone ?_))
            rw [← hW]
            clear hW hrg
            by_cases h1 : oa = ar
            · have p1 : ((oa : Int) == (ar : Int)) = true := by simp; omega
              have p1' : (oa == ar) = true := by simp; omega
              have HC2 : Hid ((l.take (i + 1)).countP ((fun o : Jb => (o.arr == ar) && (howJ o.how == 2))) = n + if (hv == 2) = true then 1 else 0) := by
                unfold Hid
                have := HCT.out
                rw [p1', Bool.true_and] at this
                exact this
              clear HCT h1
              go_wp2_with (first | (refine ld_jbg rfl _ rfl _ _ rfl _ HRN.out ?_))
              refine C.out.mono ?_; rintro e w5 ⟨rfl, b5⟩
              have HB5 := Lib.hid (below_next b5 HBW.out)
              clear b5 C z1 y1
              cases hb : (hv == 2) with
              | true =>
                have HC3 : Hid (n + 1 = (l.take (i + 1)).countP (runJ j)) := by
                  unfold Hid; have := HC2.out; rw [hb, if_pos rfl] at this; unfold runJ; rw [← HAR.out]; exact this.symm
                clear HC2
                go_wp2_with fail
                go_roundw
                case rel => exact ⟨i + 1, n + 1, hlt, by omega, by go_num, by go_num, HC3.out, HB5.out⟩
                case measure => simp [RowKit.intOf]; omega
              | false =>
                have HC3 : Hid (n = (l.take (i + 1)).countP (runJ j)) := by
                  unfold Hid; have := HC2.out; rw [hb, if_neg (by simp)] at this; unfold runJ; rw [← HAR.out]; exact this.symm
                clear HC2
                go_wp2_with fail
                go_roundw
                case rel => exact ⟨i + 1, n, hlt, by omega, by go_num, rfl, HC3.out, HB5.out⟩
                case measure => simp [RowKit.intOf]; omega
            · have p1 : ((oa : Int) == (ar : Int)) = false := by simp; omega
              have p1' : (oa == ar) = false := by simp; omega
              have HC3 : Hid (n = (l.take (i + 1)).countP (runJ j)) := by
                unfold Hid
                have := HCT.out
                rw [p1', Bool.false_and, if_neg (by simp)] at this
                unfold runJ; rw [← HAR.out]; exact this.symm
              clear HCT h1 C
              go_wp2_with fail
              go_roundw
              case rel => exact ⟨i + 1, n, hlt, by omega, by go_num, rfl, HC3.out, HBW.out⟩
              case measure => simp [RowKit.intOf]; omega
          · have d1 : decide ((i : Int) < (N : Int)) = false := decide_eq_false (by omega)
            have d1' : decide (i < N) = false := decide_eq_false hlt
            have HCT : Hid (r = decide ((n : Int) < mo)) := by
              unfold Hid; rw [HE.out, HO.out, List.take_of_length_le (by have := HN.out; omega)]; rfl
            have HB6 := Lib.hid (below_next HB.out HBX.out)
            go_wp2_with fail
            go_ret
            exact ⟨by rw [HCT.out]; rfl, HB6.out⟩
  exact main _ _ rfl (by rw [Bool.eq_iff_iff]; simp) rfl
set_option maxRecDepth 100000 in
set_option maxHeartbeats 2000000 in
theorem Room_any (v : Value) (l : List Jb) (id : Nat) (w : World) (h : JRw w v l) (hid : id < 4294967296) :
    Calls Try.prog 18 #[v, .int .u32 (id : Nat)] w fun e w' => e = .returned (.bool (RoomJ l id)) ∧ Below w.heap.size w w' := by
  have F := Lib.hid (find_any v l id w h hid)
  have HL := Lib.hid h
  obtain ⟨a, c, rfl⟩ := h.row.slice
  obtain ⟨N, hN⟩ : ∃ N, N = l.length := ⟨_, rfl⟩
  rw [← hN] at F ⊢
  have HN := Lib.hid hN
  clear h hN
  go_enter Try.func18, Try.ntmps18
  go_wp2_with fail
  refine F.out.mono ?_; rintro e w1 ⟨hf, b1⟩
  obtain ⟨W, hW⟩ : ∃ W, ∀ j, W j = w1.alloc (.cells (jbC j) 41) := ⟨fun j => w1.alloc (.cells (jbC j) 41), fun _ => rfl⟩
  rcases hf with ⟨hf, rfl⟩ | ⟨j, hf, rfl⟩
  · have HE : Hid (RoomJ l id = false) := by unfold Hid RoomJ; rw [hf]
    have HB : Hid (Below w.heap.size w (W zJb)) := by unfold Hid; rw [hW]; exact below_next ((Below.refl _ _).alloc (Nat.le_refl _) _) b1
    go_upto_region 2 with (first | (refine st_jb rfl _ _ rfl _ _ rfl rfl zJb rfl rfl zJb_s ?_))
    rw [← hW]
    clear hW b1 hf F
    go_wp2_with fail
    go_ret
    exact ⟨by rw [HE.out]; rfl, HB.out⟩
  · have hone := findJ_one HL.out hf
    have HE : Hid (RoomJ l id = roomJ l j) := by unfold Hid RoomJ; rw [hf]
    have hbW : Below w1.heap.size w1 (W j) := by rw [hW]; exact (Below.refl _ _).alloc (Nat.le_refl _) _
    have hbn : Blk (W j) w1.heap.size (jbC j) 41 := by rw [hW]; exact Blk.new _ _ _
    have HB := Lib.hid (below_next hbW b1)
    have HRN := Lib.hid (range_blk hbn)
    have C := Lib.hid (room_any (.slice a l.length c) l j (W j) (HL.out.kept HB.out))
    rw [← HN.out] at C
    go_upto_region 2 with (first | (refine st_jb rfl _ _ rfl _ _ rfl rfl j rfl rfl hone ?_))
    rw [← hW]
    clear hW b1 hf F hbW hbn
    go_wp2_with (first | (refine ld_jbg rfl _ rfl _ _ rfl _ HRN.out ?_))
    refine C.out.mono ?_; rintro e w2 ⟨rfl, b2⟩
    have HB2 := Lib.hid (below_next b2 HB.out)
    clear b2 C
    go_wp2_with fail
    go_ret
    exact ⟨by rw [HE.out]; rfl, HB2.out⟩
end

end Go.Proofs.Ytfabjlhepadkpaa
