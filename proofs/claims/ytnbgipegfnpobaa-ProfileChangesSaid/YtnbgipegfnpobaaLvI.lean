/-
  slices.CompactFunc at levels of the caller's own, profile.compact.
-/
import Derived.Test.YtnbgipegfnpobaaLvH
import Derived.Test.YtnbgipegfnpobaaPr6
namespace Go.Proofs.Ytnbgipegfnpobaa
open Go Go.RowKit Go.Lib
set_option linter.unusedVariables false

theorem cl2_any (x1 x2 y1 y2 : Int) (w : World) : Calls Try.prog 48 #[.agg #[.int .i64 x1, .int .i64 x2], .agg #[.int .i64 y1, .int .i64 y2]] w fun e w' => e = .returned (.bool (x2 == y2)) ∧ Below w.heap.size w w' := by
  go_enter Try.func48, Try.ntmps48
  go_wp2_with fail
  go_ret
  exact ⟨rfl, ((Below.refl _ _).alloc (Nat.le_refl _) _).alloc (by simp) _⟩

/-- The row in the midst of it: I levels kept of the first p, the rest from p - 1 on as they were. -/
structure Mid (w : World) (g : Nat) (xs : List Lv) (cap p : Nat) : Prop where
  blk : ∃ cur, Blk w g cur 49 ∧ cur.size = cap * 2
  front : ∀ i, i < (cN xs p).length → w.cell? ⟨g, i * 2, none⟩ = some (.int .i64 (lv (cN xs p) i).1) ∧ w.cell? ⟨g, i * 2 + 1, none⟩ = some (.int .i64 (lv (cN xs p) i).2)
  back : ∀ q, p ≤ q + 1 → q < xs.length → w.cell? ⟨g, q * 2, none⟩ = some (.int .i64 (lv xs q).1) ∧ w.cell? ⟨g, q * 2 + 1, none⟩ = some (.int .i64 (lv xs q).2)
theorem Mid.kept {w w' : World} {g : Nat} {xs : List Lv} {cap p : Nat} (h : Mid w g xs cap p) (hb : Below w.heap.size w w') : Mid w' g xs cap p := by
  obtain ⟨cur, h1, h2⟩ := h.blk
  exact ⟨⟨cur, h1.kept hb, h2⟩, fun i hi => ⟨cell_next hb (h.front i hi).1, cell_next hb (h.front i hi).2⟩, fun q h3 h4 => ⟨cell_next hb (h.back q h3 h4).1, cell_next hb (h.back q h3 h4).2⟩⟩
theorem Mid.dup {w : World} {g : Nat} {xs : List Lv} {cap p : Nat} (h : Mid w g xs cap p) (hd : dupAt xs p) : Mid w g xs cap (p + 1) :=
  ⟨h.blk, by rw [cN_succ_dup hd]; exact h.front, fun q h3 h4 => h.back q (by omega) h4⟩
theorem Mid.new {w : World} {g : Nat} {xs : List Lv} {cap p I : Nat} (h : Mid w g xs cap p) (hI : I = (cN xs p).length) (hIp : I + 1 ≤ p) (hp : p < xs.length) (hcap : xs.length ≤ cap) (hd : ¬ dupAt xs p) :
    Mid ((w.setCell ⟨g, I * 2, none⟩ (.int .i64 (lv xs p).1)).setCell ⟨g, I * 2 + 1, none⟩ (.int .i64 (lv xs p).2)) g xs cap (p + 1) := by
  obtain ⟨cur, h1, h2⟩ := h.blk
  have k1 := (h1.set (I * 2) (.int .i64 (lv xs p).1)).set (I * 2 + 1) (.int .i64 (lv xs p).2)
  have hat : ∀ o, ((w.setCell ⟨g, I * 2, none⟩ (.int .i64 (lv xs p).1)).setCell ⟨g, I * 2 + 1, none⟩ (.int .i64 (lv xs p).2)).cell? ⟨g, o, none⟩ =
      if o = I * 2 + 1 then some (.int .i64 (lv xs p).2) else if o = I * 2 then some (.int .i64 (lv xs p).1) else w.cell? ⟨g, o, none⟩ := fun o => by
    rw [k1.cell, h1.cell, Array.getElem?_setIfInBounds, Array.getElem?_setIfInBounds]
    have b1 : I * 2 + 1 < cur.size := by omega
    by_cases e1 : o = I * 2 + 1
    · subst e1; simp [b1]
    · rw [if_neg e1, if_neg (by omega)]
      by_cases e2 : o = I * 2
      · subst e2; simp; omega
      · rw [if_neg e2, if_neg (by omega)]
  refine ⟨⟨_, k1, by simp [h2]⟩, fun i hi => ?_, fun q h3 h4 => ?_⟩
  · rw [cN_succ_new hd] at hi ⊢
    rw [List.length_append, List.length_cons, List.length_nil] at hi
    rw [hat, hat]
    by_cases e : i = I
    · rw [e, hI, lv_append_mid]
      constructor
      · rw [if_neg (by omega), if_pos rfl]
      · rw [if_pos rfl]
    · rw [if_neg (by omega), if_neg (by omega), if_neg (by omega), if_neg (by omega), lv_append_left (by omega)]
      exact h.front i (by omega)
  · rw [hat, hat, if_neg (by omega), if_neg (by omega), if_neg (by omega), if_neg (by omega)]
    exact h.back q (by omega) h4

theorem lown_of_cells {w : World} {base g cap : Nat} {cur : Array Value} {xs : List Lv} (hbg : base ≤ g) (hg : Blk w g cur 49) (hs : cur.size = cap * 2) (hl : xs.length ≤ cap) (hcm : cap ≤ maxLen)
    (hc : ∀ i, i < xs.length → w.cell? ⟨g, i * 2, none⟩ = some (.int .i64 (lv xs i).1) ∧ w.cell? ⟨g, i * 2 + 1, none⟩ = some (.int .i64 (lv xs i).2)) : LOwn w base (.slice (some ⟨g, 0, none⟩) xs.length cap) xs := by
  refine ⟨flV_len xs, .inr ⟨g, cap, cur, rfl, hbg, hg, hl, hcm, hs, ?_⟩⟩
  apply List.ext_getElem?
  intro q
  by_cases hq : q < xs.length * 2
  · rw [List.getElem?_take_of_lt hq, Array.getElem?_toList, ← hg.cell]
    have hj : q / 2 < xs.length := by omega
    have h1 := flV_get xs (q / 2) (q % 2) hj (by omega)
    have e : q = q / 2 * 2 + q % 2 := by omega
    rw [show q / 2 * 2 + q % 2 = q by omega] at h1
    rw [h1]
    rcases (by omega : q % 2 = 0 ∨ q % 2 = 1) with hm | hm
    · rw [hm, Nat.add_zero] at e
      rw [hm]
      conv => lhs; rw [e]
      exact (hc (q / 2) hj).1
    · rw [hm] at e ⊢
      conv => lhs; rw [e]
      exact (hc (q / 2) hj).2
  · rw [List.getElem?_take_eq_none (by omega), List.getElem?_eq_none (by rw [flV_len]; omega)]

theorem clear_tail {w wr : World} {base g cap k j I : Nat} {xs : List Lv} (hbase : base ≤ w.heap.size) (hbg : base ≤ g) (hB : Below base w wr) (hcap : xs.length ≤ cap) (hcm : cap ≤ maxLen) (hI : I = (cN xs (k + j)).length) (hje : k + j = xs.length) (hIn : I < xs.length)
    (hM : Mid wr g xs cap (k + j)) (hcm2 : cN xs (k + j) = cmpct xs) :
    ∃ w5, (∀ ty c, (Builtin.clear_ #[22] ty #[.slice (some ⟨g, I * 2, none⟩) (xs.length - I) c]).run Try.prog wr = .ok (.tuple #[]) w5) ∧
      LOwn w5 base (.slice (some ⟨g, 0, none⟩) I cap) (cmpct xs) ∧ Below base w w5 := by
  obtain ⟨i0, hi, hz0, hz1, hz2⟩ := info_parts Try.infoLv
  obtain ⟨z, hz⟩ : ∃ z : Value, z = .agg #[.int .i64 0, .int .i64 0] := ⟨_, rfl⟩
  have hzc : z.cells.size = 2 := by rw [hz]; rfl
  have hzero : ∀ w, (zeroValue 49).run Try.prog w = .ok z w := fun w => by rw [hz]; simp [zeroValue, typeInfo, hi, hz0]
  have hz1c : ∀ v ∈ (Builtin.zeroCells z.cells (xs.length - I)).toList, v.oneCell' = true := by
    intro v hv
    rw [Array.mem_toList_iff] at hv
    unfold Builtin.zeroCells at hv
    obtain ⟨q, _, rfl⟩ := Array.mem_map.1 hv
    have : q % z.cells.size < 2 := by rw [hzc]; omega
    generalize q % z.cells.size = r at *
    rw [hz]
    rcases (by omega : r = 0 ∨ r = 1) with rfl | rfl <;> rfl
  obtain ⟨cur1, hb1, hs1⟩ := hM.blk
  rw [hcm2] at hI
  have ho : LOwn wr base (.slice (some ⟨g, 0, none⟩) (cmpct xs).length cap) (cmpct xs) := lown_of_cells hbg hb1 hs1 (by omega) hcm fun i hi => by
    have := hM.front i (by rw [hcm2]; exact hi)
    rw [hcm2] at this
    exact this
  rw [← hI] at ho
  refine ⟨_, fun ty c => run_clear_rows wr 22 49 ty z Try.underlying22 hzero g (I * 2) (xs.length - I) c hz1c (by omega)
    (fun q hq => by rw [hzc] at hq; rw [hb1.cell, Array.getElem?_eq_getElem (by omega)]; rfl) (fun q _ => hb1.free _), ?_, ?_⟩
  · have := owns_tail (n := I) (by rw [hI] at ho ⊢; exact ho) (I * 2) (Builtin.zeroCells z.cells (xs.length - I)).toList (Nat.le_refl _)
    rw [hI] at this ⊢
    exact this
  · exact hB.grown (grownBy_setCells g _ _ wr) (Nat.le_trans hbase hB.size) fun k hk => by simp at hk; omega

set_option maxRecDepth 100000 in
set_option maxHeartbeats 4000000 in
theorem compactF_row (base g cap : Nat) (cur : Array Value) (xs : List Lv) (w : World) (hn : xs.length ≤ 1048576) (h2 : 2 ≤ xs.length) (hcap : xs.length ≤ cap) (hcm : cap ≤ maxLen) (hbg : base ≤ g) (hbase : base ≤ w.heap.size) (hg : Blk w g cur 49) (hgs : cur.size = cap * 2) (hc : LCells w g 0 xs) :
    Calls Try.prog 47 #[.slice (some ⟨g, 0, none⟩) xs.length cap, .func (.func 48) #[] #[]] w
      fun e w' => ∃ v', e = .returned v' ∧ LOwn w' base v' (cmpct xs) ∧ Below base w w' := by
  have HC := Lib.hid hc
  have CL : Hid (∀ x1 x2 y1 y2 w, Calls Try.prog 48 #[.agg #[.int .i64 x1, .int .i64 x2], .agg #[.int .i64 y1, .int .i64 y2]] w fun e w' => e = .returned (.bool (x2 == y2)) ∧ Below w.heap.size w w') := fun x1 x2 y1 y2 w => cl2_any x1 x2 y1 y2 w
  have HG := Lib.hid hg
  have t0 : decide (xs.length < 2) = false := decide_eq_false (by omega)
  have t0' : decide ((xs.length : Int) < 2) = false := decide_eq_false (by omega)
  clear hc hg
  go_enter Try.func47, Try.ntmps47
  go_wp2_with fail
  go_loopw [5] (fun i wr => ∃ k : Nat, 1 ≤ k ∧ k ≤ xs.length ∧ i = .int .i64 k ∧ Hid (∀ q, q < k → ¬ dupAt xs q) ∧ Below w.heap.size w wr) (fun i _ => xs.length - (RowKit.intOf i).toNat)
  case atStart => exact ⟨1, Nat.le_refl _, by omega, rfl, (fun q hq h => by have := h.1; omega), Below.refl _ _⟩
  case round =>
    obtain ⟨k, hk1, hk, rfl, hno, hB⟩ := hrel
    by_cases hlt : k < xs.length
    · have hlt' : decide (k < xs.length) = true := decide_eq_true hlt
      have hlt2 : (k : Int) < xs.length := by omega
      obtain ⟨t, ht⟩ : ∃ t, t = k - 1 := ⟨_, rfl⟩
      have tl : (t : Int) < xs.length := by omega
      have Et : Hid (IntKind.i64.wrap ((k : Int) - 1) = (t : Int)) := by unfold Hid; rw [IntKind.wrap_i64]; omega
      obtain ⟨c0, c1⟩ := HC.out.at hB hlt
      obtain ⟨d0, d1⟩ := HC.out.at hB (show t < xs.length by omega)
      simp only [Nat.zero_add] at c0 c1 d0 d1
      have HD : Hid (dupAt xs k ↔ (lv xs t).2 = (lv xs k).2) := by
        unfold Hid dupAt; rw [ht]; exact ⟨fun h => h.2, fun h => ⟨hk1, h⟩⟩
      have HB := Lib.hid hB
      obtain ⟨x, hx⟩ : ∃ x, x = lv xs k := ⟨_, rfl⟩
      obtain ⟨y, hy⟩ : ∃ y, y = lv xs t := ⟨_, rfl⟩
      rw [← hx] at c0 c1 HD
      rw [← hy] at d0 d1 HD
      clear hx hy hB ht
      obtain ⟨x1, x2⟩ := x
      obtain ⟨y1, y2⟩ := y
      have HCL := Lib.hid (CL.out x1 x2 y1 y2)
      dsimp only at c0 c1 d0 d1 HD
      go_wp2_with fail
      have et := Et.out
      go_region_held3 (fun w' => w'.cell? ⟨g, k * 2, none⟩ = some (.int .i64 x1) ∧ w'.cell? ⟨g, k * 2 + 1, none⟩ = some (.int .i64 x2) ∧ w'.cell? ⟨g, t * 2, none⟩ = some (.int .i64 y1) ∧ w'.cell? ⟨g, t * 2 + 1, none⟩ = some (.int .i64 y2) ∧ Below wr.heap.size wr w')
        (first
          | exact ⟨c0, c1, d0, d1, (Below.refl _ wr).drew⟩
          | (rcases ‹_ ∧ _ ∧ _ ∧ _ ∧ Below _ _ _› with ⟨g0, g1, g2, g3, g6⟩; exact ⟨cell_next (by assumption) g0, cell_next (by assumption) g1, cell_next (by assumption) g2, cell_next (by assumption) g3, below_next (by assumption) g6⟩))
        (first
          | (go_at_call 48; ((with_reducible refine (HCL.out _).mono ?_); rintro e w2 ⟨rfl, b2⟩)))
      rcases ‹_ ∧ _ ∧ _ ∧ _ ∧ Below _ _ _› with ⟨_, _, _, _, g6⟩
      clear et
      by_cases hq : x2 = y2
      · have hdup := Lib.hid (HD.out.2 hq.symm)
        have q1 : (x2 == y2) = true := beq_iff_eq.2 hq
        have hM0 : Hid (Mid w2 g xs cap (k + 1)) := by
          have e : cN xs (k + 1) = xs.take k := by rw [cN_succ_dup hdup.out, cN_none (by omega) hno.out]
          have hB2 := below_next g6 HB.out
          refine ⟨⟨cur, HG.out.kept hB2, hgs⟩, fun i hi => ?_, fun q h3 h4 => ?_⟩
          · rw [e] at hi ⊢
            rw [List.length_take] at hi
            have := HC.out.at hB2 (show i < xs.length by omega)
            rw [lv_take (by omega)]
            simpa using this
          · have := HC.out.at hB2 h4
            simpa using this
        have hlen0 : Hid ((cN xs (k + 1)).length = k) := by
          unfold Hid; rw [cN_succ_dup hdup.out, cN_none (by omega) hno.out, List.length_take]; omega
        have HIb : Hid (∀ j, 1 ≤ j → (cN xs (k + j)).length + 1 ≤ k + j) := fun j hj => cN_dup ⟨k, by omega, hdup.out⟩
        have hB2 : Below base w w2 := (below_next g6 HB.out).mono hbase
        have HBB := Lib.hid hB2
        clear HD HCL hno hdup c0 c1 d0 d1 hB2 HB g6
        clear hq
        obtain ⟨w9, hw9⟩ : ∃ w9, w9 = w2 := ⟨_, rfl⟩
        subst hw9
        have hkc : (k : Int) ≤ cap := by omega
        have hkcn : ¬ cap = k := by omega
        rw [q1]
        clear q1
        go_wp2_with fail
        go_loopw [5, 7] (fun o iv wr => ∃ j : Nat, 1 ≤ j ∧ k + j ≤ xs.length ∧ o = .int .i64 ((cN xs (k + j)).length : Nat) ∧ iv = .int .i64 j ∧ Hid (Mid wr g xs cap (k + j)) ∧ Below base w wr) (fun _ iv _ => xs.length - (RowKit.intOf iv).toNat)
        case atStart => exact ⟨1, Nat.le_refl _, hlt, by rw [hlen0.out], rfl, hM0, HBB.out⟩
        case round =>
          obtain ⟨j, hj1, hj, rfl, rfl, hM, hB⟩ := hrel
          clear hM0 hlen0 HBB
          have hI1 := HIb.out j hj1
          obtain ⟨I, hI⟩ : ∃ I, I = (cN xs (k + j)).length := ⟨_, rfl⟩
          rw [← hI] at hI1 ⊢
          have hIk : I < xs.length := by omega
          by_cases hl2 : k + j < xs.length
          · have hl2' : (j : Int) < xs.length - k := by omega
            have hl3 : j < xs.length - k := by omega
            obtain ⟨t, ht⟩ : ∃ t, t = j - 1 := ⟨_, rfl⟩
            have tl : t < xs.length - k := by omega
            have Et2 : Hid (IntKind.i64.wrap ((j : Int) - 1) = (t : Int)) := by unfold Hid; rw [IntKind.wrap_i64]; omega
            obtain ⟨c0, c1⟩ := hM.out.back (k + j) (by omega) hl2
            obtain ⟨d0, d1⟩ := hM.out.back (k + t) (by omega) (by omega)
            have HD : Hid (dupAt xs (k + j) ↔ (lv xs (k + t)).2 = (lv xs (k + j)).2) := by
              unfold Hid dupAt; rw [show k + j - 1 = k + t by omega]; exact ⟨fun h => h.2, fun h => ⟨by omega, h⟩⟩
            have HB := Lib.hid hB
            obtain ⟨x, hx⟩ : ∃ x, x = lv xs (k + j) := ⟨_, rfl⟩
            obtain ⟨y, hy⟩ : ∃ y, y = lv xs (k + t) := ⟨_, rfl⟩
            have HX := Lib.hid hx
            have HI := Lib.hid hI
            rw [← hx] at c0 c1 HD
            rw [← hy] at d0 d1 HD
            clear hx hy hB ht hI
            obtain ⟨x1, x2⟩ := x
            obtain ⟨y1, y2⟩ := y
            have HCL := Lib.hid (CL.out x1 x2 y1 y2)
            dsimp only at c0 c1 d0 d1 HD
            rw [show (k + j) * 2 = k * 2 + j * 2 by omega] at c0 c1
            rw [show (k + t) * 2 = k * 2 + t * 2 by omega] at d0 d1
            go_wp2_with fail
            have et2 := Et2.out
            go_region_held3 (fun w' => w'.cell? ⟨g, k * 2 + j * 2, none⟩ = some (.int .i64 x1) ∧ w'.cell? ⟨g, k * 2 + j * 2 + 1, none⟩ = some (.int .i64 x2) ∧ w'.cell? ⟨g, k * 2 + t * 2, none⟩ = some (.int .i64 y1) ∧ w'.cell? ⟨g, k * 2 + t * 2 + 1, none⟩ = some (.int .i64 y2) ∧ Below wr.heap.size wr w')
              (first
                | exact ⟨c0, c1, d0, d1, (Below.refl _ wr).drew⟩
                | (rcases ‹_ ∧ _ ∧ _ ∧ _ ∧ Below wr.heap.size _ _› with ⟨g0, g1, g2, g3, g6⟩; exact ⟨cell_next (by assumption) g0, cell_next (by assumption) g1, cell_next (by assumption) g2, cell_next (by assumption) g3, below_next (by assumption) g6⟩))
              (first
                | (go_at_call 48; ((with_reducible refine (HCL.out _).mono ?_); rintro e w3 ⟨rfl, b3⟩)))
            rcases ‹_ ∧ _ ∧ _ ∧ _ ∧ Below wr.heap.size _ _› with ⟨e0, e1, _, _, g6⟩
            clear et2
            have hM3 := Lib.hid (hM.out.kept g6)
            have HB3 := Lib.hid (HB.out.trans (g6.mono (Nat.le_trans hbase HB.out.size)))
            have hdd : Hid (x2 = y2 ↔ dupAt xs (k + j)) := ⟨fun h => HD.out.2 h.symm, fun h => (HD.out.1 h).symm⟩
            clear HB hM HCL HD c0 c1 d0 d1 Et2
            by_cases hq : x2 = y2
            · have q1 : (x2 == y2) = true := beq_iff_eq.2 hq
              have hdup := Lib.hid (hdd.out.1 hq)
              have q2 : (!(x2 == y2)) = false := by rw [q1]; rfl
              clear hq hdd e0 e1
              rw [q2]
              go_wp2_with fail
              go_roundw
              case rel => exact ⟨j + 1, by omega, by omega, by rw [HI.out, ← Nat.add_assoc, cN_succ_dup hdup.out], by go_num, hM3.out.dup hdup.out, HB3.out⟩
              case measure => simp [RowKit.intOf]; omega
            · have q1 : (x2 == y2) = false := beq_eq_false_iff_ne.2 hq
              have hnd : Hid (¬ dupAt xs (k + j)) := fun h => hq (hdd.out.2 h)
              have q2 : (!(x2 == y2)) = true := by rw [q1]; rfl
              obtain ⟨cur3, hb3, hs3⟩ := hM3.out.blk
              have hIc : I * 2 + 1 < cur3.size := by omega
              have f0 : w3.frozen? ⟨g, I * 2, none⟩ = false := hb3.free _
              have f1 : w3.frozen? ⟨g, I * 2 + 1, none⟩ = false := hb3.free _
              obtain ⟨v0, hv0⟩ : ∃ v0, w3.cell? ⟨g, I * 2, none⟩ = some v0 := ⟨_, by rw [hb3.cell, Array.getElem?_eq_getElem (by omega)]⟩
              obtain ⟨v1, hv1⟩ : ∃ v1, w3.cell? ⟨g, I * 2 + 1, none⟩ = some v1 := ⟨_, by rw [hb3.cell, Array.getElem?_eq_getElem hIc]⟩
              have HFB := Lib.hid hb3
              clear hq hdd hb3
              rw [q2]
              go_wp2_with fail
              go_roundw
              case rel =>
                refine ⟨j + 1, by omega, by omega, by rw [← Nat.add_assoc, cN_succ_new hnd.out, List.length_append, List.length_cons, List.length_nil, ← HI.out]; go_num, by go_num, ?_, ?_⟩
                · have h4 := hM3.out.new (I := I) HI.out hI1 hl2 hcap hnd.out
                  rw [← HX.out] at h4
                  exact h4
                · exact (HB3.out.setCell hbg _).setCell hbg _
              case measure => simp [RowKit.intOf]; omega
          · have hje : k + j = xs.length := by omega
            have hj0 : j = xs.length - k := by omega
            have hIn : I < xs.length := by omega
            have hIc : I < cap := by omega
            have hcm2 : Hid (cN xs (k + j) = cmpct xs) := by rw [hje]; exact cN_all xs
            have hfin := clear_tail hbase hbg hB hcap hcm hI hje hIn hM.out hcm2.out
            obtain ⟨w5, hcl, ho, hb5⟩ := hfin
            have HO := Lib.hid ho
            have HB5 := Lib.hid hb5
            clear ho hb5 hM hB HIb
            have hIcap : ¬ cap = I := by omega
            have hIc2 : (I : Int) ≤ cap := by omega
            have hIn2 : (I : Int) ≤ xs.length := by omega
            have hl3 : ¬ j < xs.length - k := by omega
            clear hje hI hI1
            go_wp2_with (at_builtin; refine wpList_clear_run _ rfl _ 22 rfl _ rfl (hcl _ _) ?_)
            go_ret
            exact ⟨_, rfl, HO.out, HB5.out⟩
      · have hnd : Hid (∀ q, q < k + 1 → ¬ dupAt xs q) := fun q h1 => by
          rcases Nat.lt_or_ge q k with h3 | h3
          · exact hno.out q h3
          · rw [show q = k by omega]; exact fun h => hq (HD.out.1 h).symm
        have q1 : (x2 == y2) = false := beq_eq_false_iff_ne.2 hq
        have HBB := Lib.hid (below_next g6 HB.out)
        clear HD HCL hno c0 c1 d0 d1 HB hq
        go_wp2_with fail
        go_roundw
        case rel => exact ⟨k + 1, by omega, hlt, by go_num, hnd, HBB.out⟩
        case measure => simp [RowKit.intOf]; omega
    · obtain rfl : k = xs.length := by omega
      have hlt' : decide (xs.length < xs.length) = false := decide_eq_false hlt
      have e : Hid (cmpct xs = xs) := by unfold Hid; rw [← cN_all, cN_none (Nat.le_refl _) hno.out, List.take_length]
      have hfin : Hid (LOwn wr base (.slice (some ⟨g, 0, none⟩) xs.length cap) xs) := lown_of_cells hbg (HG.out.kept hB) hgs hcap hcm fun i hi => by
        have := HC.out.at hB hi
        simpa using this
      go_wp2_with fail
      go_ret
      exact ⟨_, rfl, by rw [e.out]; exact hfin.out, hB.mono hbase⟩

set_option maxRecDepth 100000 in
theorem compactF_short (v : Value) (base n c : Nat) (a : Option Addr) (xs : List Lv) (w : World) (hv : v = .slice a n c) (hn : n = xs.length) (h2 : xs.length < 2) (h : LOwn w base v xs) :
    Calls Try.prog 47 #[v, .func (.func 48) #[] #[]] w
      fun e w' => ∃ v', e = .returned v' ∧ LOwn w' base v' (cmpct xs) ∧ Below base w w' := by
  have e : Hid (cmpct xs = xs) := by
    match xs, h2 with
    | [], _ => rfl
    | [x], _ => rfl
    | x :: y :: r, h => simp at h; omega
  have HL := Lib.hid h
  subst hv
  have t0 : decide ((n : Int) < 2) = true := decide_eq_true (by omega)
  have t1 : decide (n < 2) = true := decide_eq_true (by omega)
  clear h h2 hn
  go_enter Try.func47, Try.ntmps47
  go_wp2_with fail
  go_ret
  exact ⟨_, rfl, by rw [e.out]; exact HL.out, Below.refl _ _⟩
/-- slices.CompactFunc at levels that the caller owns. -/
theorem compactF_any (v : Value) (base : Nat) (xs : List Lv) (w : World) (hn : xs.length ≤ 1048576) (hbase : base ≤ w.heap.size) (h : LOwn w base v xs) :
    Calls Try.prog 47 #[v, .func (.func 48) #[] #[]] w
      fun e w' => ∃ v', e = .returned v' ∧ LOwn w' base v' (cmpct xs) ∧ Below base w w' := by
  rcases Nat.lt_or_ge xs.length 2 with h2 | h2
  · obtain ⟨hl, ⟨hv, hq⟩ | ⟨g, cap, cur, hv, hg, hcur, hcap, hmax, hsz, htk⟩⟩ := id h
    · exact compactF_short v base 0 0 none xs w hv (by omega) h2 h
    · exact compactF_short v base xs.length cap _ xs w hv rfl h2 h
  · have hr := lrow_of_owns h
    obtain ⟨hl, ⟨hv, hq⟩ | ⟨g, cap, cur, rfl, hg, hcur, hcap, hmax, hsz, htk⟩⟩ := h
    · omega
    · rcases hr with ⟨e, _⟩ | ⟨b, off, c, hv, h0, h1, h3, h4⟩
      · rw [e] at h2; simp at h2
      · simp only [Value.slice.injEq, Option.some.injEq, Addr.mk.injEq, and_true, true_and] at hv
        obtain ⟨⟨rfl, rfl⟩, rfl⟩ := hv
        exact compactF_row base _ _ cur xs w hn h2 hcap hmax hg hbase hcur hsz h4
/-- profile.compact: at any levels that the caller owns. -/
theorem compact_any (v : Value) (base : Nat) (xs : List Lv) (w : World) (hn : xs.length ≤ 1048576) (hbase : base ≤ w.heap.size) (h : LOwn w base v xs) :
    Calls Try.prog 37 #[v] w fun e w' => ∃ v', e = .returned v' ∧ LOwn w' base v' (cmpct xs) ∧ Below base w w' := by
  have CL : Hid (∀ w1, LOwn w1 base v xs → base ≤ w1.heap.size → Calls Try.prog 47 #[v, .func (.func 48) #[] #[]] w1 fun e w' => ∃ v', e = .returned v' ∧ LOwn w' base v' (cmpct xs) ∧ Below base w1 w') := fun w1 h1 h2 => compactF_any v base xs w1 hn h2 h1
  have HL := Lib.hid h
  have HB := Lib.hid hbase
  clear h hbase
  go_enter Try.func37, Try.ntmps37
  go_wp2_with (go_at_call 47; ((with_reducible refine (CL.out _ HL.out HB.out).mono ?_); rintro e w2 ⟨v2, rfl, h2, b2⟩))
  have H2 := Lib.hid h2
  have B2 := Lib.hid b2
  clear h2 b2 CL HL
  go_wp2_with fail
  go_ret
  exact ⟨_, rfl, H2.out, B2.out⟩
end Go.Proofs.Ytnbgipegfnpobaa
