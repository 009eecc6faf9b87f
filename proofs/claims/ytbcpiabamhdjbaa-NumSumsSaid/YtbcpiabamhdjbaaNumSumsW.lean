/-
  gangerlaw01.NumSums: the walk.
-/
import Derived.Test.YtbcpiabamhdjbaaNumRef4
import Derived.Test.YtbcpiabamhdjbaaNumKnown
namespace Go.Proofs.Ytbcpiabamhdjbaa
open Go.ChangeShapes Go.WideShapes Go.ChangeAt Go.RowKit
set_option linter.unusedVariables false

theorem Try.infoInt : (Try.prog.info? 3).map (fun i => (i.zero, i.size, i.bytes)) = some (some (.int .i64 0), 1, 8) := by kernel_rfl

def sameB (zs : List Int) (k : Nat) : Bool := (zs.take k).all fun z => decide (0 ≤ z) == decide (0 ≤ zs.getD 0 0)
theorem sameB_snoc (zs : List Int) (k : Nat) (h : k < zs.length) : sameB zs (k + 1) = (sameB zs k && (decide (0 ≤ zs.getD k 0) == decide (0 ≤ zs.getD 0 0))) := by
  unfold sameB
  rw [List.take_add_one, List.all_append]
  simp [List.getD, List.getElem?_eq_getElem h]
theorem back_snoc (zs : List Int) (k : Nat) (h : k < zs.length) : (zs.reverse.take (k + 1)).map (Value.int .i64) = (zs.reverse.take k).map (Value.int .i64) ++ [.int .i64 (zs.getD (zs.length - 1 - k) 0)] := by
  rw [List.take_add_one, List.map_append]
  congr 1
  rw [List.getElem?_eq_getElem (by simpa using h)]
  simp only [Option.toList_some, List.map_cons, List.map_nil]
  congr 2
  rw [List.getElem_reverse]
  simp [List.getD, List.getElem?_eq_getElem (show zs.length - 1 - k < zs.length by omega)]

/-- Of numbers of one sign the sum that is cut off is the sum, cut off. -/
theorem sumEnd_pos (zs : List Int) (h : ∀ z ∈ zs, 0 ≤ z) : ∀ t, 0 ≤ t → zs.foldl (fun t n => endV (t + n)) (endV t) = endV (t + zs.sum) := by
  induction zs with
  | nil => intro t _; simp
  | cons z zs ih =>
    intro t ht
    have hz := h z List.mem_cons_self
    have ih' := ih (fun x hx => h x (List.mem_cons_of_mem _ hx)) (t + z) (by omega)
    have e : endV (endV t + z) = endV (t + z) := by unfold endV; split <;> (try split) <;> (try split) <;> (try split) <;> (try split) <;> omega
    simp only [List.foldl_cons, List.sum_cons]
    rw [e, ih']; congr 1; omega
theorem sumEnd_neg (zs : List Int) (h : ∀ z ∈ zs, z < 0) : ∀ t, t ≤ 0 → zs.foldl (fun t n => endV (t + n)) (endV t) = endV (t + zs.sum) := by
  induction zs with
  | nil => intro t _; simp
  | cons z zs ih =>
    intro t ht
    have hz := h z List.mem_cons_self
    have ih' := ih (fun x hx => h x (List.mem_cons_of_mem _ hx)) (t + z) (by omega)
    have e : endV (endV t + z) = endV (t + z) := by unfold endV; split <;> (try split) <;> (try split) <;> (try split) <;> (try split) <;> omega
    simp only [List.foldl_cons, List.sum_cons]
    rw [e, ih']; congr 1; omega
theorem sumEnd_rev (zs : List Int) (h : sameB zs zs.length = true) : sumEnd zs.reverse = sumEnd zs := by
  unfold sameB at h
  rw [List.take_length, List.all_eq_true] at h
  have e0 : endV 0 = 0 := by decide
  have hs : ∀ l : List Int, l.reverse.sum = l.sum := fun l => List.sum_reverse l
  unfold sumEnd
  rw [← e0]
  by_cases c : 0 ≤ zs.getD 0 0
  · have hp : ∀ z ∈ zs, 0 ≤ z := fun z hz => by have := h z hz; rw [beq_iff_eq, decide_eq_decide] at this; exact this.2 c
    rw [sumEnd_pos zs hp 0 (Int.le_refl _), sumEnd_pos zs.reverse (fun z hz => hp z (List.mem_reverse.1 hz)) 0 (Int.le_refl _), hs]
  · have hp : ∀ z ∈ zs, z < 0 := fun z hz => by have := h z hz; rw [beq_iff_eq, decide_eq_decide] at this; omega
    rw [sumEnd_neg zs hp 0 (Int.le_refl _), sumEnd_neg zs.reverse (fun z hz => hp z (List.mem_reverse.1 hz)) 0 (Int.le_refl _), hs]

theorem map_getD (l : List Int) (j : Nat) (h : j < l.length) : (l.map (Value.int .i64))[j]? = some (.int .i64 (l.getD j 0)) := by
  rw [List.getElem?_map, List.getElem?_eq_getElem h]; simp [List.getD, List.getElem?_eq_getElem h]

def SumsRel (W : World) (zs : List Int) (s same back i : Value) (wr : World) : Prop :=
  ∃ k : Nat, k ≤ zs.length ∧ i = .int .i64 k ∧ s = .int .i64 (sumEnd (zs.take k)) ∧ same = .bool (sameB zs k) ∧
    wr.ownsRow W.heap.size 3 1 back k ((zs.reverse.take k).map (Value.int .i64)) ∧ Below W.heap.size W wr

theorem sums_long (a : Option Addr) (n c : Nat) (w : World) (h : 2000 < n) (hm : n ≤ 9223372036854775807) :
    Calls Try.prog 6 #[.slice a n c] w fun e w' => e = .returned (.bool true) ∧ Below w.heap.size w w' := by
  have t : decide ((2000 : Int) < n) = true := decide_eq_true (by omega)
  have t' : decide (2000 < n) = true := decide_eq_true h
  clear h
  go_enter Try.func6, Try.ntmps6
  go_wp2_with fail
  refine (known_any _).mono ?_; rintro e w7 ⟨rfl, b7⟩
  go_wp2_with fail
  go_ret
  exact ⟨rfl, b7⟩

theorem sums_row (b off c : Nat) (zs : List Int) (w : World) (h0 : 0 < zs.length) (hlen : zs.length ≤ 2000) (hz : ∀ z ∈ zs, I64 z) (hb : b < w.heap.size) (hc : ∀ k, k < zs.length → w.cell? ⟨b, off + k, none⟩ = some (.int .i64 (zs.getD k 0))) :
    Calls Try.prog 6 #[.slice (some ⟨b, off, none⟩) zs.length c] w fun e w' => e = .returned (.bool true) ∧ Below w.heap.size w w' := by
  obtain ⟨i0, hi, hz0, hz1, hz2⟩ := info_parts Try.infoInt
  have HC := Lib.hid hc
  have HZ := Lib.hid hz
  have t : decide ((2000 : Int) < zs.length) = false := decide_eq_false (by omega)
  have t' : decide (2000 < zs.length) = false := decide_eq_false (by omega)
  clear hc hz
  go_enter Try.func6, Try.ntmps6
  go_wp2_with fail
  go_loopw [3, 4, 5, 6] (fun s same back i wr => SumsRel w zs s same back i wr) (fun _ _ _ i _ => zs.length - (intOf i).toNat)
  case atStart => exact ⟨0, Nat.zero_le _, rfl, rfl, rfl, World.ownsRow_nil _ _ _ _, Below.refl _ _⟩
  case round =>
    obtain ⟨k, hk, rfl, rfl, rfl, hown, hB⟩ := hrel
    by_cases hlt : k < zs.length
    · have ck : wr.cell? ⟨b, off + k, none⟩ = some (.int .i64 (zs.getD k 0)) := by rw [← HC.out k hlt]; exact hB.cell (p := ⟨b, off + k, none⟩) hb
      have c0 : wr.cell? ⟨b, off, none⟩ = some (.int .i64 (zs.getD 0 0)) := by have := HC.out 0 h0; rw [← this]; exact hB.cell (p := ⟨b, off, none⟩) hb
      have cl : wr.cell? ⟨b, off + (zs.length - 1 - k), none⟩ = some (.int .i64 (zs.getD (zs.length - 1 - k) 0)) := by rw [← HC.out _ (by omega)]; exact hB.cell (p := ⟨b, off + (zs.length - 1 - k), none⟩) hb
      have s1 := sumEnd_I64 (zs.take k)
      have s2 : I64 (zs.getD k 0) := HZ.out _ (by simp [List.getD, List.getElem?_eq_getElem hlt])
      have E1 := Lib.hid (sumEnd_snoc zs k hlt)
      have E2 := Lib.hid (sameB_snoc zs k hlt)
      have E3 := Lib.hid (back_snoc zs k hlt)
      generalize zs.getD k 0 = z at *
      generalize sumEnd (zs.take k) = S at *
      generalize zs.getD 0 0 = y at *
      generalize zs.getD (zs.length - 1 - k) 0 = x at *
      generalize (zs.reverse.take k).map (Value.int .i64) = xs at *
      generalize sameB zs k = sm at *
      have f1 := fits_abs s1
      have f2 := fits_abs s2
      have hf : Fits (S.natAbs + z.natAbs) := by unfold Fits; omega
      have hf' : Fits (plusN (negB S) (negB z) S.natAbs z.natAbs) := by have := plusN_le (negB S) (negB z) S.natAbs z.natAbs; unfold Fits at *; omega
      have E : Hid (sg (plusM (negB S) (negB z) S.natAbs z.natAbs) (plusN (negB S) (negB z) S.natAbs z.natAbs) = S + z) := by show _ = _; rw [plus_sg, sg_abs, sg_abs]
      have hlt' : decide (k < zs.length) = true := decide_eq_true hlt
      have hz9 : b < wr.heap.size := Nat.lt_of_lt_of_le hb hB.size
      clear f1 f2
      go_upto_region 9 with fail
      go_cut [3] (fun s wx => s = .int .i64 (endV (S + z)) ∧ Below wr.heap.size wr wx)
      case first =>
        go_region_held3 (fun w' => w'.cell? ⟨b, off + k, none⟩ = some (.int .i64 z) ∧ Below wr.heap.size wr w')
          (first
            | (refine ⟨by simpa [go_sem] using ck, by go_grown⟩)
            | (rcases ‹_ ∧ Below _ _ _› with ⟨g1, g5⟩; exact ⟨cell_next (by assumption) g1, below_next (by assumption) g5⟩))
          (first
            | (go_at_call 21; ((with_reducible refine (of_any S _ s1).mono ?_); rintro e w2 ⟨rfl, b2⟩))
            | (go_at_call 21; ((with_reducible refine (of_any z _ s2).mono ?_); rintro e w2 ⟨rfl, b2⟩))
            | (go_at_call 23; refine (Plus_any _ _ _ _ _ hf).mono ?_; rintro e w3 ⟨rfl, b3⟩)
            | (go_at_call 19; refine (End_any _ _ _ hf').mono ?_; rintro e w4 ⟨rfl, b4⟩))
        rcases ‹_ ∧ Below _ _ _› with ⟨_, g5⟩
        go_wp2_with fail
        go_meet
        exact ⟨by rw [E.out], g5⟩
      case rest =>
        obtain ⟨rfl, hB2⟩ := hcut
        have ck2 : wc.cell? ⟨b, off + k, none⟩ = some (.int .i64 z) := by rw [← ck]; exact hB2.cell (p := ⟨b, off + k, none⟩) hz9
        have c02 : wc.cell? ⟨b, off, none⟩ = some (.int .i64 y) := by rw [← c0]; exact hB2.cell (p := ⟨b, off, none⟩) hz9
        have cl2 : wc.cell? ⟨b, off + (zs.length - 1 - k), none⟩ = some (.int .i64 x) := by rw [← cl]; exact hB2.cell (p := ⟨b, off + (zs.length - 1 - k), none⟩) hz9
        have hB3 := below_next hB2 hB
        have hown2 := hown.kept (row := none) ⟨hB2.os, hB2.tape, hB2.output, hB2.size, fun j hj _ => hB2.block j hj⟩ (by cases u5.ownBlock <;> simp)
        have hz10 : b < wc.heap.size := Nat.lt_of_lt_of_le hz9 hB2.size
        clear ck c0 cl hown hB hB2 s1 s2 hf hf' E
        have h0' : (0 : Int) < zs.length := by omega
        have hlt2 : (k : Int) < zs.length := by omega
        have hidx : (zs.length : Int) - 1 - k = ((zs.length - 1 - k : Nat) : Int) := by omega
        have hks : w.heap.size ≤ wc.heap.size := hB3.size
        cases sm
        · go_wp2_with fail
          go_quiet (fail)
          go_wp2_with (at_builtin; refine wpList_append_own _ rfl _ _ 40 rfl w.heap.size 3 i0 (.int .i64 0) 1 8 Try.underlying40 hi hz0 hz1 hz2 rfl (by decide) _ k xs rfl (World.ownsRow.alloc (by exact hown2) _) ⟨wc.heap.size, 0, none⟩ 1 1 [.int .i64 x] rfl rfl (news_alloc _ [.int .i64 x] _) (by simp [Value.oneCell']) (by unfold maxLen; omega) (by omega) (by simp; omega) ?_; intro v' w1 hown1 hgrow _)
          go_roundw
          case rel =>
            exact ⟨k + 1, hlt, by go_num, by rw [E1.out], by rw [E2.out]; simp, by rw [E3.out]; exact hown1,
              ((below_drewN hB3 _).alloc (by simpa using hks) _).grown hgrow (by simp; omega) (fun j hj => (hown2.lt j hj).1)⟩
          case measure => simp [intOf]; omega
        · go_wp2_with fail
          go_quiet (fail)
          go_wp2_with (at_builtin; refine wpList_append_own _ rfl _ _ 40 rfl w.heap.size 3 i0 (.int .i64 0) 1 8 Try.underlying40 hi hz0 hz1 hz2 rfl (by decide) _ k xs rfl (World.ownsRow.alloc (by exact hown2) _) ⟨wc.heap.size, 0, none⟩ 1 1 [.int .i64 x] rfl rfl (news_alloc _ [.int .i64 x] _) (by simp [Value.oneCell']) (by unfold maxLen; omega) (by omega) (by simp; omega) ?_; intro v' w1 hown1 hgrow _)
          go_roundw
          case rel =>
            exact ⟨k + 1, hlt, by go_num, by rw [E1.out], by rw [E2.out]; simp, by rw [E3.out]; exact hown1,
              ((below_drewN hB3 _).alloc (by simpa using hks) _).grown hgrow (by simp; omega) (fun j hj => (hown2.lt j hj).1)⟩
          case measure => simp [intOf]; omega
    · obtain rfl : k = zs.length := by omega
      have hlt' : decide (zs.length < zs.length) = false := decide_eq_false (by omega)
      have cells : ∀ k, k < zs.length → wr.cell? ⟨b, off + k, none⟩ = some (.int .i64 (zs.getD k 0)) := fun k hk => by rw [← HC.out k hk]; exact hB.cell (p := ⟨b, off + k, none⟩) hb
      have SL : Hid (Calls Try.prog 25 #[.slice (some ⟨b, off, none⟩) zs.length c] wr fun e w' => e = .returned (.int .i64 (sumEnd zs)) ∧ w' = wr) := sum_row b off c zs wr (by omega) HZ.out cells
      have SB : Hid (sameB zs zs.length = true → Calls Try.prog 25 #[u5] wr fun e w' => e = .returned (.int .i64 (sumEnd zs)) ∧ w' = wr) := by
        intro hs
        obtain ⟨_, hv | ⟨g, cap, cur, hv, hg, hcur, hcap, hmax, hsz, htk⟩⟩ := id hown
        · exfalso; have := hv.2; omega
        · subst hv
          have hr : zs.reverse.take zs.length = zs.reverse := List.take_of_length_le (by simp)
          rw [hr] at hown
          have hlr : zs.reverse.length = zs.length := List.length_reverse
          rw [← sumEnd_rev zs hs]
          have := sum_row g 0 cap zs.reverse wr (by rw [hlr]; omega) (fun z hz => HZ.out z (List.mem_reverse.1 hz)) (fun j hj => by
            rw [Nat.zero_add, hown.cellAt j (by omega), map_getD _ _ hj])
          rw [hlr] at this
          exact this
      rw [List.take_length]
      generalize sumEnd zs = S at *
      cases hsm : sameB zs zs.length
      · clear hown SB cells
        go_wp2_with fail
        refine SL.out.mono ?_; rintro e w1 ⟨rfl, rfl⟩
        go_wp2_with fail
        refine (known_any _).mono ?_; rintro e w7 ⟨rfl, b7⟩
        go_wp2_with fail
        go_ret
        exact ⟨rfl, below_next b7 hB⟩
      · have SB' := Lib.hid (SB.out hsm)
        clear hown SB cells
        go_wp2_with fail
        refine SL.out.mono ?_; rintro e w1 ⟨rfl, rfl⟩
        go_wp2_with fail
        refine SB'.out.mono ?_; rintro e w1 ⟨rfl, rfl⟩
        go_wp2_with fail
        refine (known_any _).mono ?_; rintro e w7 ⟨rfl, b7⟩
        go_wp2_with fail
        go_ret
        exact ⟨rfl, below_next b7 hB⟩

theorem sums_nil (a : Option Addr) (c : Nat) (w : World) :
    Calls Try.prog 6 #[.slice a 0 c] w fun e w' => e = .returned (.bool true) ∧ Below w.heap.size w w' := by
  go_enter Try.func6, Try.ntmps6
  go_wp2_with fail
  refine wp_loop_rounds 1 ?_
  rw [rounds_succ]
  go_wp2_with fail
  refine (sum_nil a c _).mono ?_; rintro e w1 ⟨rfl, rfl⟩
  go_wp2_with fail
  refine (sum_nil none 0 _).mono ?_; rintro e w1 ⟨rfl, rfl⟩
  go_wp2_with fail
  refine (known_any _).mono ?_; rintro e w7 ⟨rfl, b7⟩
  go_wp2_with fail
  go_ret
  exact ⟨rfl, b7⟩
end Go.Proofs.Ytbcpiabamhdjbaa
