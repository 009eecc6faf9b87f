/-
  slices.BinarySearchFunc at api.Where; depend.howOf.
  depend.sayJob, depend.firstOf.
  depend.sayNeed.
-/
import Derived.Test.YtfabjlhepadkpaaStW
import Derived.Test.YtfabjlhepadkpaaDePQS
import Derived.Deep.WholeRow
import Derived.Great.BuildSlice
import Derived.Test.YtfabjlhepadkpaaDeMC
import Derived.Test.YtfabjlhepadkpaaNums
import Derived.Test.YtfabjlhepadkpaaRwS
import Derived.Deep.RegionLaw
import Derived.Deep.AppendLies
namespace Go.Proofs.Ytfabjlhepadkpaa
set_option linter.unusedVariables false

section
open Go Go.RowKit Go.Lib
theorem howCmp_any (x j : Nat) (p : Int) (w : World) : Calls Try.prog 68 #[.agg #[.int .u32 (x : Nat), .int .i64 p], .int .u32 (j : Nat)] w fun e w' => e = .returned (.int .i64 (cmpN x j)) ∧ Below w.heap.size w w' := by
  have C : Hid (∀ w1, Calls Try.prog 49 #[.int .u32 (x : Nat), .int .u32 (j : Nat)] w1 fun e w' => e = .returned (.int .i64 (cmpN x j)) ∧ w' = w1) := cmpU_any x j
  generalize cmpN x j = r at *
  go_enter Try.func68, Try.ntmps68
  go_wp2_with fail
  refine (C.out _).mono ?_; rintro e w1 ⟨rfl, rfl⟩
  go_wp2_with fail
  go_ret
  exact ⟨rfl, by go_grown⟩
theorem cmpN_zero (x y : Nat) : (cmpN x y == 0) = decide (x = y) := by
  unfold cmpN
  rcases Nat.lt_trichotomy x y with h | h | h
  · rw [if_pos h, decide_eq_false (by omega)]; rfl
  · rw [if_neg (by omega), if_neg (by omega), decide_eq_true h]; rfl
  · rw [if_neg (by omega), if_pos h, decide_eq_false (by omega)]; rfl
set_option maxRecDepth 100000 in
set_option maxHeartbeats 4000000 in
theorem bsW_any (w0 : World) (g n cap j : Nat) (jf : Nat → Nat) (hf : Nat → Int) (D : Nat → Nat) (w : World) (hW : WS w0 g n jf hf D w) (hs : Srt jf D 0 n) (hn : n ≤ 4194304) :
    Calls Try.prog 67 #[.slice (some ⟨g, 0, none⟩) n cap, .int .u32 (j : Nat), .func (.func 68) #[] #[]] w fun e w' =>
      (∃ a : Nat, e = .returned (.tuple #[.int .i64 (a : Nat), .bool (decide (a < n ∧ jf (D a) = j))]) ∧ a ≤ n ∧ (∀ q, q < a → jf (D q) < j) ∧ (∀ q, a ≤ q → q < n → j ≤ jf (D q))) ∧ Below w.heap.size w w' := by
  have HW := Lib.hid hW
  have HM : Hid (∀ p q, p ≤ q → q < n → jf (D p) ≤ jf (D q)) := fun p q h1 h2 => by
    by_cases e : p = q
    · rw [e]; exact Nat.le_refl _
    · have := hs p q (Nat.zero_le _) (by omega) h2
      unfold Rk at this; omega
  clear hW hs
  go_enter Try.func67, Try.ntmps67
  go_wp2_with fail
  go_loopw [9, 10] (fun iv jv wr => ∃ I J : Nat, iv = .int .i64 I ∧ jv = .int .i64 J ∧ I ≤ J ∧ J ≤ n ∧ Hid ((∀ q, q < I → jf (D q) < j) ∧ (∀ q, J ≤ q → q < n → j ≤ jf (D q))) ∧ Hid (Below w.heap.size w wr)) (fun iv jv _ => (RowKit.intOf jv).toNat - (RowKit.intOf iv).toNat)
  case atStart => exact ⟨0, n, rfl, rfl, Nat.zero_le _, Nat.le_refl _, ⟨fun q h => by omega, fun q h h' => by omega⟩, Below.refl _ _⟩
  case round =>
    obtain ⟨I, J, rfl, rfl, hIJ, hJ, HQ, HB⟩ := hrel
    by_cases hlt : I < J
    · have hlt' : decide (I < J) = true := decide_eq_true hlt
      have hlt2 : decide ((I : Int) < (J : Int)) = true := decide_eq_true (by omega)
      obtain ⟨h, hh⟩ : ∃ h, h = (I + J) / 2 := ⟨_, rfl⟩
      have hhI : I ≤ h := by omega
      have hhJ : h < J := by omega
      have hhn : (h : Int) < (n : Int) := by omega
      have eh : ((I : Int) + (J : Int)) / 2 = (h : Int) := by omega
      obtain ⟨c0, c1, _, _⟩ := (HW.out.kept HB.out).cell (k := h) (by omega)
      have C : Hid (∀ w1, Calls Try.prog 68 #[.agg #[.int .u32 (jf (D h) : Nat), .int .i64 (hf (D h))], .int .u32 (j : Nat)] w1 fun e w' => e = .returned (.int .i64 (cmpN (jf (D h)) j)) ∧ Below w1.heap.size w1 w') := fun w1 => howCmp_any _ _ _ w1
      have HCN := Lib.hid (cmpN_neg (jf (D h)) j)
      generalize cmpN (jf (D h)) j = cr at C HCN
      obtain ⟨x, hx⟩ : ∃ x, x = jf (D h) := ⟨_, rfl⟩
      rw [← hx] at c0 C
      have HX := Lib.hid hx
      generalize hf (D h) = px at c1 C
      clear hh hx
      go_wp2_with fail
      refine (C.out _).mono ?_; rintro e w1 ⟨rfl, b1⟩
      have HB1 := Lib.hid (below_next b1 HB.out)
      clear b1 C c0 c1
      cases hq : decide (cr < 0)
      · have hl : ¬ jf (D h) < j := by have := HCN.out; rw [hq] at this; exact of_decide_eq_false this.symm
        have HF : Hid (∀ q, h ≤ q → q < n → j ≤ jf (D q)) := fun q q1 q2 => by have := HM.out h q q1 q2; omega
        clear hl HCN
        go_wp2_with fail
        go_roundw
        case rel => exact ⟨I, h, by go_num, by go_num, hhI, by omega, ⟨HQ.out.1, HF.out⟩, HB1.out⟩
        case measure => simp [RowKit.intOf]; omega
      · have hl : jf (D h) < j := by have := HCN.out; rw [hq] at this; exact of_decide_eq_true this.symm
        have HF : Hid (∀ q, q < h + 1 → jf (D q) < j) := fun q q1 => by have := HM.out q h (by omega) (by omega); omega
        clear hl HCN
        go_wp2_with fail
        go_roundw
        case rel => exact ⟨h + 1, J, by go_num, by go_num, by omega, hJ, ⟨HF.out, HQ.out.2⟩, HB1.out⟩
        case measure => simp [RowKit.intOf]; omega
    · have hlt' : decide (I < J) = false := decide_eq_false hlt
      have hlt2 : decide ((I : Int) < (J : Int)) = false := decide_eq_false (by omega)
      obtain rfl : I = J := by omega
      by_cases hIn : I < n
      · have g1 : decide (I < n) = true := decide_eq_true hIn
        have g2 : decide ((I : Int) < (n : Int)) = true := decide_eq_true (by omega)
        have g3 : (I : Int) < (n : Int) := by omega
        obtain ⟨c0, c1, _, _⟩ := (HW.out.kept HB.out).cell (k := I) hIn
        have C : Hid (∀ w1, Calls Try.prog 68 #[.agg #[.int .u32 (jf (D I) : Nat), .int .i64 (hf (D I))], .int .u32 (j : Nat)] w1 fun e w' => e = .returned (.int .i64 (cmpN (jf (D I)) j)) ∧ Below w1.heap.size w1 w') := fun w1 => howCmp_any _ _ _ w1
        have hcz := cmpN_zero (jf (D I)) j
        have HE : Hid (decide (I < n ∧ jf (D I) = j) = decide (jf (D I) = j)) := by unfold Hid; rw [decide_eq_decide]; exact ⟨fun h => h.2, fun h => ⟨hIn, h⟩⟩
        generalize cmpN (jf (D I)) j = cr at C hcz
        obtain ⟨β, hβ⟩ : ∃ β, β = decide (jf (D I) = j) := ⟨_, rfl⟩
        rw [← hβ] at hcz HE
        clear hβ
        generalize jf (D I) = x at c0 C
        generalize hf (D I) = px at c1 C
        go_wp2_with fail
        refine (C.out _).mono ?_; rintro e w1 ⟨rfl, b1⟩
        have HB1 := Lib.hid (below_next b1 HB.out)
        clear b1 C c0 c1
        go_wp2_with fail
        go_ret2
        exact ⟨⟨I, by rw [HE.out]; rfl, hJ, HQ.out.1, HQ.out.2⟩, HB1.out⟩
      · have g1 : decide (I < n) = false := decide_eq_false hIn
        have g2 : decide ((I : Int) < (n : Int)) = false := decide_eq_false (by omega)
        have HE : Hid (decide (I < n ∧ jf (D I) = j) = false) := decide_eq_false fun h => hIn h.1
        go_wp2_with fail
        go_ret2
        exact ⟨⟨I, by rw [HE.out]; rfl, hJ, HQ.out.1, HQ.out.2⟩, HB.out⟩
theorem bsW_nil (a : Option Addr) (c j : Nat) (w : World) :
    Calls Try.prog 67 #[.slice a 0 c, .int .u32 (j : Nat), .func (.func 68) #[] #[]] w fun e w' =>
      e = .returned (.tuple #[.int .i64 0, .bool false]) ∧ w' = w := by
  go_enter Try.func67, Try.ntmps67
  go_wp2_with fail
  refine wp_loop_rounds 1 ?_; rw [rounds_succ]
  go_wp2_with fail
  go_ret2
  exact ⟨rfl, rfl⟩
/-- The sorted row of what is known. -/
structure Known (w : World) (v : Value) (l : List Wh) : Prop where
  row : (l = [] ∧ ∃ a c, v = .slice a 0 c) ∨ ∃ g cap D w0, v = .slice (some ⟨g, 0, none⟩) l.length cap ∧ 0 < l.length ∧ WS w0 g l.length (jfL l) (hfL l) D w ∧ Good (jfL l) D 0 l.length
  len : l.length ≤ 4194304
theorem Known.kept {w w' : World} {v : Value} {l : List Wh} (h : Known w v l) (hb : Below w.heap.size w w') : Known w' v l := by
  refine ⟨?_, h.len⟩
  rcases h.row with h | ⟨g, cap, D, w0, h1, h2, h3, h4⟩
  · exact .inl h
  · exact .inr ⟨g, cap, D, w0, h1, h2, h3.kept hb, h4⟩
set_option maxRecDepth 100000 in
set_option maxHeartbeats 4000000 in
theorem howOf_any (v : Value) (l : List Wh) (j : Nat) (w : World) (h : Known w v l) :
    Calls Try.prog 59 #[v, .int .u32 (j : Nat)] w fun e w' => e = .returned (.int .i64 (howL l j)) ∧ Below w.heap.size w w' := by
  rcases h.row with ⟨rfl, a, c, rfl⟩ | ⟨g, cap, D, w0, rfl, h1, h2, h3⟩
  · have C := Lib.hid (bsW_nil a c j w)
    go_enter Try.func59, Try.ntmps59
    go_wp2_with fail
    refine C.out.mono ?_; rintro e w1 ⟨rfl, hw⟩
    replace hw := hw.symm; subst hw
    go_wp2_with fail
    go_ret
    exact ⟨rfl, Below.refl _ _⟩
  · have C := Lib.hid (bsW_any w0 g l.length cap j (jfL l) (hfL l) D w h2 h3.srt h.len)
    obtain ⟨N, hN⟩ : ∃ N, N = l.length := ⟨_, rfl⟩
    have HH2 := Lib.hid h2
    have HH3 := Lib.hid h3
    have HN := Lib.hid hN
    have hlen := h.len
    rw [← hN] at C HH2 HH3 h1 hlen ⊢
    obtain ⟨r, hr⟩ : ∃ r, r = howL l j := ⟨_, rfl⟩
    have HR := Lib.hid hr
    rw [← hr]
    clear h h2 h3 hr hN
    go_enter Try.func59, Try.ntmps59
    go_wp2_with fail
    refine C.out.mono ?_; rintro e w1 ⟨⟨a, rfl, ha, q1, q2⟩, b1⟩
    have HB1 := Lib.hid b1
    by_cases hf : a < N ∧ jfL l (D a) = j
    · obtain ⟨c0, c1, _, _⟩ := (HH2.out.kept b1).cell (k := a) hf.1
      have HRR : Hid (r = inR (hfL l (D a))) := by
        unfold Hid; rw [HR.out]
        exact how_found (by rw [← HN.out]; exact HH3.out) (by rw [← HN.out]; exact hf.1) hf.2 q1
      rw [decide_eq_true hf]
      have haN : (a : Int) < (N : Int) := by omega
      obtain ⟨z, hz⟩ : ∃ z, z = hfL l (D a) := ⟨_, rfl⟩
      rw [← hz] at c1 HRR
      clear hz q1 q2 hf b1 C HH2 HH3 c0
      by_cases z1 : z < 1
      · have g1 : decide (z < 1) = true := decide_eq_true z1
        have HE : Hid (r = 0) := by unfold Hid; rw [HRR.out]; unfold inR; rw [if_neg (by omega)]
        go_wp2_with fail
        go_ret
        exact ⟨by rw [HE.out]; rfl, HB1.out⟩
      · have g1 : decide (z < 1) = false := decide_eq_false z1
        by_cases z4 : 4 < z
        · have g2 : decide (z > 4) = true := decide_eq_true z4
          have g2' : decide (4 < z) = true := decide_eq_true z4
          have HE : Hid (r = 0) := by unfold Hid; rw [HRR.out]; unfold inR; rw [if_neg (by omega)]
          go_wp2_with fail
          go_ret
          exact ⟨by rw [HE.out]; rfl, HB1.out⟩
        · have g2 : decide (z > 4) = false := decide_eq_false z4
          have g2' : decide (4 < z) = false := decide_eq_false z4
          have HE : Hid (r = z) := by unfold Hid; rw [HRR.out]; unfold inR; rw [if_pos (by omega)]
          go_wp2_with fail
          go_ret
          exact ⟨by rw [HE.out]; rfl, HB1.out⟩
    · have HE : Hid (r = 0) := by
        unfold Hid; rw [HR.out]
        refine how_none (a := a) (D := D) (by rw [← HN.out]; exact HH3.out) q1 fun q y1 y2 => ?_
        rw [← HN.out] at y2
        have e1 := q2 q y1 y2
        have e2 := q2 a (Nat.le_refl _) (by omega)
        have e3 : jfL l (D a) ≠ j := fun e => hf ⟨by omega, e⟩
        by_cases e : q = a
        · subst e; omega
        · have := HH3.out.srt a q (Nat.zero_le _) (by omega) y2
          unfold Rk at this; omega
      rw [decide_eq_false hf]
      clear hf q1 q2 b1 C HH2 HH3
      go_wp2_with fail
      go_ret
      exact ⟨by rw [HE.out]; rfl, HB1.out⟩
end

section
open Go Go.RowKit Go.Lib
def tabJ : Array Value := #[.int .i64 0, .int .i64 0, .int .i64 0, .int .i64 0, .int .i64 0, .int .i64 3, .int .i64 1, .int .i64 2, .int .i64 2, .int .i64 2, .int .i64 3, .int .i64 1, .int .i64 1, .int .i64 2, .int .i64 3, .int .i64 3, .int .i64 1, .int .i64 1, .int .i64 3, .int .i64 2, .int .i64 3, .int .i64 1, .int .i64 1, .int .i64 2, .int .i64 2]
def zJ : Array Value := #[.int .i64 0, .int .i64 0, .int .i64 0, .int .i64 0, .int .i64 0, .int .i64 0, .int .i64 0, .int .i64 0, .int .i64 0, .int .i64 0, .int .i64 0, .int .i64 0, .int .i64 0, .int .i64 0, .int .i64 0, .int .i64 0, .int .i64 0, .int .i64 0, .int .i64 0, .int .i64 0, .int .i64 0, .int .i64 0, .int .i64 0, .int .i64 0, .int .i64 0]
def rowJ1 : Array Value := #[.int .i64 3, .int .i64 1, .int .i64 2, .int .i64 2, .int .i64 2]
def rowJ2 : Array Value := #[.int .i64 3, .int .i64 1, .int .i64 1, .int .i64 2, .int .i64 3]
def rowJ3 : Array Value := #[.int .i64 3, .int .i64 1, .int .i64 1, .int .i64 3, .int .i64 2]
def rowJ4 : Array Value := #[.int .i64 3, .int .i64 1, .int .i64 1, .int .i64 2, .int .i64 2]
theorem tabJ_at {k h : Nat} (hk : 1 ≤ k ∧ k ≤ 4) (hh : h ≤ 4) : tabJ[k * 5 + h]? = some (.int .i64 (ofT k h)) := by
  have k4 : k = 1 ∨ k = 2 ∨ k = 3 ∨ k = 4 := by omega
  have h5 : h = 0 ∨ h = 1 ∨ h = 2 ∨ h = 3 ∨ h = 4 := by omega
  rcases k4 with rfl | rfl | rfl | rfl <;> rcases h5 with rfl | rfl | rfl | rfl | rfl <;> rfl
theorem zJ_info : (Try.prog.info? 90).map (fun i => (i.zero, i.size)) = some (some (.agg zJ), 25) := by kernel_rfl
theorem zJ_val (w : World) : (zeroValue 90).run Try.prog w = .ok (.agg zJ) w := (zero_of_info zJ_info).1 w
theorem tabJ_init (w : World) : (storeCells ⟨w.heap.size, 0, none⟩ tabJ.toList 0).run Try.prog (w.alloc (.cells zJ 90)) = .ok () (w.alloc (.cells tabJ 90)) := by
  refine run_storeCells_new w _ _ _ ?_ rfl ?_
  · exact (zero_of_info zJ_info).2
  · kernel_rfl
set_option maxRecDepth 100000 in
set_option maxHeartbeats 4000000 in
theorem sayJob_any (k h : Int) (w : World) (hk : 1 ≤ k ∧ k ≤ 4) (hh : 0 ≤ h ∧ h ≤ 4) :
    Calls Try.prog 58 #[.int .i64 k, .int .i64 h] w fun e w' => e = .returned (.int .i64 (ofT k h)) ∧ Below w.heap.size w w' := by
  obtain ⟨k, rfl⟩ := Int.eq_ofNat_of_zero_le (show 0 ≤ k by omega)
  obtain ⟨h, rfl⟩ := Int.eq_ofNat_of_zero_le hh.1
  have hk1 : (k : Int) < 5 := by omega
  have hh1 : (h : Int) < 5 := by omega
  have hk2 : k < 5 := by omega
  have hh2 : h < 5 := by omega
  obtain ⟨X, hX⟩ : ∃ X, X = w.alloc (.cells tabJ 90) := ⟨_, rfl⟩
  have hb : Below w.heap.size w X := by rw [hX]; exact (Below.refl _ _).alloc (Nat.le_refl _) _
  have hB : Blk X w.heap.size tabJ 90 := by rw [hX]; exact Blk.new w _ _
  have c0 : X.cell? ⟨w.heap.size, k * 5 + h, none⟩ = some (.int .i64 (ofT k h)) := (hB.cell _).trans (tabJ_at (by omega) (by omega))
  have HB := Lib.hid hb
  generalize ofT k h = r at *
  clear hB hb hk hh
  have hst := tabJ_init w
  have hzv := zJ_val
  have hzs : zJ.size = 25 := rfl
  have hYs : tabJ.size = 25 := rfl
  have hZ0 : ¬ zJ = #[] := by intro e; rw [e] at hzs; simp at hzs
  have hY0 : ¬ tabJ = #[] := by intro e; rw [e] at hYs; simp at hYs
  go_enter Try.func58, Try.ntmps58
  go_upto_region 1 with fail
  apply wp_region_lit
  refine wpList_buildTo rfl 89 _ rfl (some 6) rfl rowJ1 (by as_aux_lemma => kernel_rfl) ?_
  refine wpList_buildTo rfl 89 _ rfl (some 7) rfl rowJ2 (by as_aux_lemma => kernel_rfl) ?_
  refine wpList_buildTo rfl 89 _ rfl (some 8) rfl rowJ3 (by as_aux_lemma => kernel_rfl) ?_
  refine wpList_buildTo rfl 89 _ rfl (some 9) rfl rowJ4 (by as_aux_lemma => kernel_rfl) ?_
  refine wpList_buildTo rfl 90 _ rfl (some 10) rfl tabJ (by as_aux_lemma => kernel_rfl) ?_
  go_upto_region 2 with fail
  rw [← hX]
  clear hX
  go_wp2_with fail
  go_ret
  exact ⟨rfl, HB.out⟩
def pick3 (s : List Int) (x y z : Int) : Int := if x ∈ s then x else if y ∈ s then y else z
set_option maxRecDepth 100000 in
theorem contI_any (v : Value) (s : List Int) (x : Int) (w : World) (h : NRow w v s) (hn : s.length ≤ 1048576) :
    Calls Try.prog 60 #[v, .int .i64 x] w fun e w' => e = .returned (.bool (decide (x ∈ s))) ∧ w' = w := by
  rcases h with ⟨rfl, a, c, rfl, _⟩ | ⟨b, off, c, rfl, h0, _, _, _, hc⟩
  · refine (Try.slices_Contains_int_empty a c x w).mono ?_
    rintro e w' ⟨rfl, rfl⟩
    exact ⟨by simp, rfl⟩
  · refine (Try.slices_Contains_int b off s.length c s x w (Nat.le_refl _) (by omega) hc).mono ?_
    rintro e w' ⟨rfl, rfl⟩
    refine ⟨?_, rfl⟩
    rw [List.take_of_length_le (Nat.le_refl _)]
    congr 3
    by_cases hx : x ∈ s
    · rw [decide_eq_true hx]; simpa using hx
    · rw [decide_eq_false hx]; simpa using hx
set_option maxRecDepth 100000 in
set_option maxHeartbeats 4000000 in
theorem firstOf_any (v : Value) (s : List Int) (b : Nat) (x y z : Int) (w : World) (h : NRow w v s) (hn : s.length ≤ 1048576) (hb : Blk w b #[.int .i64 x, .int .i64 y, .int .i64 z] 3) :
    Calls Try.prog 51 #[v, .slice (some ⟨b, 0, none⟩) 3 3] w fun e w' => e = .returned (.int .i64 (pick3 s x y z)) ∧ Below w.heap.size w w' := by
  have CT : Hid (∀ t, Calls Try.prog 60 #[v, .int .i64 t] w fun e w' => e = .returned (.bool (decide (t ∈ s))) ∧ w' = w) := fun t => contI_any v s t w h hn
  obtain ⟨a, c, rfl⟩ := h.slice
  have c0 := hb.cell 0
  have c1 := hb.cell 1
  have c2 := hb.cell 2
  simp at c0 c1 c2
  have C0 := Lib.hid (CT.out x)
  have C1 := Lib.hid (CT.out y)
  have C2 := Lib.hid (CT.out z)
  obtain ⟨r, hr⟩ : ∃ r, r = pick3 s x y z := ⟨_, rfl⟩
  have HR := Lib.hid hr
  rw [← hr]
  obtain ⟨p, hp⟩ : ∃ p, p = decide (x ∈ s) := ⟨_, rfl⟩
  obtain ⟨q, hq⟩ : ∃ p, p = decide (y ∈ s) := ⟨_, rfl⟩
  obtain ⟨t, ht⟩ : ∃ p, p = decide (z ∈ s) := ⟨_, rfl⟩
  rw [← hp] at C0
  rw [← hq] at C1
  rw [← ht] at C2
  have HP := Lib.hid hp
  have HQ := Lib.hid hq
  generalize s.length = N at *
  clear h hb hr hp hq ht CT
  cases p with
  | true =>
    have HE : Hid (r = x) := by unfold Hid; rw [HR.out]; unfold pick3; rw [if_pos (of_decide_eq_true HP.out.symm)]
    go_enter Try.func51, Try.ntmps51
    go_wp2_with fail
    refine wp_loop_rounds 1 ?_; rw [rounds_succ]
    go_wp2_with fail
    refine C0.out.mono ?_; rintro e w1 ⟨rfl, hw⟩
    replace hw := hw.symm; subst hw
    go_wp2_with fail
    go_ret
    exact ⟨by rw [HE.out]; rfl, Below.refl _ _⟩
  | false =>
    cases q with
    | true =>
      have HE : Hid (r = y) := by unfold Hid; rw [HR.out]; unfold pick3; rw [if_neg (of_decide_eq_false HP.out.symm), if_pos (of_decide_eq_true HQ.out.symm)]
      go_enter Try.func51, Try.ntmps51
      go_wp2_with fail
      refine wp_loop_rounds 2 ?_; rw [rounds_succ]
      go_wp2_with fail
      refine C0.out.mono ?_; rintro e w1 ⟨rfl, hw⟩
      replace hw := hw.symm; subst hw
      go_wp2_with fail
      rw [rounds_succ]
      go_wp2_with fail
      refine C1.out.mono ?_; rintro e w1 ⟨rfl, hw⟩
      replace hw := hw.symm; subst hw
      go_wp2_with fail
      go_ret
      exact ⟨by rw [HE.out]; rfl, Below.refl _ _⟩
    | false =>
      have HE : Hid (r = z) := by unfold Hid; rw [HR.out]; unfold pick3; rw [if_neg (of_decide_eq_false HP.out.symm), if_neg (of_decide_eq_false HQ.out.symm)]
      cases t with
      | true =>
        go_enter Try.func51, Try.ntmps51
        go_wp2_with fail
        refine wp_loop_rounds 3 ?_; rw [rounds_succ]
        go_wp2_with fail
        refine C0.out.mono ?_; rintro e w1 ⟨rfl, hw⟩
        replace hw := hw.symm; subst hw
        go_wp2_with fail
        rw [rounds_succ]
        go_wp2_with fail
        refine C1.out.mono ?_; rintro e w1 ⟨rfl, hw⟩
        replace hw := hw.symm; subst hw
        go_wp2_with fail
        rw [rounds_succ]
        go_wp2_with fail
        refine C2.out.mono ?_; rintro e w1 ⟨rfl, hw⟩
        replace hw := hw.symm; subst hw
        go_wp2_with fail
        go_ret
        exact ⟨by rw [HE.out]; rfl, Below.refl _ _⟩
      | false =>
        go_enter Try.func51, Try.ntmps51
        go_wp2_with fail
        refine wp_loop_rounds 4 ?_; rw [rounds_succ]
        go_wp2_with fail
        refine C0.out.mono ?_; rintro e w1 ⟨rfl, hw⟩
        replace hw := hw.symm; subst hw
        go_wp2_with fail
        rw [rounds_succ]
        go_wp2_with fail
        refine C1.out.mono ?_; rintro e w1 ⟨rfl, hw⟩
        replace hw := hw.symm; subst hw
        go_wp2_with fail
        rw [rounds_succ]
        go_wp2_with fail
        refine C2.out.mono ?_; rintro e w1 ⟨rfl, hw⟩
        replace hw := hw.symm; subst hw
        go_wp2_with fail
        rw [rounds_succ]
        go_wp2_with fail
        go_ret
        exact ⟨by rw [HE.out]; rfl, Below.refl _ _⟩
end

section
open Go Go.RowKit Go.Lib
theorem sayJs_take (l : List Wh) (k : Int) (js : List Nat) {i : Nat} (h : i < js.length) : sayJs l k (js.take (i + 1)) = sayJs l k (js.take i) ++ [ofT k (howL l js[i])] := by
  unfold sayJs; rw [List.take_add_one, List.getElem?_eq_getElem h, List.map_append]; rfl
set_option maxRecDepth 100000 in
set_option maxHeartbeats 4000000 in
theorem sayNeed_any (k : Int) (v : Value) (js : List Nat) (kv : Value) (l : List Wh) (alone : Bool) (w : World) (h : URow w v js) (hn : js.length ≤ 1048576) (hok : okN (k, js)) (hK : Known w kv l) :
    Calls Try.prog 50 #[.agg #[.int .i64 k, v], kv, .bool alone] w fun e w' => e = .returned (.int .i64 (sayN alone l (k, js))) ∧ Below w.heap.size w w' := by
  obtain ⟨a, c, rfl⟩ := h.slice
  obtain ⟨r, hr⟩ : ∃ r, r = sayN alone l (k, js) := ⟨_, rfl⟩
  have HR := Lib.hid hr
  rw [← hr]
  clear hr
  by_cases k5 : k = 5
  · subst k5
    unfold sayN at HR
    dsimp only at HR
    cases alone with
    | true =>
      have HE : Hid (r = 2) := by unfold Hid; rw [HR.out]; rfl
      go_enter Try.func50, Try.ntmps50
      go_wp2_with fail
      go_ret
      exact ⟨by rw [HE.out]; rfl, by go_grown⟩
    | false =>
      have HE : Hid (r = 1) := by unfold Hid; rw [HR.out]; rfl
      go_enter Try.func50, Try.ntmps50
      go_wp2_with fail
      go_ret
      exact ⟨by rw [HE.out]; rfl, by go_grown⟩
  · have hk : (1 ≤ k ∧ k ≤ 4) ∧ js.length ≤ 20 := by
      rcases hok with ⟨h1, h2, _, h4, _⟩ | ⟨h1, _⟩
      · exact ⟨⟨h1, h2⟩, h4⟩
      · exact absurd h1 k5
    have hne : ¬ k = 5 := k5
    have e5 : (k == 5) = false := by simpa using k5
    have HE : Hid (r = worst (sayJs l k js)) := by unfold Hid; rw [HR.out]; unfold sayN; rw [if_neg hne]
    have HJ := Lib.hid h
    have HKN := Lib.hid hK
    have hl20 := hk.2
    have HK4 := Lib.hid hk.1
    obtain ⟨N, hN⟩ : ∃ N, N = js.length := ⟨_, rfl⟩
    have HN := Lib.hid hN
    rw [← hN] at hl20 ⊢
    obtain ⟨i0, hi, hz0, hz1, hz2⟩ := info_parts Try.infoNum
    have HI := Lib.hid (And.intro hi (And.intro hz0 (And.intro hz1 hz2)))
    obtain ⟨gx, hgx⟩ : ∃ g, g = w.heap.size := ⟨_, rfl⟩
    obtain ⟨X, hX⟩ : ∃ X, X = w.alloc (.cells #[.int .i64 k, .slice a N c] 58) := ⟨_, rfl⟩
    have hbX : Below w.heap.size w X := by rw [hX]; exact (Below.refl _ _).alloc (Nat.le_refl _) _
    have hbk : Blk X gx #[.int .i64 k, .slice a N c] 58 := by rw [hX, hgx]; exact Blk.new w _ _
    have HBX := Lib.hid hbX
    have HBK := Lib.hid hbk
    have y0 := hbk.cell 0
    have y1 := hbk.cell 1
    simp at y0 y1
    clear h hK hk hok hN hbX hbk hi hz0 hz1 hz2 k5 hne HR
    go_enter Try.func50, Try.ntmps50
    go_upto_region 1 with fail
    rw [← hgx, ← hX]
    have HXX := Lib.hid hX
    have HGX := Lib.hid hgx
    clear hX hgx
    have HOW : Hid (∀ j w1, Below X.heap.size X w1 → Calls Try.prog 59 #[kv, .int .u32 (j : Nat)] w1 fun e w' => e = .returned (.int .i64 (howL l j)) ∧ Below w1.heap.size w1 w') := fun j w1 hb => howOf_any kv l j w1 ((HKN.out.kept HBX.out).kept hb)
    have SJ : Hid (∀ j w1, Calls Try.prog 58 #[.int .i64 k, .int .i64 (howL l j)] w1 fun e w' => e = .returned (.int .i64 (ofT k (howL l j))) ∧ Below w1.heap.size w1 w') := fun j w1 => sayJob_any k (howL l j) w1 HK4.out (howL_le l j)
    obtain ⟨B0, hB0⟩ : ∃ b, b = X.heap.size := ⟨_, rfl⟩
    obtain ⟨Y, hY⟩ : ∃ Y, Y = X.alloc (.cells #[] 3) := ⟨_, rfl⟩
    have HBY : Hid (Below X.heap.size X Y) := by unfold Hid; rw [hY]; exact (Below.refl _ _).alloc (Nat.le_refl _) _
    have HMY : Hid (Y.ownsRow B0 3 1 (.slice (some ⟨X.heap.size, 0, none⟩) 0 0) 0 []) := by unfold Hid; rw [hY, hB0]; exact World.ownsRow_made X #[] 0 (Nat.le_refl _) (Nat.zero_le _) (by simp)
    have y2 := cell_next HBY.out y1
    go_upto_region 6 with fail
    rw [← hY]
    clear hY
    go_wp2_with fail
    go_loopw [7, 18] (fun sv iv wr => ∃ i : Nat, i ≤ N ∧ iv = .int .i64 (i : Nat) ∧ Hid (wr.ownsRow B0 3 1 sv i (numsL (sayJs l k (js.take i)))) ∧ Hid (Below X.heap.size X wr)) (fun _ iv _ => N - (RowKit.intOf iv).toNat)
    case atStart =>
      exact ⟨0, Nat.zero_le _, rfl, HMY.out, HBY.out⟩
    case round =>
      obtain ⟨i, hi, rfl, HO, HB⟩ := hrel
      by_cases hlt : i < N
      · have d1 : decide ((i : Int) < (N : Int)) = true := decide_eq_true (by omega)
        have d1' : decide (i < N) = true := decide_eq_true hlt
        have hii : (i : Int) < (N : Int) := by omega
        have hik : i < js.length := by rw [← HN.out]; exact hlt
        have hH : URow wr (.slice a js.length c) js := HJ.out.kept (below_next HB.out HBX.out)
        rw [← HN.out] at hH
        obtain ⟨bb, off, e, hc⟩ := RowG.at hH hik
        subst e
        have x0 := hc wr (Below.refl _ _) 0 _ rfl
        simp only [Nat.mul_one, Nat.add_zero] at x0
        have HT : Hid (sayJs l k (js.take (i + 1)) = sayJs l k (js.take i) ++ [ofT k (howL l js[i])]) := sayJs_take l k js hik
        obtain ⟨j, hj⟩ : ∃ j, j = js[i] := ⟨_, rfl⟩
        rw [← hj] at x0 HT
        have HOJ : Hid (∀ w1, Below X.heap.size X w1 → Calls Try.prog 59 #[kv, .int .u32 (j : Nat)] w1 fun e w' => e = .returned (.int .i64 (howL l j)) ∧ Below w1.heap.size w1 w') := HOW.out j
        have SJJ : Hid (∀ w1, Calls Try.prog 58 #[.int .i64 k, .int .i64 (howL l j)] w1 fun e w' => e = .returned (.int .i64 (ofT k (howL l j))) ∧ Below w1.heap.size w1 w') := SJ.out j
        generalize howL l j = hw at *
        generalize ofT k hw = os at *
        obtain ⟨hi0, hz0, hz1, hz2⟩ := HI.out
        have HBd : Below X.heap.size X wr.drew := HB.out.drew
        have hkc : wr.drew.cell? ⟨gx, 0, none⟩ = some (.int .i64 k) := cell_next HBd y0
        have HOd : wr.drew.ownsRow B0 3 1 _ i (numsL (sayJs l k (js.take i))) := HO.out
        have hB0le : B0 ≤ X.heap.size := by rw [hB0]; exact Nat.le_refl _
        clear hc hH hj
        go_upto_region 9 with fail
        go_region_law
          (first
            | (go_simp; go_at_call 59; (with_reducible refine (HOJ.out _ HBd).mono ?_); rintro e w4 ⟨rfl, b4⟩; have HBd := below_next b4 HBd; have HOd := own_older HOd b4; have hkc := cell_next b4 hkc; clear b4; try dsimp only)
            | (go_simp; go_at_call 58; (with_reducible refine (SJJ.out _).mono ?_); rintro e w5 ⟨rfl, b4⟩; have HBd := below_next b4 HBd; have HOd := own_older HOd b4; have hkc := cell_next b4 hkc; clear b4; try dsimp only)
            | (refine step_append_lies _ (by rfl) _ _ 30 (by rfl) B0 3 i0 _ 1 8 Try.underlying30 hi0 hz0 hz1 hz2 rfl (by decide) _ i _ (by rfl) (World.ownsRow.alloc HOd _) ⟨w5.heap.size, 0, none⟩ 1 1 [.int .i64 os] (by rfl) (by rfl) (news_alloc w5 [.int .i64 os] _) (by simp [Value.oneCell']) (by decide) (by unfold maxLen; omega) (by omega) (by have := HBd.size; simp; omega) (w5.heap.size + 1) (by simp) ?_; intro g4 cap4 w6 hown4 hgrow4 hat4 _))
        all_goals
          go_wp2_with fail
          go_roundw
          case rel =>
            refine ⟨i + 1, hlt, by go_num, ?_, (HBd.alloc HBd.size _).grown hgrow4 (by have := HBd.size; simp; omega) (fun q hq => by have := (HOd.lt q hq).1; omega)⟩
            unfold Hid
            rw [HT.out, numsL_app]
            exact hown4
          case measure => simp [RowKit.intOf]; omega
      · have d1 : decide ((i : Int) < (N : Int)) = false := decide_eq_false (by omega)
        have d1' : decide (i < N) = false := decide_eq_false hlt
        obtain rfl : i = N := by omega
        have hjt : js.take i = js := by rw [HN.out]; exact List.take_length
        have HO2 : Hid (NOwn wr B0 u7 (sayJs l k js)) := by
          have h := HO.out
          rw [hjt] at h
          unfold Hid NOwn
          rw [show (sayJs l k js).length = i by unfold sayJs; rw [List.length_map, HN.out]]
          exact h
        have HRW := Lib.hid (nrow_of_own HO2.out)
        have hsl : (sayJs l k js).length = i := by unfold sayJs; rw [List.length_map, HN.out]
        obtain ⟨sa, sc, rfl⟩ := own_slice HO2.out
        obtain ⟨Z, hZ⟩ : ∃ Z, Z = wr.alloc (.cells #[.int .i64 3, .int .i64 1, .int .i64 2] 3) := ⟨_, rfl⟩
        have hbz : Below wr.heap.size wr Z := by rw [hZ]; exact (Below.refl _ _).alloc (Nat.le_refl _) _
        have C : Hid (Calls Try.prog 51 #[.slice sa (sayJs l k js).length sc, .slice (some ⟨wr.heap.size, 0, none⟩) 3 3] Z fun e w' => e = .returned (.int .i64 r) ∧ Below Z.heap.size Z w') := by
          unfold Hid
          rw [HE.out]
          exact firstOf_any _ (sayJs l k js) wr.heap.size 3 1 2 Z (HRW.out.kept hbz) (by rw [hsl]; omega) (by rw [hZ]; exact Blk.new _ _ _)
        rw [hsl] at C ⊢
        have HBZ := Lib.hid (below_next (below_next hbz HB.out) HBX.out)
        clear HO HO2 HRW hbz hjt
        go_wp2_with fail
        rw [← hZ]
        refine C.out.mono ?_; rintro e w5 ⟨rfl, b5⟩
        have HB5 := Lib.hid (below_next b5 HBZ.out)
        clear b5 C hZ
        go_wp2_with fail
        go_ret
        exact ⟨rfl, HB5.out⟩
end

end Go.Proofs.Ytfabjlhepadkpaa
