/-
  gangerlaw15.plans, named.
  gangerlaw15.copied.
  gangerlaw15.far.
  gangerlaw15.want.
-/
import Derived.Test.YtioeblljabohbaaBfPlan
import Derived.Test.YtioeblljabohbaaBfJj
namespace Go.Proofs.Ytioeblljabohbaa
set_option linter.unusedVariables false

section
open Go Go.RowKit Go.Lib Go.Sort
/-- The jobs, numbered by their places. -/
def namedF (i : Nat) : List WaI → List WaI
  | [] => []
  | x :: l => ((i : Int) + 1, x.2.1, x.2.2) :: namedF (i + 1) l
theorem namedF_len (l : List WaI) : ∀ i, (namedF i l).length = l.length := by
  induction l with
  | nil => intro i; rfl
  | cons x l ih => intro i; rw [namedF, List.length_cons, List.length_cons, ih]
theorem namedF_get (l : List WaI) : ∀ i k (h : k < l.length), (namedF i l)[k]? = some (((i + k : Nat) : Int) + 1, l[k].2.1, l[k].2.2) := by
  induction l with
  | nil => intro i k h; simp at h
  | cons x l ih =>
    intro i k h
    rw [namedF]
    cases k with
    | zero => simp
    | succ k =>
      rw [List.getElem?_cons_succ, ih (i + 1) k (by simpa using h)]
      simp only [List.getElem_cons_succ]
      congr 3
      omega
def namedL (l : List WaI) : List WaI := namedF 0 l
theorem namedL_len (l : List WaI) : (namedL l).length = l.length := namedF_len l 0
theorem namedF_app (l : List WaI) (x : WaI) : ∀ i, namedF i (l ++ [x]) = namedF i l ++ [(((i + l.length : Nat) : Int) + 1, x.2.1, x.2.2)] := by
  induction l with
  | nil => intro i; rfl
  | cons y l ih =>
    intro i
    rw [List.cons_append, namedF, ih (i + 1), namedF, List.cons_append]
    congr 4
    rw [List.length_cons]; omega
theorem namedL_take {l : List WaI} {k : Nat} (h : k < l.length) : namedL (l.take (k + 1)) = namedL (l.take k) ++ [((k : Int) + 1, l[k].2.1, l[k].2.2)] := by
  unfold namedL
  rw [List.take_add_one, List.getElem?_eq_getElem h]
  show namedF 0 (l.take k ++ [l[k]]) = _
  rw [namedF_app, List.length_take, Nat.zero_add, Nat.min_eq_left (by omega)]
abbrev WOwn (w : World) (base : Nat) (v : Value) (l : List WaI) : Prop := w.ownsRow base 51 3 v l.length (l.flatMap waI)
theorem waI_one (x : WaI) : ∀ u ∈ waI x, u.oneCell' = true := by
  intro u hu
  simp [waI] at hu
  rcases hu with rfl | rfl | rfl <;> rfl
theorem src_wa {w : World} {b : Nat} {ty : TypeId} {x : WaI} (h : Blk w b (waI x).toArray ty) : Src w 3 (.slice (some ⟨b, 0, none⟩) 1 1) 1 (waI x) := by
  refine ⟨rfl, .inr ⟨_, 1, rfl, fun j u hu => ?_⟩⟩
  rw [Addr.add_lit, Nat.zero_add, h.cell, ← Array.getElem?_toList]
  exact hu
theorem Try.infoWant : (Try.prog.info? 51).map (fun i => (i.zero, i.size, i.bytes)) = some (some (.agg #[.int .u32 0, .int .i64 0, .int .i64 0]), 3, 24) := by kernel_rfl
set_option maxRecDepth 100000 in
set_option maxHeartbeats 4000000 in
theorem named_any (vw : Value) (WL : List WaI) (w : World) (hw : WRow w vw WL) (hn : WL.length ≤ 1000) :
    Calls Try.prog 20 #[vw] w fun e w' => ∃ v, e = .returned v ∧ WOwn w' w.heap.size v (namedL WL) ∧ Below w.heap.size w w' := by
  obtain ⟨i0, hi, hz0, hz1, hz2⟩ := info_parts Try.infoWant
  have HW := Lib.hid hw
  obtain ⟨wa, wc, rfl⟩ := hw.slice
  obtain ⟨L, hL⟩ : ∃ n, n = WL.length := ⟨_, rfl⟩
  rw [← hL] at HW hn ⊢
  have HL := Lib.hid hL
  clear hw hL
  go_enter Try.func20, Try.ntmps20
  go_wp2_with fail
  go_loopw [3, 4] (fun ov iv wr => ∃ (k : Nat) (a : Option Addr) (c : Nat), k ≤ L ∧ iv = .int .i64 k ∧ ov = .slice a k c ∧ Hid (wr.ownsRow w.heap.size 51 3 (.slice a k c) k ((namedL (WL.take k)).flatMap waI)) ∧ Hid (Below w.heap.size w wr)) (fun _ iv _ => L - (RowKit.intOf iv).toNat)
  case atStart => exact ⟨0, none, 0, Nat.zero_le _, rfl, rfl, World.ownsRow_nil _ _ _ _, Below.refl _ _⟩
  case round =>
    obtain ⟨k, oa, oc, hk, rfl, rfl, HO, HB⟩ := hrel
    by_cases hlt : k < L
    · have hd : decide (k < L) = true := decide_eq_true hlt
      have hki : (k : Int) < (L : Int) := by omega
      have hkl : k < WL.length := by rw [← HL.out]; exact hlt
      cases wa with
      | none => have := wrow_none HW.out; rw [this] at hkl; simp at hkl
      | some A =>
      obtain ⟨bb, off, rfl⟩ := wrow_some HW.out (by omega)
      obtain ⟨c0, c1, c2⟩ := wa_cells HW.out hkl HB.out
      have HN := Lib.hid (namedL_take hkl)
      obtain ⟨x, hx⟩ : ∃ x, x = WL[k] := ⟨_, rfl⟩
      rw [← hx] at c0 c1 c2 HN
      obtain ⟨x1, x2, x3⟩ := x
      dsimp only at c0 c1 c2 HN
      clear hx hkl
      obtain ⟨gW, hgW⟩ : ∃ g, g = wr.heap.size := ⟨_, rfl⟩
      obtain ⟨W2, hW2⟩ : ∃ W, W = wr.alloc (.cells #[.int .u32 x1, .int .i64 x2, .int .i64 x3] 51) := ⟨_, rfl⟩
      have hb2 : Below wr.heap.size wr W2 := by rw [hW2]; exact (Below.refl _ _).alloc (Nat.le_refl _) _
      have hG : Blk W2 gW #[.int .u32 x1, .int .i64 x2, .int .i64 x3] 51 := by rw [hW2, hgW]; exact Blk.new _ _ _
      have HG := Lib.hid hG
      have hf := hG.free 0
      have g0 := hG.cell 0
      simp at g0
      have hB2 := below_next hb2 HB.out
      have HG3 : Hid (Blk (W2.setCell ⟨gW, 0, none⟩ (.int .u32 ((k : Int) + 1))) gW #[.int .u32 ((k : Int) + 1), .int .i64 x2, .int .i64 x3] 51) := hG.set 0 _
      have HO3 : Hid ((W2.setCell ⟨gW, 0, none⟩ (.int .u32 ((k : Int) + 1))).ownsRow w.heap.size 51 3 (.slice oa k oc) k ((namedL (WL.take k)).flatMap waI)) := by
        refine own_one (own_older HO.out hb2) (Chg.setCell 0 _ rfl) (fun e => ?_)
        have := (own_ge HO.out e).2
        omega
      have HB3 : Hid (Below w.heap.size w (W2.setCell ⟨gW, 0, none⟩ (.int .u32 ((k : Int) + 1)))) := hB2.setCell (p := ⟨gW, 0, none⟩) (by have := HB.out.size; show _ ≤ gW; omega) _
      go_upto_region 6 with fail
      rw [← hW2, ← hgW]
      clear hW2 hgW c0 c1 c2 hb2 hG hB2
      go_upto_region 7 with fail
      obtain ⟨W3, hW3⟩ : ∃ x, x = W2.setCell ⟨gW, 0, none⟩ (.int .u32 ((k : Int) + 1)) := ⟨_, rfl⟩
      rw [← hW3] at HG3 HO3 HB3 ⊢
      clear hW3 HG HO HB hf g0
      have g0 := HG3.out.cell 0
      have g1 := HG3.out.cell 1
      have g2 := HG3.out.cell 2
      simp at g0 g1 g2
      go_wp2_with (first | (at_builtin; refine wpList_app rfl _ _ 43 rfl w.heap.size 51 i0 _ 3 24 Try.underlying43 hi hz0 hz1 hz2 rfl (by decide) _ k ((namedL (WL.take k)).flatMap waI) rfl (HO3.out.alloc _) _ 1 (waI ((k : Int) + 1, x2, x3)) rfl (src_wa (x := ((k : Int) + 1, x2, x3)) (Blk.new _ _ _)) (waI_one _) (by unfold maxLen; omega) (by omega) (by have := HB3.out.size; simp; omega) ?_; intro v8 w8 hown8 hgrow8 hat8; have HB8 := Lib.hid ((HB3.out.alloc HB3.out.size _).grown hgrow8 (by have := HB3.out.size; simp; omega) (fun j hj => (own_ge HO3.out hj).1)); obtain ⟨a8, c8, rfl⟩ := own_slice hown8; have HO8 := Lib.hid hown8; clear hown8 hgrow8 hat8))
      go_roundw
      case rel => exact ⟨k + 1, a8, c8, hlt, by go_num, rfl, by (rw [HN.out, List.flatMap_append]; simpa using HO8), HB8⟩
      case measure => simp [RowKit.intOf]; omega
    · have hd : decide (k < L) = false := decide_eq_false hlt
      have hki : ¬ (k : Int) < (L : Int) := by omega
      have HO2 : Hid (WOwn wr w.heap.size (.slice oa k oc) (namedL WL)) := by
        have hkL : k = WL.length := by have := HL.out; omega
        have h := HO.out
        rw [hkL, List.take_length] at h
        show wr.ownsRow _ _ 3 _ (namedL WL).length _
        rw [namedL_len, hkL]; exact h
      clear HO
      go_wp2_with fail
      go_ret
      exact ⟨_, rfl, HO2.out, HB.out⟩
set_option maxRecDepth 100000 in
set_option maxHeartbeats 4000000 in
theorem named_big (vw : Value) (WL : List WaI) (w : World) (hw : WRow w vw WL) (hn : WL.length ≤ 5864062014634) :
    Calls Try.prog 20 #[vw] w fun e w' => ∃ a c, e = .returned (.slice a WL.length c) ∧ Below w.heap.size w w' := by
  obtain ⟨i0, hi, hz0, hz1, hz2⟩ := info_parts Try.infoWant
  have HW := Lib.hid hw
  obtain ⟨wa, wc, rfl⟩ := hw.slice
  obtain ⟨L, hL⟩ : ∃ n, n = WL.length := ⟨_, rfl⟩
  rw [← hL] at HW hn ⊢
  have HL := Lib.hid hL
  clear hw hL
  go_enter Try.func20, Try.ntmps20
  go_wp2_with fail
  go_loopw [3, 4] (fun ov iv wr => ∃ (k : Nat) (a : Option Addr) (c : Nat), k ≤ L ∧ iv = .int .i64 k ∧ ov = .slice a k c ∧ Hid (∃ xs, wr.ownsRow w.heap.size 51 3 (.slice a k c) k xs) ∧ Hid (Below w.heap.size w wr)) (fun _ iv _ => L - (RowKit.intOf iv).toNat)
  case atStart => exact ⟨0, none, 0, Nat.zero_le _, rfl, rfl, ⟨[], World.ownsRow_nil _ _ _ _⟩, Below.refl _ _⟩
  case round =>
    obtain ⟨k, oa, oc, hk, rfl, rfl, HOX, HB⟩ := hrel
    obtain ⟨xs, hxs⟩ := HOX.out
    have HO := Lib.hid hxs
    clear HOX hxs
    by_cases hlt : k < L
    · have hd : decide (k < L) = true := decide_eq_true hlt
      have hki : (k : Int) < (L : Int) := by omega
      have hkl : k < WL.length := by rw [← HL.out]; exact hlt
      cases wa with
      | none => have := wrow_none HW.out; rw [this] at hkl; simp at hkl
      | some A =>
      obtain ⟨bb, off, rfl⟩ := wrow_some HW.out (by omega)
      obtain ⟨c0, c1, c2⟩ := wa_cells HW.out hkl HB.out
      obtain ⟨x, hx⟩ : ∃ x, x = WL[k] := ⟨_, rfl⟩
      rw [← hx] at c0 c1 c2
      obtain ⟨x1, x2, x3⟩ := x
      dsimp only at c0 c1 c2
      clear hx hkl
      obtain ⟨X, hX⟩ : ∃ X, IntKind.u32.wrap ((k : Int) + 1) = X := ⟨_, rfl⟩
      obtain ⟨gW, hgW⟩ : ∃ g, g = wr.heap.size := ⟨_, rfl⟩
      obtain ⟨W2, hW2⟩ : ∃ W, W = wr.alloc (.cells #[.int .u32 x1, .int .i64 x2, .int .i64 x3] 51) := ⟨_, rfl⟩
      have hb2 : Below wr.heap.size wr W2 := by rw [hW2]; exact (Below.refl _ _).alloc (Nat.le_refl _) _
      have hG : Blk W2 gW #[.int .u32 x1, .int .i64 x2, .int .i64 x3] 51 := by rw [hW2, hgW]; exact Blk.new _ _ _
      have HG := Lib.hid hG
      have hf := hG.free 0
      have g0 := hG.cell 0
      simp at g0
      have hB2 := below_next hb2 HB.out
      have HG3 : Hid (Blk (W2.setCell ⟨gW, 0, none⟩ (.int .u32 X)) gW #[.int .u32 X, .int .i64 x2, .int .i64 x3] 51) := hG.set 0 _
      have HO3 : Hid ((W2.setCell ⟨gW, 0, none⟩ (.int .u32 X)).ownsRow w.heap.size 51 3 (.slice oa k oc) k xs) := by
        refine own_one (own_older HO.out hb2) (Chg.setCell 0 _ rfl) (fun e => ?_)
        have := (own_ge HO.out e).2
        omega
      have HB3 : Hid (Below w.heap.size w (W2.setCell ⟨gW, 0, none⟩ (.int .u32 X))) := hB2.setCell (p := ⟨gW, 0, none⟩) (by have := HB.out.size; show _ ≤ gW; omega) _
      go_upto_region 6 with fail
      rw [← hW2, ← hgW]
      clear hW2 hgW c0 c1 c2 hb2 hG hB2
      go_upto_region 7 with fail
      obtain ⟨W3, hW3⟩ : ∃ x, x = W2.setCell ⟨gW, 0, none⟩ (.int .u32 X) := ⟨_, rfl⟩
      rw [← hW3] at HG3 HO3 HB3 ⊢
      clear hW3 HG HO HB hf g0
      have g0 := HG3.out.cell 0
      have g1 := HG3.out.cell 1
      have g2 := HG3.out.cell 2
      simp at g0 g1 g2
      go_wp2_with (first | (at_builtin; refine wpList_app rfl _ _ 43 rfl w.heap.size 51 i0 _ 3 24 Try.underlying43 hi hz0 hz1 hz2 rfl (by decide) _ k xs rfl (HO3.out.alloc _) _ 1 (waI (X, x2, x3)) rfl (src_wa (x := (X, x2, x3)) (Blk.new _ _ _)) (waI_one _) (by unfold maxLen; omega) (by omega) (by have := HB3.out.size; simp; omega) ?_; intro v8 w8 hown8 hgrow8 hat8; have HB8 := Lib.hid ((HB3.out.alloc HB3.out.size _).grown hgrow8 (by have := HB3.out.size; simp; omega) (fun j hj => (own_ge HO3.out hj).1)); obtain ⟨a8, c8, rfl⟩ := own_slice hown8; have HO8 := Lib.hid hown8; clear hown8 hgrow8 hat8))
      go_roundw
      case rel => exact ⟨k + 1, a8, c8, hlt, by go_num, rfl, ⟨_, HO8.out⟩, HB8⟩
      case measure => simp [RowKit.intOf]; omega
    · have hd : decide (k < L) = false := decide_eq_false hlt
      have hki : ¬ (k : Int) < (L : Int) := by omega
      go_wp2_with fail
      go_ret
      obtain rfl : k = L := by omega
      exact ⟨⟨oa, oc, rfl⟩, HB.out⟩
/-- How a policy's number plans: where jobs begin, wait, go on. -/
def polM (p : Nat) : Nat × Nat × Nat := if p = 0 then (1, 0, 0) else if p = 1 then (1, 2, 1) else (2, 0, 0)
set_option maxRecDepth 100000 in
set_option maxHeartbeats 4000000 in
theorem plans_of (N now policy : Int) (vf vh vw : Value) (m : Nat) (er : Int) (S : List SlT) (w : World) (U : Nat) (u1 : IntKind.u64.wrap policy = (U : Int)) (u2 : (U : Int) % 3 = (m : Int)) (u6 : (U : Int).tmod 3 = (m : Int)) (hm : m < 3) (h1 : vf.oneCell' = true) (h2 : vh.oneCell' = true)
    (hp : ∀ w', Below w.heap.size w w' → Calls Try.prog (if m = 0 then 26 else if m = 1 then 24 else 27) #[.agg #[.int .i64 N, vf, vh], vw, .int .i64 now] w' fun e w'' => PlanTo w'.heap.size er S w' e w'') :
    Calls Try.prog 22 #[.agg #[.int .i64 N, vf, vh], vw, .int .i64 now, .int .i64 policy] w fun e w' => PlanTo w.heap.size er S w e w' := by
  obtain ⟨W, hW⟩ : ∃ W, W = w.alloc (.cells #[.int .i64 N, vf, vh] 25) := ⟨_, rfl⟩
  obtain ⟨gS, hgS⟩ : ∃ g, g = w.heap.size := ⟨_, rfl⟩
  have HBW : Hid (Below w.heap.size w W) := by unfold Hid; rw [hW]; exact (Below.refl _ _).alloc (Nat.le_refl _) _
  have HS : Hid (Blk W gS #[.int .i64 N, vf, vh] 25) := by unfold Hid; rw [hW, hgS]; exact Blk.new w _ _
  have s0 := HS.out.cell 0
  have s1 := HS.out.cell 1
  have s2 := HS.out.cell 2
  simp at s0 s1 s2
  have HP := Lib.hid (hp W HBW.out)
  clear hp
  rcases (by omega : m = 0 ∨ m = 1 ∨ m = 2) with rfl | rfl | rfl
  all_goals
    first
      | rw [if_pos rfl] at HP
      | rw [if_neg (by decide), if_pos rfl] at HP
      | rw [if_neg (by decide), if_neg (by decide)] at HP
    go_enter Try.func22, Try.ntmps22
    go_upto_region 1 with fail
    rw [← hgS, ← hW]
    clear hgS hW
    go_upto_region 2 with fail
    clear u1 u2 u6
    go_wp2_with fail
    refine HP.out.mono ?_; rintro e w1 ⟨v, rfl, ho, b1⟩
    have HO := Lib.hid (own_low ho HBW.out.size)
    have HB1 := Lib.hid (below_next b1 HBW.out)
    clear ho b1 HP s0 s1 s2
    go_wp2_with fail
    go_ret2
    exact ⟨_, rfl, HO.out, HB1.out⟩
end

section
open Go Go.RowKit Go.Lib Go.Sort
abbrev HOwnI (w : World) (base : Nat) (v : Value) (l : List HeI) : Prop := w.ownsRow base 57 4 v l.length (l.flatMap heI)
theorem src_of_grow {w : World} {v : Value} {l : List Int} (h : GRow w v l) : Src w 1 v l.length (numsL l) := by
  refine ⟨by unfold numsL; rw [List.length_map, Nat.mul_one], ?_⟩
  rcases h with ⟨rfl, a, c, rfl⟩ | ⟨b, off, c, rfl, hc⟩
  · cases a with
    | none => exact .inl ⟨c, rfl, rfl⟩
    | some A => exact .inr ⟨A, c, rfl, fun j u hu => by simp [numsL] at hu⟩
  · refine .inr ⟨_, c, rfl, fun j u hu => ?_⟩
    unfold numsL at hu
    rw [List.getElem?_map] at hu
    have hj : j < l.length := by
      rcases Nat.lt_or_ge j l.length with h | h
      · exact h
      · rw [List.getElem?_eq_none h] at hu; cases hu
    rw [List.getElem?_eq_getElem hj] at hu
    rw [Addr.add_lit, hc j hj, List.getD_eq_getElem?_getD, List.getElem?_eq_getElem hj]
    exact hu
theorem owns_ne2 {w : World} {b1 b2 n m s1 s2 : Nat} {e1 e2 : TypeId} {v1 v2 : Value} {xs ys : List Value} (h : w.ownsRow b1 e1 s1 v1 n xs) (ho : w.ownsRow b2 e2 s2 v2 m ys) (hne : e1 ≠ e2) : ∀ g, v1.ownBlock = some g → v2.ownBlock ≠ some g := by
  intro g h1 h2
  obtain ⟨_, ⟨rfl, _⟩ | ⟨g1, _, c1, rfl, _, hc1, _⟩⟩ := h
  · cases h1
  obtain ⟨_, ⟨rfl, _⟩ | ⟨g2, _, c2, rfl, _, hc2, _⟩⟩ := ho
  · cases h2
  obtain rfl : g1 = g := by simpa [Value.ownBlock] using h1
  obtain rfl : g2 = g1 := by simpa [Value.ownBlock] using h2
  rw [hc1] at hc2
  injection hc2 with hc2
  injection hc2 with _ h4 _
  exact hne h4
theorem heI_one (l : List HeI) : ∀ u ∈ l.flatMap heI, u.oneCell' = true := by
  intro u hu
  obtain ⟨x, _, hx⟩ := List.mem_flatMap.1 hu
  simp [heI] at hx
  rcases hx with rfl | rfl | rfl | rfl <;> rfl
set_option maxRecDepth 100000 in
set_option maxHeartbeats 4000000 in
theorem copied_any (N : Int) (vf vh : Value) (FL : List Int) (HL : List HeI) (w : World) (hf : GRow w vf FL) (hh : HRow w vh HL) (hfl : FL.length ≤ 1048576) (hhl : HL.length ≤ 1048576) :
    Calls Try.prog 10 #[.agg #[.int .i64 N, vf, vh]] w fun e w' => ∃ vF vH, e = .returned (.agg #[.int .i64 N, vF, vH]) ∧ NOwn w' w.heap.size vF FL ∧ HOwnI w' w.heap.size vH HL ∧ (∀ g, vF.ownBlock = some g → vH.ownBlock ≠ some g) ∧ Below w.heap.size w w' := by
  obtain ⟨i0, hi, hz0, hz1, hz2⟩ := info_parts Try.infoNum
  obtain ⟨i1, hi1, hy0, hy1, hy2⟩ := info_parts Try.infoIHeld
  have SF := src_of_grow hf
  have SH := src_of_rowG (s := 4) (fun x => rfl) (by decide) hh
  have hf1 := one_of_grow hf
  have hh1 := one_of_row hh
  obtain ⟨fa, fc, rfl⟩ := hf.slice
  obtain ⟨ha, hc, rfl⟩ := hh.slice
  obtain ⟨LF, hLF⟩ : ∃ n, n = FL.length := ⟨_, rfl⟩
  obtain ⟨LH, hLH⟩ : ∃ n, n = HL.length := ⟨_, rfl⟩
  rw [← hLF] at SF hfl ⊢
  rw [← hLH] at SH hhl ⊢
  obtain ⟨W, hW⟩ : ∃ W, W = ((w.alloc (.cells #[.int .i64 N, .slice fa LF fc, .slice ha LH hc] 25)).alloc (.cells #[.int .i64 0, .slice none 0 0, .slice none 0 0] 25)).alloc (.cells #[.int .i64 N, .slice none 0 0, .slice none 0 0] 25) := ⟨_, rfl⟩
  obtain ⟨gS, hgS⟩ : ∃ g, g = w.heap.size := ⟨_, rfl⟩
  obtain ⟨gR, hgR⟩ : ∃ g, g = w.heap.size + 1 := ⟨_, rfl⟩
  obtain ⟨gX, hgX⟩ : ∃ g, g = w.heap.size + 1 + 1 := ⟨_, rfl⟩
  have hbW : Below w.heap.size w W := by rw [hW]; exact (((Below.refl _ _).alloc (Nat.le_refl _) _).alloc (by simp) _).alloc (by simp; omega) _
  have HBW := Lib.hid hbW
  have HS : Hid (Blk W gS #[.int .i64 N, .slice fa LF fc, .slice ha LH hc] 25) := by unfold Hid; rw [hW, hgS]; exact ((Blk.new w _ _).old _).old _
  have HR : Hid (Blk W gR #[.int .i64 0, .slice none 0 0, .slice none 0 0] 25) := by unfold Hid; rw [hW]; exact (Blk.fresh _ _ _ gR (by rw [hgR]; simp)).old _
  have HX : Hid (Blk W gX #[.int .i64 N, .slice none 0 0, .slice none 0 0] 25) := by unfold Hid; rw [hW]; exact Blk.fresh _ _ _ gX (by rw [hgX]; simp)
  have HSF := Lib.hid (SF.kept hbW)
  have HSH := Lib.hid SH
  have HXS : Hid (gX ≠ gS ∧ gX ≠ gR ∧ gS ≠ gR ∧ w.heap.size ≤ gS ∧ w.heap.size ≤ gX ∧ w.heap.size ≤ gR) := ⟨by omega, by omega, by omega, by omega, by omega, by omega⟩
  have HLE : Hid (LF = FL.length ∧ LH = HL.length) := ⟨hLF, hLH⟩
  clear SF SH hf hh hbW hLF hLH
  go_enter Try.func10, Try.ntmps10
  go_upto_region 2 with fail
  rw [← hgX, ← hgR, ← hgS, ← hW]
  clear hW hgX hgR hgS
  have HXL : Hid (gX < W.heap.size) := HX.out.lt
  have HRL : Hid (gR < W.heap.size) := HR.out.lt
  have HWL : Hid (w.heap.size ≤ W.heap.size) := HBW.out.size
  have s1 := HS.out.cell 1
  have x1 := HX.out.cell 1
  simp at s1 x1
  go_upto_region 3 with (first | (at_builtin; refine wpList_app rfl _ _ 22 rfl W.heap.size 3 i0 _ 1 8 Try.underlying22 hi hz0 hz1 hz2 rfl (by decide) _ 0 [] rfl (World.ownsRow_nil _ _ _ _) _ LF (numsL FL) rfl HSF.out (numsL_one _) (by unfold maxLen; omega) (by omega) (Nat.le_refl _) ?_; intro v8 w8 hown8 hgrow8 hat8; simp only [Nat.zero_add, List.nil_append] at hown8; obtain ⟨a8, c8, rfl⟩ := own_slice hown8; have hX8 := blk_grown HX.out hgrow8 (fun e => nomatch e); have hS8 := blk_grown HS.out hgrow8 (fun e => nomatch e); have hR8 := blk_grown HR.out hgrow8 (fun e => nomatch e); have hB8 := HBW.out.grown hgrow8 HBW.out.size (fun j hj => nomatch hj); have hW8 : Below W.heap.size W w8 := (Below.refl _ W).grown hgrow8 (Nat.le_refl _) (fun j hj => nomatch hj); have y1 := hX8.cell 1; have f1 := hX8.free 1; simp at y1; obtain ⟨W3, hW3⟩ : ∃ x, x = w8.setCell ⟨gX, 1, none⟩ (.slice a8 LF c8) := ⟨_, rfl⟩; have HX3 : Hid (Blk W3 gX #[.int .i64 N, .slice a8 LF c8, .slice none 0 0] 25) := (by unfold Hid; rw [hW3]; exact hX8.set 1 _); have HS3 : Hid (Blk W3 gS #[.int .i64 N, .slice fa LF fc, .slice ha LH hc] 25) := (by unfold Hid; rw [hW3]; exact hS8.other (Ne.symm HXS.out.1) _); have HR3 : Hid (Blk W3 gR #[.int .i64 0, .slice none 0 0, .slice none 0 0] 25) := (by unfold Hid; rw [hW3]; exact hR8.other (Ne.symm HXS.out.2.1) _); have HB3 : Hid (Below w.heap.size w W3) := (by unfold Hid; rw [hW3]; exact hB8.setCell (p := ⟨gX, 1, none⟩) HXS.out.2.2.2.2.1 _); have HO3 : Hid (W3.ownsRow W.heap.size 3 1 (.slice a8 LF c8) LF (numsL FL)) := (by unfold Hid; rw [hW3]; exact own_one hown8 (Chg.setCell 1 _ rfl) (fun e => by have := (own_ge hown8 e).1; have := HX.out.lt; omega)); have HW3 : Hid (W.heap.size ≤ W3.heap.size) := (by unfold Hid; rw [hW3]; exact Nat.le_trans hW8.size (by simp [World.setCell])); clear hown8 hgrow8 hat8 hX8 hS8 hR8 hB8 hW8))
  rw [← hW3]
  clear hW3 s1 x1 y1 f1 HX HS HR HBW HSF
  have s2 := HS3.out.cell 2
  have x2 := HX3.out.cell 2
  simp at s2 x2
  go_upto_region 4 with (first | (at_builtin; refine wpList_app rfl _ _ 23 rfl W3.heap.size 57 i1 _ 4 32 Try.underlying23 hi1 hy0 hy1 hy2 rfl (by decide) _ 0 [] rfl (World.ownsRow_nil _ _ _ _) _ LH (HL.flatMap heI) rfl (HSH.out.kept HB3.out) (heI_one _) (by unfold maxLen; omega) (by omega) (Nat.le_refl _) ?_; intro v9 w9 hown9 hgrow9 hat9; simp only [Nat.zero_add, List.nil_append] at hown9; obtain ⟨a9, c9, rfl⟩ := own_slice hown9; have hX9 := blk_grown HX3.out hgrow9 (fun e => nomatch e); have hR9 := blk_grown HR3.out hgrow9 (fun e => nomatch e); have hB9 := HB3.out.grown hgrow9 HB3.out.size (fun j hj => nomatch hj); have hW9 : Below W3.heap.size W3 w9 := (Below.refl _ W3).grown hgrow9 (Nat.le_refl _) (fun j hj => nomatch hj); have y2 := hX9.cell 2; have f2 := hX9.free 2; simp at y2; obtain ⟨W4, hW4⟩ : ∃ x, x = w9.setCell ⟨gX, 2, none⟩ (.slice a9 LH c9) := ⟨_, rfl⟩; have HX4 : Hid (Blk W4 gX #[.int .i64 N, .slice a8 LF c8, .slice a9 LH c9] 25) := (by unfold Hid; rw [hW4]; exact hX9.set 2 _); have HR4 : Hid (Blk W4 gR #[.int .i64 0, .slice none 0 0, .slice none 0 0] 25) := (by unfold Hid; rw [hW4]; exact hR9.other (Ne.symm HXS.out.2.1) _); have HB4 : Hid (Below w.heap.size w W4) := (by unfold Hid; rw [hW4]; exact hB9.setCell (p := ⟨gX, 2, none⟩) HXS.out.2.2.2.2.1 _); have HP4 : Hid (W4.ownsRow W3.heap.size 57 4 (.slice a9 LH c9) LH (HL.flatMap heI)) := (by unfold Hid; rw [hW4]; exact own_one hown9 (Chg.setCell 2 _ rfl) (fun e => by have := (own_ge hown9 e).1; have := HX3.out.lt; omega)); have HO4 : Hid (W4.ownsRow W.heap.size 3 1 (.slice a8 LF c8) LF (numsL FL)) := (by unfold Hid; rw [hW4]; exact own_one (own_older HO3.out hW9) (Chg.setCell 2 _ rfl) (fun e => by have := (own_ge HO3.out e).1; have := HXL.out; omega)); clear hown9 hgrow9 hat9 hX9 hR9 hB9 hW9))
  rw [← hW4]
  clear hW4 s2 x2 y2 f2 HX3 HS3 HR3 HO3 HB3
  have x0 := HX4.out.cell 0
  have x1 := HX4.out.cell 1
  have x2 := HX4.out.cell 2
  have r0 := HR4.out.cell 0
  have r1 := HR4.out.cell 1
  have r2 := HR4.out.cell 2
  have f0 := HR4.out.free 0
  have f1 := HR4.out.free 1
  have f2 := HR4.out.free 2
  simp at x0 x1 x2 r0 r1 r2
  obtain ⟨W5, hW5⟩ : ∃ x, x = ((W4.setCell ⟨gR, 0, none⟩ (.int .i64 N)).setCell ⟨gR, 1, none⟩ (.slice a8 LF c8)).setCell ⟨gR, 2, none⟩ (.slice a9 LH c9) := ⟨_, rfl⟩
  have HC5 : Hid (Chg (One gR) W4 W5) := by unfold Hid; rw [hW5]; exact ((Chg.setCell (own := One gR) 0 _ rfl).trans (Chg.setCell (own := One gR) 1 _ rfl)).trans (Chg.setCell (own := One gR) 2 _ rfl)
  have hR5 : Blk W5 gR #[.int .i64 N, .slice a8 LF c8, .slice a9 LH c9] 25 := by rw [hW5]; exact ((HR4.out.set 0 _).set 1 _).set 2 _
  have HO5 : Hid (W5.ownsRow w.heap.size 3 1 (.slice a8 LF c8) LF (numsL FL)) := own_low (own_one HO4.out HC5.out (fun e => by have := (own_ge HO4.out e).1; have := HRL.out; omega)) HWL.out
  have HP5 : Hid (W5.ownsRow w.heap.size 57 4 (.slice a9 LH c9) LH (HL.flatMap heI)) := own_low (own_one HP4.out HC5.out (fun e => by have := (own_ge HP4.out e).1; have := HRL.out; have := HW3.out; omega)) (Nat.le_trans HWL.out HW3.out)
  have HB5 : Hid (Below w.heap.size w W5) := by
    unfold Hid; rw [hW5]
    exact ((HB4.out.setCell (p := ⟨gR, 0, none⟩) HXS.out.2.2.2.2.2 _).setCell (p := ⟨gR, 1, none⟩) HXS.out.2.2.2.2.2 _).setCell (p := ⟨gR, 2, none⟩) HXS.out.2.2.2.2.2 _
  have HNE := Lib.hid (owns_ne2 HO5.out HP5.out (by decide))
  have k0 := hR5.cell 0
  have k1 := hR5.cell 1
  have k2 := hR5.cell 2
  simp at k0 k1 k2
  have hW5' := hW5.symm
  have HE5 := Lib.hid hW5'
  clear hW5 hW5' HO4 HP4 HR4 HX4 HB4 hR5 HC5
  go_wp2_with fail
  rw [HE5.out]
  refine bodyPost_ret (v := .agg #[.int .i64 N, .slice a8 LF c8, .slice a9 LH c9]) (by simp [results, Try.results10, go_sem, k0, k1, k2]) rfl ⟨_, _, rfl, ?_, ?_, HNE.out, HB5.out⟩
  · have h := HO5.out; rw [HLE.out.1] at h; rw [HLE.out.1]; exact h
  · have h := HP5.out; rw [HLE.out.2] at h; rw [HLE.out.2]; exact h
end

section
open Go Go.RowKit Go.Lib Go.Sort
def e43 : Int := 8796093022208
def farH (e : Int) (l : List HeI) : Int := l.foldl (fun e h => max e (min h.2.2.2 8796093022208)) e
def farW : List WaI → Int → Int
  | [], e => e
  | x :: l, e => if e ≤ 4398046511104 then farW l (e + min (max x.2.2 0) 8796093022208) else e
def farB (HL : List HeI) (WL : List WaI) (now : Int) : Bool := decide (farW WL (farH (min (max now 0) 8796093022208) HL) > 4398046511104)
theorem farH_take {e : Int} {l : List HeI} {k : Nat} (h : k < l.length) : farH e (l.take (k + 1)) = max (farH e (l.take k)) (min l[k].2.2.2 8796093022208) := by
  unfold farH
  rw [List.take_add_one, List.getElem?_eq_getElem h]
  show List.foldl _ _ (l.take k ++ [l[k]]) = _
  rw [List.foldl_append]; rfl
theorem farH_ge (l : List HeI) : ∀ e, e ≤ farH e l ∧ ∀ h ∈ l, min h.2.2.2 8796093022208 ≤ farH e l := by
  induction l with
  | nil => intro e; exact ⟨Int.le_refl _, fun h hh => nomatch hh⟩
  | cons x l ih =>
    intro e
    have := ih (max e (min x.2.2.2 8796093022208))
    refine ⟨?_, fun h hh => ?_⟩
    · exact Int.le_trans (Int.le_max_left _ _) this.1
    · rcases List.mem_cons.1 hh with rfl | hh
      · exact Int.le_trans (Int.le_max_right _ _) this.1
      · exact this.2 h hh
theorem farW_all (l : List WaI) : ∀ e, (∀ x ∈ l, 0 ≤ x.2.2 ∧ x.2.2 ≤ 1099511627776) → farW l e ≤ 4398046511104 → e + (l.map fun x => x.2.2).sum ≤ 4398046511104 := by
  induction l with
  | nil => intro e _ h; rw [farW] at h; simpa using h
  | cons x l ih =>
    intro e hx h
    rw [farW] at h
    obtain ⟨h1, h2⟩ := hx x (List.mem_cons_self ..)
    split at h
    · have := ih _ (fun y hy => hx y (List.mem_cons_of_mem _ hy)) h
      rw [List.map_cons, List.sum_cons]
      omega
    · omega
/-- Nothing ends beyond. -/
theorem far_no {HL : List HeT} {WL : List WaI} {now : Nat} (h : farB (HL.map heZ) WL (now : Int) = false) (hx : ∀ x ∈ WL, 0 ≤ x.2.2 ∧ x.2.2 ≤ 1099511627776) (hH : ∀ h ∈ HL, h.2.2.2 ≤ endT) (hn : now ≤ 1099511627776) :
    ∃ M : Nat, now ≤ M ∧ (∀ h ∈ HL, h.2.2.2 ≤ M) ∧ (M : Int) + (WL.map fun x => x.2.2).sum ≤ 4398046511104 := by
  unfold farB at h
  rw [decide_eq_false_iff_not] at h
  obtain ⟨g1, g2⟩ := farH_ge (HL.map heZ) (min (max (now : Int) 0) 8796093022208)
  obtain ⟨E, hE⟩ : ∃ E, E = farH (min (max (now : Int) 0) 8796093022208) (HL.map heZ) := ⟨_, rfl⟩
  rw [← hE] at h g1 g2
  have hs := farW_all WL E hx (by omega)
  refine ⟨E.toNat, by omega, fun y hy => ?_, by omega⟩
  have a := g2 (heZ y) (List.mem_map.2 ⟨y, hy, rfl⟩)
  have b := hH y hy
  unfold heZ at a
  unfold endT at b
  dsimp only at a
  omega
theorem rowG_nil {α : Type} {s : Nat} {enc : α → List Value} {w : World} {n c : Nat} {l : List α} (h : RowG s enc w (.slice none n c) l) : l = [] := by
  rcases h with ⟨rfl, _⟩ | ⟨b, off, c', h1, _⟩
  · rfl
  · cases h1
set_option maxRecDepth 100000 in
set_option maxHeartbeats 4000000 in
theorem far_any (N now : Int) (vf vh vw : Value) (FL : List Int) (HL : List HeI) (WL : List WaI) (w : World) (hf : GRow w vf FL) (hh : HRow w vh HL) (hw : WRow w vw WL) (hhl : HL.length ≤ 1048576) (hwl : WL.length ≤ 1048576) :
    Calls Try.prog 21 #[.agg #[.int .i64 N, vf, vh], vw, .int .i64 now] w fun e w' => e = .returned (.bool (farB HL WL now)) ∧ Below w.heap.size w w' := by
  have hf1 := one_of_grow hf
  have HH := Lib.hid hh
  have HW := Lib.hid hw
  obtain ⟨ha, hc, rfl⟩ := hh.slice
  obtain ⟨wa, wc, rfl⟩ := hw.slice
  obtain ⟨LH, hLH⟩ : ∃ n, n = HL.length := ⟨_, rfl⟩
  obtain ⟨LW, hLW⟩ : ∃ n, n = WL.length := ⟨_, rfl⟩
  rw [← hLH] at HH hhl ⊢
  rw [← hLW] at HW hwl ⊢
  have HLH := Lib.hid hLH
  have HLW := Lib.hid hLW
  obtain ⟨e0, he0⟩ : ∃ e, e = min (max now 0) 8796093022208 := ⟨_, rfl⟩
  have hb0 : 0 ≤ e0 ∧ e0 ≤ 8796093022208 := by omega
  have HFB : Hid (farB HL WL now = decide (farW WL (farH e0 HL) > 4398046511104)) := by unfold Hid farB; rw [← he0]
  obtain ⟨W, hW⟩ : ∃ W, W = w.alloc (.cells #[.int .i64 N, vf, .slice ha LH hc] 25) := ⟨_, rfl⟩
  obtain ⟨gS, hgS⟩ : ∃ g, g = w.heap.size := ⟨_, rfl⟩
  have HBW : Hid (Below w.heap.size w W) := by unfold Hid; rw [hW]; exact (Below.refl _ _).alloc (Nat.le_refl _) _
  have HS : Hid (Blk W gS #[.int .i64 N, vf, .slice ha LH hc] 25) := by unfold Hid; rw [hW, hgS]; exact Blk.new w _ _
  have s2 := HS.out.cell 2
  simp at s2
  have he0' : min (max now 0) 8796093022208 = e0 := he0.symm
  clear hf hh hw hLH hLW he0
  go_enter Try.func21, Try.ntmps21
  go_upto_region 1 with fail
  rw [← hgS, ← hW]
  clear hgS hW
  go_upto_region 2 with fail
  clear he0'
  go_wp2_with fail
  go_loopw [7, 8] (fun ev iv wr => ∃ (k : Nat) (e : Int), k ≤ LH ∧ iv = .int .i64 k ∧ ev = .int .i64 e ∧ 0 ≤ e ∧ e ≤ 8796093022208 ∧ Hid (farH e0 (HL.take k) = e) ∧ Hid (wr = W)) (fun _ iv _ => LH - (RowKit.intOf iv).toNat)
  case atStart => exact ⟨0, e0, Nat.zero_le _, rfl, rfl, hb0.1, hb0.2, rfl, rfl⟩
  case round =>
    obtain ⟨k, e, hk, rfl, rfl, h1, h2, HE, hwr⟩ := hrel
    replace hwr := hwr.out
    subst hwr
    by_cases hlt : k < LH
    · have hd : decide (k < LH) = true := decide_eq_true hlt
      have hki : (k : Int) < (LH : Int) := by omega
      have hkl : k < HL.length := by rw [← HLH.out]; exact hlt
      cases ha with
      | none => have h := rowG_nil HH.out; rw [h] at hkl; simp at hkl
      | some A =>
      obtain ⟨bb, off, e9, hcs⟩ := HH.out.at hkl
      injection e9 with e9
      subst e9
      have c3 := hcs wr HBW.out 3 _ rfl
      obtain ⟨x, hx⟩ : ∃ x, x = HL[k].2.2.2 := ⟨_, rfl⟩
      have HN := Lib.hid (farH_take (e := e0) hkl)
      rw [← hx] at c3 HN
      obtain ⟨e2, he2⟩ : ∃ y, y = max e (min x 8796093022208) := ⟨_, rfl⟩
      have HN2 : Hid (farH e0 (HL.take (k + 1)) = e2) := by unfold Hid; rw [HN.out, HE.out, he2]
      have hb2 : 0 ≤ e2 ∧ e2 ≤ 8796093022208 := by omega
      have he2' := he2.symm
      clear hx hkl hcs he2 HN
      go_upto_region 4 with fail
      clear he2'
      go_wp2_with fail
      go_roundw
      case rel => exact ⟨k + 1, e2, hlt, by go_num, rfl, hb2.1, hb2.2, HN2, trivial⟩
      case measure => simp [RowKit.intOf]; omega
    · have hd : decide (k < LH) = false := decide_eq_false hlt
      have hki : ¬ (k : Int) < (LH : Int) := by omega
      have HE1 : Hid (farH e0 HL = e) := by
        have hkL : k = HL.length := by have := HLH.out; omega
        have h := HE.out
        rw [hkL, List.take_length] at h
        exact h
      clear HE
      go_upto_region 7 with fail
      obtain ⟨w9, hw9⟩ : ∃ w9, w9 = wr := ⟨_, rfl⟩
      subst hw9
      go_loopw [7, 9] (fun ev iv wr => ∃ (k : Nat) (e : Int), k ≤ LW ∧ iv = .int .i64 k ∧ ev = .int .i64 e ∧ 0 ≤ e ∧ e ≤ 17592186044416 ∧ Hid (farW WL (farH e0 HL) = farW (WL.drop k) e) ∧ Hid (wr = w9)) (fun _ iv _ => LW - (RowKit.intOf iv).toNat)
      case atStart => exact ⟨0, e, Nat.zero_le _, rfl, rfl, h1, by omega, by unfold Hid; rw [HE1.out]; rfl, rfl⟩
      case round =>
        clear h1 h2 hlt hd hki hk
        obtain ⟨k, e, hk, rfl, rfl, h1, h2, HE, hwr⟩ := hrel
        replace hwr := hwr.out
        subst hwr
        by_cases hlt : k < LW
        · have hd : decide (k < LW) = true := decide_eq_true hlt
          have hki : (k : Int) < (LW : Int) := by omega
          have hkl : k < WL.length := by rw [← HLW.out]; exact hlt
          by_cases hle : e ≤ 4398046511104
          · have hdl : decide (e ≤ 4398046511104) = true := decide_eq_true hle
            cases wa with
            | none => have h := rowG_nil HW.out; rw [h] at hkl; simp at hkl
            | some A =>
            obtain ⟨bb, off, e9, hcs⟩ := HW.out.at hkl
            injection e9 with e9
            subst e9
            have c3 := hcs wr HBW.out 2 _ rfl
            have HN : Hid (farW (WL.drop k) e = farW (WL.drop (k + 1)) (e + min (max WL[k].2.2 0) 8796093022208)) := by
              unfold Hid; rw [List.drop_eq_getElem_cons hkl, farW, if_pos hle]
            obtain ⟨x, hx⟩ : ∃ x, x = WL[k].2.2 := ⟨_, rfl⟩
            rw [← hx] at c3 HN
            obtain ⟨y, hy⟩ : ∃ y, y = min (max x 0) 8796093022208 := ⟨_, rfl⟩
            rw [← hy] at HN
            have hyb : 0 ≤ y ∧ y ≤ 8796093022208 := by omega
            have hy' := hy.symm
            have HE2 : Hid (farW WL (farH e0 HL) = farW (WL.drop (k + 1)) (e + y)) := HE.out.trans HN.out
            obtain ⟨z, hz⟩ : ∃ z, e + y = z := ⟨_, rfl⟩
            rw [hz] at HE2
            clear hx hkl hcs hy HN
            go_upto_region 8 with fail
            have hzb : 0 ≤ z ∧ z ≤ 17592186044416 := by omega
            clear hy' hz
            go_wp2_with fail
            go_roundw
            case rel => exact ⟨k + 1, z, hlt, by go_num, rfl, hzb.1, hzb.2, HE2, trivial⟩
            case measure => simp [RowKit.intOf]; omega
          · have hdl : decide (e ≤ 4398046511104) = false := decide_eq_false hle
            have hdg : decide (e > 4398046511104) = true := decide_eq_true (by omega)
            have hdg' : decide (4398046511104 < e) = true := decide_eq_true (by omega)
            have HY : Hid (farB HL WL now = true) := by
              unfold Hid; rw [HFB.out, HE.out, List.drop_eq_getElem_cons hkl, farW, if_neg hle]; exact hdg
            clear hkl
            go_wp2_with fail
            go_ret
            exact ⟨by (rw [HY.out]; rfl), HBW.out⟩
        · have hd : decide (k < LW) = false := decide_eq_false hlt
          have hki : ¬ (k : Int) < (LW : Int) := by omega
          have HY : Hid (farB HL WL now = decide (e > 4398046511104)) := by
            unfold Hid; rw [HFB.out, HE.out, List.drop_eq_nil_of_le (by have := HLW.out; omega), farW]
          go_wp2_with fail
          go_ret
          exact ⟨by (rw [HY.out]; rfl), HBW.out⟩
end

section
open Go Go.RowKit Go.Lib Go.Sort
set_option maxRecDepth 100000 in
set_option maxHeartbeats 4000000 in
theorem want_any (vw : Value) (WL : List WaI) (j : Nat) (x : WaI) (id s o t : Int) (w : World) (hw : WRow w vw WL) (hn : WL.length ≤ 1048576) (hj : WL[j]? = some x) (h1 : x.1 = id) (h2 : x.2.1 = o) (hu : ∀ i (h : i < WL.length), i < j → WL[i].1 ≠ id) :
    Calls Try.prog 23 #[vw, .agg #[.int .u32 id, .int .i64 s, .int .i64 o, .int .i64 t]] w fun e w' => e = .returned (.tuple #[.agg #[.int .u32 x.1, .int .i64 x.2.1, .int .i64 x.2.2], .bool true]) ∧ Below w.heap.size w w' := by
  have HW := Lib.hid hw
  obtain ⟨wa, wc, rfl⟩ := hw.slice
  obtain ⟨L, hL⟩ : ∃ n, n = WL.length := ⟨_, rfl⟩
  rw [← hL] at HW hn ⊢
  have HL := Lib.hid hL
  have hjl : j < L := by rw [hL]; exact (List.getElem?_eq_some_iff.1 hj).1
  have HJ := Lib.hid hj
  have HU := Lib.hid hu
  obtain ⟨x1, x2, x3⟩ := x
  dsimp only at h1 h2 ⊢
  subst h1 h2
  obtain ⟨W, hW⟩ : ∃ W, W = (w.alloc (.cells #[.int .u32 x1, .int .i64 s, .int .i64 x2, .int .i64 t] 55)).alloc (.cells #[.int .u32 0, .int .i64 0, .int .i64 0] 51) := ⟨_, rfl⟩
  obtain ⟨gS, hgS⟩ : ∃ g, g = w.heap.size := ⟨_, rfl⟩
  obtain ⟨gR, hgR⟩ : ∃ g, g = w.heap.size + 1 := ⟨_, rfl⟩
  have HBW : Hid (Below w.heap.size w W) := by unfold Hid; rw [hW]; exact ((Below.refl _ _).alloc (Nat.le_refl _) _).alloc (by simp) _
  have HS : Hid (Blk W gS #[.int .u32 x1, .int .i64 s, .int .i64 x2, .int .i64 t] 55) := by unfold Hid; rw [hW, hgS]; exact (Blk.new w _ _).old _
  have HR : Hid (Blk W gR #[.int .u32 0, .int .i64 0, .int .i64 0] 51) := by unfold Hid; rw [hW]; exact Blk.fresh _ _ _ gR (by rw [hgR]; simp)
  have HGR : Hid (w.heap.size ≤ gR) := by unfold Hid; omega
  clear hw hL hj hu
  go_enter Try.func23, Try.ntmps23
  go_upto_region 1 with fail
  rw [← hgR, ← hgS, ← hW]
  clear hgS hgR hW
  go_wp2_with fail
  go_loopw [6] (fun iv wr => ∃ k : Nat, k ≤ j ∧ iv = .int .i64 k ∧ Hid (Below W.heap.size W wr)) (fun iv _ => L - (RowKit.intOf iv).toNat)
  case atStart => exact ⟨0, Nat.zero_le _, rfl, Below.refl _ _⟩
  case round =>
    obtain ⟨k, hk, rfl, HB⟩ := hrel
    have hlt : k < L := by omega
    have hd : decide (k < L) = true := decide_eq_true hlt
    have hki : (k : Int) < (L : Int) := by omega
    have hkl : k < WL.length := by rw [← HL.out]; exact hlt
    have HBr : Hid (Below w.heap.size w wr) := HBW.out.trans (HB.out.mono HBW.out.size)
    have s0 := (HS.out.kept HB.out).cell 0
    have s2 := (HS.out.kept HB.out).cell 2
    simp at s0 s2
    cases wa with
    | none => have h := rowG_nil HW.out; rw [h] at hkl; simp at hkl
    | some A =>
    obtain ⟨bb, off, rfl⟩ := wrow_some HW.out (by omega)
    obtain ⟨c0, c1, c2⟩ := wa_cells HW.out hkl HBr.out
    by_cases hkj : k = j
    · have e : WL[k] = (x1, x2, x3) := by
        have h := HJ.out
        rw [← hkj, List.getElem?_eq_getElem hkl] at h
        injection h
      rw [e] at c0 c1 c2
      dsimp only at c0 c1 c2
      have r0 := (HR.out.kept HB.out).cell 0
      have r1 := (HR.out.kept HB.out).cell 1
      have r2 := (HR.out.kept HB.out).cell 2
      simp at r0 r1 r2
      clear e hkl hkj
      go_upto_region 4 with fail
      go_quiet (fail)
      obtain ⟨W7, hW7⟩ : ∃ W, W = wr.drewN nq := ⟨_, rfl⟩
      have hb7 : Below wr.heap.size wr W7 := by rw [hW7]; exact below_drewN (Below.refl _ _) _
      have hR7 := (HR.out.kept HB.out).kept hb7
      have HB7 : Hid (Below w.heap.size w W7) := below_next hb7 HBr.out
      replace c0 := cell_next hb7 c0
      replace c1 := cell_next hb7 c1
      replace c2 := cell_next hb7 c2
      rw [← hW7]
      clear hW7 hb7 r0 r1 r2 s0 s2
      have r0 := hR7.cell 0
      have r1 := hR7.cell 1
      have r2 := hR7.cell 2
      have f0 := hR7.free 0
      have f1 := hR7.free 1
      have f2 := hR7.free 2
      simp at r0 r1 r2
      obtain ⟨W8, hW8⟩ : ∃ x, x = ((W7.setCell ⟨gR, 0, none⟩ (.int .u32 x1)).setCell ⟨gR, 1, none⟩ (.int .i64 x2)).setCell ⟨gR, 2, none⟩ (.int .i64 x3) := ⟨_, rfl⟩
      have hR8 : Blk W8 gR #[.int .u32 x1, .int .i64 x2, .int .i64 x3] 51 := by rw [hW8]; exact ((hR7.set 0 _).set 1 _).set 2 _
      have HB8 : Hid (Below w.heap.size w W8) := by
        unfold Hid; rw [hW8]
        exact ((HB7.out.setCell (p := ⟨gR, 0, none⟩) HGR.out _).setCell (p := ⟨gR, 1, none⟩) HGR.out _).setCell (p := ⟨gR, 2, none⟩) HGR.out _
      have k0 := hR8.cell 0
      have k1 := hR8.cell 1
      have k2 := hR8.cell 2
      simp at k0 k1 k2
      have hW8' := hW8.symm
      have HE8 := Lib.hid hW8'
      clear hW8 hW8' hR8 hR7
      go_wp2_with fail
      rw [HE8.out]
      exact bodyPost_ret (v := .tuple #[.agg #[.int .u32 x1, .int .i64 x2, .int .i64 x3], .bool true]) (by simp [results, Try.results23, go_sem, k0, k1, k2]) rfl ⟨rfl, HB8.out⟩
    · have hne := HU.out k hkl (by omega)
      obtain ⟨y, hy⟩ : ∃ y, y = WL[k].1 := ⟨_, rfl⟩
      rw [← hy] at c0 hne
      have hq : (y == x1) = false := by simpa using hne
      clear hy hkl c1 c2
      go_upto_region 4 with fail
      go_quiet (fail)
      go_wp2_with fail
      go_roundw
      case rel => exact ⟨k + 1, by omega, by go_num, below_drewN HB.out _⟩
      case measure => simp [RowKit.intOf]; omega
end

end Go.Proofs.Ytioeblljabohbaa
