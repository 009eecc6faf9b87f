/-
  Acts on a matrix: the reader of the argument; the law's matrix.
-/
import Derived.Test.YtfobapnncjjeiaaGaY
import Derived.Test.YtfobapnncjjeiaaGaO
import Derived.Test.YtfobapnncjjeiaaGaZ
import Derived.Test.YtfobapnncjjeiaaRdF
import Derived.Test.YtfobapnncjjeiaaArgs2
namespace Go.Proofs.Ytfobapnncjjeiaa
open Go Go.ChangeShapes Go.WideShapes Go.ChangeAt Go.RowKit Go.Lib Go.Deep
set_option linter.unusedVariables false

theorem gplace_any (m n a id : Nat) (O : Int) (own : Nat → Prop) (l : List Ce) (w : World) (h : GM w m own n a l) (hid2 : id < 4294967296) :
    Calls Try.prog 29 #[.pointer (some ⟨m, 0, none⟩), .int .u32 (id : Nat), .int .i64 O] w (PlacePost m n a id O own l w) := by
  by_cases ha : id = 0 ∨ O < 0 ∨ (n : Int) < O
  · exact gplace_arg m n a id O own l w h ha
  · obtain ⟨o, rfl⟩ := Int.eq_ofNat_of_zero_le (show 0 ≤ O by omega)
    have hf : ∃ r, IsFind l id r := by
      cases hr : l.findIdx? (fun c => decide (c.1 = id)) with
      | none =>
        rw [List.findIdx?_eq_none_iff] at hr
        exact ⟨none, .inl ⟨rfl, fun c hc e => by have := hr c hc; simp [e] at this⟩⟩
      | some k =>
        rw [List.findIdx?_eq_some_iff_getElem] at hr
        obtain ⟨hk, h1, h2⟩ := hr
        exact ⟨some k, .inr ⟨k, hk, rfl, by simpa using h1, fun j hj hjk e => by have := h2 j hjk; simp [e] at this⟩⟩
    obtain ⟨r, hr⟩ := hf
    cases r with
    | none => exact gplace_search m n a id o own l w h (by omega) hid2 (by omega) hr
    | some k => exact gplace_twice m n a id o k own l w h (by omega) (by omega) hr
abbrev AcI := Int × Int × Int
def acI (x : AcI) : List Value := [.int .i64 x.1, .int .u32 x.2.1, .int .i64 x.2.2]
theorem acI_len (x : AcI) : (acI x).length = 3 := rfl
def AcW (x : AcI) : Prop := 0 ≤ x.2.1 ∧ x.2.1 < 4294967296
def AcArg (w : World) (v : Value) (l : List AcI) : Prop := RowG 3 acI w v l ∧ l.length ≤ maxLen ∧ ∀ x ∈ l, AcW x
theorem u32_wf {x : Int} (h : (Lit.int .u32 x).wf = true) : 0 ≤ x ∧ x < 4294967296 := by
  have h2 : 0 ≤ x ∧ x ≤ 4294967295 := by simpa [Lit.wf, IntKind.min, IntKind.max, IntKind.bits, IntKind.signed] using h
  omega
section
variable {H : Type} {enc : TypeId × Value → H} {W : World}
set_option maxRecDepth 100000 in
theorem ac_of_cells (n : Nat) (cs : List Value) (x : DataW H × List MemPlace) (h : DataW.trod enc Try.prog W 0 (fun _ => true) true n 34 cs = some x) : ∃ k : AcI, cs = acI k ∧ AcW k := by
  have hs := Try.underlying34
  obtain ⟨xs, m, _, _, hl, hlen, hg⟩ := DataW.trod_struct hs h
  have hC : Try.prog.cellsOf 34 = 3 := by kernel_rfl
  rw [hC] at hl
  have hint : Try.prog.cellsOf 3 = 1 := by kernel_rfl
  have hu32 : Try.prog.cellsOf 32 = 1 := by kernel_rfl
  match cs, hl with
  | [c0, c1, c2], _ =>
    have g0 : DataW.trod enc Try.prog W 0 (fun _ => true) true m 3 (List.take (Try.prog.cellsOf 3) [c0, c1, c2]) = xs[0]? := hg 0 _ rfl
    have g1 : DataW.trod enc Try.prog W 0 (fun _ => true) true m 32 (List.take (Try.prog.cellsOf 32) [c1, c2]) = xs[1]? := hg 1 _ rfl
    have g2 : DataW.trod enc Try.prog W 0 (fun _ => true) true m 3 (List.take (Try.prog.cellsOf 3) [c2]) = xs[2]? := hg 2 _ rfl
    have hx : ∀ i (hi : i < 3), xs[i]? = some (xs[i]'(by rw [hlen]; exact hi)) := fun i hi => List.getElem?_eq_getElem _
    rw [hx 0 (by omega), hint] at g0
    rw [hx 1 (by omega), hu32] at g1
    rw [hx 2 (by omega), hint] at g2
    dsimp only [List.take] at g0 g1 g2
    obtain ⟨a0, rfl, w0⟩ := field_int Try.underlying3 g0
    obtain ⟨a1, rfl, w1⟩ := field_int Try.underlying32 g1
    obtain ⟨a2, rfl, w2⟩ := field_int Try.underlying3 g2
    exact ⟨(a0, a1, a2), rfl, u32_wf w1⟩
theorem open_acts {v : Value} {d : DataW H} {p : List MemPlace} (h : DataW.Trod enc Try.prog W 0 (fun _ => true) true 22 v d p) (hv : ∃ a len cap, v = .slice a len cap) : ∃ xs : List AcI, AcArg W v xs :=
  open_rowG 3 acI AcW (by decide) acI_len Try.underlying22 (by kernel_rfl) (fun n cs x h => ac_of_cells n cs x h) h hv
end
set_option maxRecDepth 100000 in
set_option maxHeartbeats 8000000 in
theorem matrix_any (v : Value) (L : List AcI) (w : World) (hA : AcArg w v L) :
    Calls Try.prog 24 #[v] w fun e w' => (∃ m a l, e = .returned (.pointer (some ⟨m, 0, none⟩)) ∧ GM w' m (fun k => w.heap.size ≤ k) 4 a l) ∧ Below w.heap.size w w' := by
  have HR := Lib.hid hA.1
  have HW := Lib.hid hA.2.2
  have hlen : L.length ≤ 9223372036854775807 := by have := hA.2.1; unfold maxLen at this; omega
  have NW := Lib.hid (gnew_ok 4 w (by omega) w.heap.size (Nat.le_refl _))
  obtain ⟨va, vc, rfl⟩ := RowG.slice hA.1
  obtain ⟨LL, hLL⟩ : ∃ n, n = L.length := ⟨_, rfl⟩
  have HLL := Lib.hid hLL
  rw [← hLL] at HR hlen ⊢
  clear hA hLL
  go_enter Try.func24, Try.ntmps24
  go_wp2_with fail
  refine NW.out.mono ?_; rintro e w1 ⟨⟨m, rfl, hmlo, hg1⟩, b1⟩
  have HG1 := Lib.hid hg1
  have HB1 := Lib.hid b1
  clear hg1 b1 NW
  go_wp2_with fail
  obtain ⟨own, hown⟩ : ∃ own : Nat → Prop, own = fun k => w.heap.size ≤ k := ⟨_, rfl⟩
  rw [← hown] at HG1
  have HOWN : Hid (∀ k, own k ↔ w.heap.size ≤ k) := fun k => by rw [hown]
  clear hown hmlo
  go_loopw [5] (fun iv wr => ∃ (k a : Nat) (l : List Ce), k ≤ LL ∧ k ≤ 50 ∧ iv = .int .i64 k ∧ Hid (GM wr m own 4 a l) ∧ Hid (Below w.heap.size w wr)) (fun iv _ => 50 - (RowKit.intOf iv).toNat)
  case atStart => exact ⟨0, 0, [], Nat.zero_le _, Nat.zero_le _, rfl, HG1.out, HB1.out⟩
  case round =>
    obtain ⟨k, a, l, hk, hk5, rfl, HG, HB⟩ := hrel
    by_cases hlt : k < LL
    · have d1 : decide ((k : Int) < (LL : Int)) = true := decide_eq_true (by omega)
      have d1' : decide (k < LL) = true := decide_eq_true hlt
      by_cases h50 : k < 50
      · have d2 : decide ((k : Int) < 50) = true := decide_eq_true (by omega)
        have d2' : decide (k < 50) = true := decide_eq_true h50
        have hki : (k : Int) < (LL : Int) := by omega
        have hkl : k < L.length := by rw [← HLL.out]; exact hlt
        have hr := RowG.kept HR.out HB.out
        cases va with
        | none =>
          have : L = [] := by
            rcases hr with ⟨h, _⟩ | ⟨b, off, c, h1, _⟩
            · exact h
            · cases h1
          rw [this] at hkl; simp at hkl
        | some AD =>
        obtain ⟨bb, off, e, hc⟩ := RowG.at hr hkl
        injection e with e; subst e
        have x0 := hc wr (Below.refl _ _) 0 _ rfl
        have x1 := hc wr (Below.refl _ _) 1 _ rfl
        have x2 := hc wr (Below.refl _ _) 2 _ rfl
        have hw := HW.out L[k] (List.getElem_mem hkl)
        obtain ⟨y, hy⟩ : ∃ y, y = L[k] := ⟨_, rfl⟩
        rw [← hy] at x0 x1 x2 hw
        obtain ⟨K, I, O⟩ := y
        obtain ⟨hI0, hI1⟩ := hw
        dsimp only at x0 x1 x2 hI0 hI1
        simp only [Nat.add_zero] at x0
        obtain ⟨id, rfl⟩ := Int.eq_ofNat_of_zero_le hI0
        have hid2 : id < 4294967296 := by omega
        obtain ⟨gx, hgx⟩ : ∃ g, g = wr.heap.size := ⟨_, rfl⟩
        obtain ⟨Xc, hXc⟩ : ∃ x, x = wr.alloc (.cells #[.int .i64 K, .int .u32 (id : Nat), .int .i64 O] 34) := ⟨_, rfl⟩
        have hbc : Below wr.heap.size wr Xc := by rw [hXc]; exact (Below.refl _ _).alloc (Nat.le_refl _) _
        have HXB : Hid (Blk Xc gx #[.int .i64 K, .int .u32 (id : Nat), .int .i64 O] 34) := by unfold Hid; rw [hXc, hgx]; exact Blk.new wr _ _
        have HGc : Hid (GM Xc m own 4 a l) := HG.out.kept hbc
        have HBc : Hid (Below w.heap.size w Xc) := below_next hbc HB.out
        have HTO : Hid (∀ w', Chg own Xc w' → Below w.heap.size w w') := fun w' hc => HBc.out.trans (hc.to_below HBc.out.size (fun j hj h => by have := (HOWN.out j).1 h; omega))
        clear hr hc hy hI0 hI1 hbc HG HB hkl
        go_upto_region 8 with fail
        rw [← hgx, ← hXc]
        clear hgx hXc x0 x1 x2 hki d1 d1' d2 d2'
        have y0 := HXB.out.cell 0
        have y1 := HXB.out.cell 1
        have y2 := HXB.out.cell 2
        simp at y0 y1 y2
        by_cases hK0 : K = 0
        · subst hK0
          have PL := Lib.hid (gplace_any m 4 a id O own l Xc HGc.out hid2)
          clear HGc
          go_wp2_with fail
          refine PL.out.mono ?_; rintro e w5 ⟨c, er, l', rfl, _, hg5, hc5⟩
          have HG5 := Lib.hid hg5
          have HB5 := Lib.hid (HTO.out _ hc5)
          clear hg5 hc5 PL y0 y1 y2
          go_wp2_with fail
          go_roundw
          case rel => exact ⟨k + 1, a, l', hlt, by omega, by go_num, HG5, HB5⟩
          case measure => simp [RowKit.intOf]; omega
        by_cases hK1 : K = 1
        · subst hK1
          have PL := Lib.hid (gplace_any m 4 a id O own l Xc HGc.out hid2)
          clear HGc
          go_wp2_with fail
          refine PL.out.mono ?_; rintro e w5 ⟨c, er, l', rfl, _, hg5, hc5⟩
          have HG5 := Lib.hid hg5
          have HB5 := Lib.hid (HTO.out _ hc5)
          clear hg5 hc5 PL y0 y1 y2
          go_wp2_with fail
          go_roundw
          case rel => exact ⟨k + 1, a, l', hlt, by omega, by go_num, HG5, HB5⟩
          case measure => simp [RowKit.intOf]; omega
        by_cases hK2 : K = 2
        · subst hK2
          have PL := Lib.hid (gplace_any m 4 a id O own l Xc HGc.out hid2)
          clear HGc
          go_wp2_with fail
          refine PL.out.mono ?_; rintro e w5 ⟨c, er, l', rfl, _, hg5, hc5⟩
          have HG5 := Lib.hid hg5
          have HB5 := Lib.hid (HTO.out _ hc5)
          clear hg5 hc5 PL y0 y1 y2
          go_wp2_with fail
          go_roundw
          case rel => exact ⟨k + 1, a, l', hlt, by omega, by go_num, HG5, HB5⟩
          case measure => simp [RowKit.intOf]; omega
        by_cases hK3 : K = 3
        · subst hK3
          have PL := Lib.hid (gremove_any m 4 a id own l Xc HGc.out)
          clear HGc
          go_wp2_with fail
          refine PL.out.mono ?_; rintro e w5 ⟨er, a', l', rfl, _, hg5, hc5⟩
          have HG5 := Lib.hid hg5
          have HB5 := Lib.hid (HTO.out _ hc5)
          clear hg5 hc5 PL y0 y1 y2
          go_wp2_with fail
          go_roundw
          case rel => exact ⟨k + 1, a', l', hlt, by omega, by go_num, HG5, HB5⟩
          case measure => simp [RowKit.intOf]; omega
        by_cases hK4 : K = 4
        · subst hK4
          have PL := Lib.hid (gremove_any m 4 a id own l Xc HGc.out)
          clear HGc
          go_wp2_with fail
          refine PL.out.mono ?_; rintro e w5 ⟨er, a', l', rfl, _, hg5, hc5⟩
          have HG5 := Lib.hid hg5
          have HB5 := Lib.hid (HTO.out _ hc5)
          clear hg5 hc5 PL y0 y1 y2
          go_wp2_with fail
          go_roundw
          case rel => exact ⟨k + 1, a', l', hlt, by omega, by go_num, HG5, HB5⟩
          case measure => simp [RowKit.intOf]; omega
        by_cases hK5 : K = 5
        · subst hK5
          have PL := Lib.hid (turn_any m 4 a own l Xc HGc.out)
          clear HGc
          go_wp2_with fail
          refine PL.out.mono ?_; rintro e w5 ⟨rfl, hg5, hc5⟩
          have HG5 := Lib.hid hg5
          have HB5 := Lib.hid (HTO.out _ hc5)
          clear hg5 hc5 PL y0 y1 y2
          go_wp2_with fail
          go_roundw
          case rel => exact ⟨k + 1, _, l, hlt, by omega, by go_num, HG5, HB5⟩
          case measure => simp [RowKit.intOf]; omega
        have q0 : (K == 0) = false := by simp; exact hK0
        have q1 : (K == 1) = false := by simp; exact hK1
        have q2 : (K == 2) = false := by simp; exact hK2
        have q3 : (K == 3) = false := by simp; exact hK3
        have q4 : (K == 4) = false := by simp; exact hK4
        have q5 : (K == 5) = false := by simp; exact hK5
        have PL := Lib.hid (unify_any m 4 a own l Xc HGc.out)
        clear HGc hK0 hK1 hK2 hK3 hK4 hK5
        go_wp2_with fail
        refine PL.out.mono ?_; rintro e w5 ⟨l', d, rfl, _, hg5, hc5⟩
        have HG5 := Lib.hid hg5
        have HB5 := Lib.hid (HTO.out _ hc5)
        clear hg5 hc5 PL y0 y1 y2
        go_wp2_with fail
        go_roundw
        case rel => exact ⟨k + 1, _, _, hlt, by omega, by go_num, HG5, HB5⟩
        case measure => simp [RowKit.intOf]; omega
      · have d2 : decide ((k : Int) < 50) = false := decide_eq_false (by omega)
        have d2' : decide (k < 50) = false := decide_eq_false h50
        go_wp2_with fail
        go_ret
        exact ⟨⟨m, a, l, rfl, HG.out.wider (fun j hj => (HOWN.out j).1 hj)⟩, HB.out⟩
    · have d1 : decide ((k : Int) < (LL : Int)) = false := decide_eq_false (by omega)
      have d1' : decide (k < LL) = false := decide_eq_false hlt
      go_wp2_with fail
      go_ret
      exact ⟨⟨m, a, l, rfl, HG.out.wider (fun j hj => (HOWN.out j).1 hj)⟩, HB.out⟩
end Go.Proofs.Ytfobapnncjjeiaa
