/-
  A matrix' rows, active row, cells; turned.
-/
import Derived.Test.YtfobapnncjjeiaaGaD
import Derived.Test.YtfobapnncjjeiaaSlInsBCell
import Derived.Test.YtfobapnncjjeiaaRwS
import Derived.Test.YtfobapnncjjeiaaApp
import Derived.Deep.RegionHeld3
import Derived.Deep.DeepCutAuto
namespace Go.Proofs.Ytfobapnncjjeiaa
open Go Go.RowKit Go.Lib
set_option linter.unusedVariables false

set_option maxRecDepth 100000 in
set_option maxHeartbeats 4000000 in
theorem rows_any (m n a : Nat) (own : Nat → Prop) (l : List Ce) (w : World) (h : GN w m own n a l) :
    Calls Try.prog 17 #[.pointer (some ⟨m, 0, none⟩)] w fun e w' => e = .returned (.int .i64 (rowsG l : Nat)) ∧ Below w.heap.size w w' := by
  obtain ⟨v, W, hI, hW, hO⟩ := h
  have hlen := hO.len
  have hcr := crow_of_own hI.row
  have c2 := hI.gb.c2
  rcases Nat.eq_zero_or_pos l.length with h0 | h0
  · have hl : l = [] := List.eq_nil_of_length_eq_zero h0
    subst hl
    obtain ⟨va, vc, rfl⟩ := RowG.slice hcr
    rw [rowsG_nil]
    clear hI hW hO hcr
    simp only [List.length_nil] at c2
    go_enter Try.func17, Try.ntmps17
    go_wp2_with fail
    go_ret
    exact ⟨rfl, Below.refl _ _⟩
  · obtain ⟨va, vc, rfl⟩ := RowG.slice hcr
    cases va with
    | none => have := hcr.nil; rw [this] at h0; simp at h0
    | some A =>
    obtain ⟨bb, off, rfl⟩ := hcr.addr h0
    obtain ⟨x0, x1, x2, x3⟩ := hcr.cells (show l.length - 1 < l.length by omega) (Below.refl _ _)
    have hr := (hO.ce _ (List.getElem_mem (show l.length - 1 < l.length by omega))).row
    have HR : Hid (rowsG l = l[l.length - 1].row + 1) := rowsG_last h0
    obtain ⟨r, hrr⟩ : ∃ r, r = l[l.length - 1].2.1 := ⟨_, rfl⟩
    rw [← hrr] at x1
    have hr16 : r < 16 := by rw [hrr]; exact hr
    have HR2 : Hid (rowsG l = r + 1) := by unfold Hid; rw [HR.out, hrr]
    obtain ⟨K, hK⟩ : ∃ K, K = l.length - 1 := ⟨_, rfl⟩
    rw [← hK] at x1
    obtain ⟨LL, hLL⟩ : ∃ n, n = l.length := ⟨_, rfl⟩
    rw [← hLL] at c2
    have hKi : IntKind.i64.wrap ((LL : Int) - 1) = (K : Int) := by rw [IntKind.wrap_i64]; omega
    have hKL : (K : Int) < (LL : Int) := by omega
    have hK2 : (LL : Int) - 1 = (K : Int) := by omega
    have q0 : ((LL : Int) == 0) = false := by simp; omega
    have q1 : (LL == 0) = false := by simp; omega
    have HKI := Lib.hid hK2
    have hK16 : K ≤ 16384 := by omega
    clear hI hW hO hcr x0 x2 x3 hr HR hrr hK hLL hlen h0 hK2
    go_enter Try.func17, Try.ntmps17
    go_wp2_with fail
    have hK3 := HKI.out
    have hKw : IntKind.i64.wrap (K : Int) = (K : Int) := by rw [IntKind.wrap_i64]; omega
    have hK0 : (0 : Int) ≤ (K : Int) := by omega
    go_region
    go_wp2_with fail
    go_ret
    have e1 : ((r + 1 : Nat) : Int) = (r : Int) + 1 := by omega
    exact ⟨by (rw [HR2.out, e1]; rfl), below_drewN (Below.refl _ _) _⟩
theorem active_any (m n a : Nat) (own : Nat → Prop) (l : List Ce) (w : World) (h : GN w m own n a l) :
    Calls Try.prog 19 #[.pointer (some ⟨m, 0, none⟩)] w fun e w' => e = .returned (.int .i64 (a : Nat)) ∧ Below w.heap.size w w' := by
  obtain ⟨v, W, hI, hW, hO⟩ := h
  have c1 := hI.gb.c1
  clear hI hW hO
  go_enter Try.func19, Try.ntmps19
  go_wp2_with fail
  go_ret
  exact ⟨rfl, Below.refl _ _⟩
theorem Try.infoCe : (Try.prog.info? 48).map (fun i => (i.zero, i.size, i.bytes)) = some (some (.agg #[.int .u32 0, .int .i64 0, .int .i64 0, .int .i64 0]), 4, 32) := by kernel_rfl
set_option maxRecDepth 100000 in
theorem cloneC_any (v : Value) (l : List Ce) (w : World) (hn : l.length ≤ 1048576) (h : CRow w v l) :
    Calls Try.prog 35 #[v] w fun e w' => (∃ v', e = .returned v' ∧ COwn w' w.heap.size v' l) ∧ Below w.heap.size w w' := by
  obtain ⟨i0, hi, hz0, hz1, hz2⟩ := info_parts Try.infoCe
  have SRC := Lib.hid (src_of_rowG ceV_len (by decide) h)
  obtain ⟨a, c, rfl⟩ := RowG.slice h
  cases a with
  | none =>
    have hl : l = [] := CRow.nil h
    subst hl
    have q : ∀ (w : World) (n c n' c' : Nat), (binOp .eql 35 (.slice none n c) (.slice none n' c')).run Try.prog w = .ok (.bool true) w := fun w n c n' c' => Lib.run_eql_slice_nil w _ _ none n c n' c' Try.underlying35
    clear SRC h
    go_enter Try.func35, Try.ntmps35
    go_wp2_with fail
    go_ret
    exact ⟨⟨_, rfl, ⟨rfl, .inl ⟨rfl, rfl⟩⟩⟩, Below.refl _ _⟩
  | some a =>
    have q : ∀ (w : World) (a : Addr) (n c n' c' : Nat), (binOp .eql 35 (.slice (some a) n c) (.slice none n' c')).run Try.prog w = .ok (.bool false) w := fun w a n c n' c' => Lib.run_eql_slice_nil w _ _ (some a) n c n' c' Try.underlying35
    obtain ⟨N, hN⟩ : ∃ N, N = l.length := ⟨_, rfl⟩
    rw [← hN] at SRC hn ⊢
    have HN := Lib.hid hN
    clear h hN
    go_enter Try.func35, Try.ntmps35
    go_wp2_with (at_builtin; refine wpList_app rfl _ _ 35 rfl w.heap.size 48 i0 _ 4 32 Try.underlying35 hi hz0 hz1 hz2 rfl (by decide) _ 0 [] rfl (World.ownsRow_made w #[] 0 (Nat.le_refl _) (Nat.zero_le _) (by simp)) _ N (l.flatMap ceV) rfl (SRC.out.kept ((Below.refl _ _).alloc (Nat.le_refl _) _)) (ceV_one l) (by unfold maxLen; omega) (by omega) (by simp) ?_; intro v5 w5 hown5 hgrow5 _)
    go_wp2_with fail
    go_ret
    rw [Nat.zero_add, List.nil_append, HN.out] at hown5
    exact ⟨⟨v5, rfl, hown5⟩, ((Below.refl _ w).alloc (Nat.le_refl _) _).grown hgrow5 (by simp) (fun k hk => by
      have e : some w.heap.size = some k := hk
      injection e with e
      omega)⟩
theorem cells_any (m n a : Nat) (own : Nat → Prop) (l : List Ce) (w : World) (h : GN w m own n a l) :
    Calls Try.prog 14 #[.pointer (some ⟨m, 0, none⟩)] w fun e w' => (∃ v', e = .returned v' ∧ COwn w' w.heap.size v' l) ∧ Below w.heap.size w w' := by
  obtain ⟨v, W, hI, hW, hO⟩ := h
  have CL := Lib.hid (cloneC_any v l w (by have := hO.len; omega) (crow_of_own hI.row))
  have c2 := hI.gb.c2
  obtain ⟨va, vc, rfl⟩ := RowG.slice (crow_of_own hI.row)
  clear hI hW hO
  go_enter Try.func14, Try.ntmps14
  go_wp2_with fail
  refine CL.out.mono ?_; rintro e w1 ⟨⟨v', rfl, ho⟩, b1⟩
  go_wp2_with fail
  go_ret
  exact ⟨⟨v', rfl, ho⟩, b1⟩
theorem dec_le (R a : Nat) : decide ((R : Int) ≤ (a : Int) + 1) = decide (R ≤ a + 1) := by
  by_cases h : R ≤ a + 1
  · rw [decide_eq_true h, decide_eq_true (by omega)]
  · rw [decide_eq_false h, decide_eq_false (by omega)]
def turnA (l : List Ce) (a : Nat) : Nat := if rowsG l ≤ a + 1 then 0 else a + 1
theorem turnA_act (l : List Ce) (a : Nat) : turnA l a < rowsG l ∨ turnA l a = 0 := by
  unfold turnA; split
  · exact .inr rfl
  · exact .inl (by omega)
set_option maxRecDepth 100000 in
set_option maxHeartbeats 4000000 in
theorem turn_any (m n a : Nat) (own : Nat → Prop) (l : List Ce) (w : World) (h : GM w m own n a l) :
    Calls Try.prog 27 #[.pointer (some ⟨m, 0, none⟩)] w fun e w' => e = .returned (.tuple #[]) ∧ GM w' m own n (turnA l a) l ∧ Chg own w w' := by
  have ha := h.a16
  obtain ⟨v, W, hI, hW, hO, hact⟩ := h
  have hr16 := rowsG_16 hO
  have c1 := hI.gb.c1
  have f1 := hI.gb.frozen 1
  obtain ⟨w1, hw1⟩ : ∃ x, x = w.setCell ⟨m, 1, none⟩ (.int .i64 ((a : Int) + 1)) := ⟨_, rfl⟩
  have hi1 : GI w1 m own n (a + 1) v W l := by
    rw [hw1, show ((a : Int) + 1) = ((a + 1 : Nat) : Int) by omega]
    exact hI.box (Chg.setCell _ _ rfl) (hI.gb.setA (a + 1))
  have HC1 : Hid (Chg own w w1) := by unfold Hid; rw [hw1]; exact Chg.setCell _ _ hI.bown
  have RW : Hid (∀ w2, Below w1.heap.size w1 w2 → Calls Try.prog 17 #[.pointer (some ⟨m, 0, none⟩)] w2 fun e w' => e = .returned (.int .i64 (rowsG l : Nat)) ∧ Below w2.heap.size w2 w') := fun w2 hb => rows_any m n (a + 1) own l w2 ⟨v, W, hi1.kept hb, hW, hO⟩
  have HI1 := Lib.hid hi1
  have HW := Lib.hid hW
  have HO := Lib.hid hO
  have ew : IntKind.i64.wrap ((a : Int) + 1) = (a : Int) + 1 := by rw [IntKind.wrap_i64]; omega
  obtain ⟨R, hR⟩ : ∃ R, R = rowsG l := ⟨_, rfl⟩
  rw [← hR] at RW hr16
  have HR := Lib.hid hR
  clear hI hW hO hi1 hact hR
  go_enter Try.func27, Try.ntmps27
  go_wp2_with fail
  rw [← hw1]
  clear hw1 c1 f1 ew
  have c1 := HI1.out.gb.c1
  go_cut [17] (fun pv wx => pv = .bool (decide (R ≤ a + 1)) ∧ Hid (Below w1.heap.size w1 wx))
  case first =>
    have e0 : ((a + 1 : Nat) : Int) = (a : Int) + 1 := by omega
    go_region_held3 (fun w' => w'.cell? ⟨m, 1, none⟩ = some (.int .i64 ((a + 1 : Nat) : Int)) ∧ Below w1.heap.size w1 w')
      (first
        | exact ⟨c1, (Below.refl _ _).drew⟩
        | (rcases ‹_ ∧ Below _ _ _› with ⟨g0, g1⟩; exact ⟨cell_next (by assumption) g0, below_next (by assumption) g1⟩))
      (first
        | (go_at_call 17; ((with_reducible refine (RW.out _ (‹_ ∧ Below w1.heap.size w1 _›).2).mono ?_); rintro e w2 ⟨rfl, b2⟩)))
    all_goals (go_wp2_with fail)
    all_goals go_meet
    all_goals (exact ⟨by rw [dec_le], (‹_ ∧ Below w1.heap.size w1 _›).2⟩)
  case rest =>
    obtain ⟨rfl, HB⟩ := hcut
    have HIc := Lib.hid (HI1.out.kept HB.out)
    have HCc := Lib.hid (HC1.out.trans (Chg.of_below HB.out))
    by_cases hra : R ≤ a + 1
    · have HT : Hid (turnA l a = 0) := by unfold Hid turnA; rw [← HR.out, if_pos hra]
      have d1 : decide (R ≤ a + 1) = true := decide_eq_true hra
      rw [d1]
      have c1' := HIc.out.gb.c1
      have f1' := HIc.out.gb.frozen 1
      clear c1 RW
      go_wp2_with fail
      go_returns
      refine ⟨rfl, ?_, HCc.out.trans (Chg.setCell _ _ HIc.out.bown)⟩
      rw [HT.out]
      exact ⟨v, W, HIc.out.box (Chg.setCell _ _ rfl) (HIc.out.gb.setA 0), HW.out, HO.out, .inr rfl⟩
    · have HT : Hid (turnA l a = a + 1) := by unfold Hid turnA; rw [← HR.out, if_neg hra]
      have d1 : decide (R ≤ a + 1) = false := decide_eq_false hra
      rw [d1]
      have HA : Hid (a + 1 < rowsG l ∨ a + 1 = 0) := .inl (by rw [← HR.out]; omega)
      clear c1 RW
      go_wp2_with fail
      go_returns
      exact ⟨rfl, by rw [HT.out]; exact ⟨v, W, HIc.out, HW.out, HO.out, HA.out⟩, HCc.out⟩
end Go.Proofs.Ytfobapnncjjeiaa
