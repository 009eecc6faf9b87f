/-
  Matrix.Place.
-/
import Derived.Test.YtfobapnncjjeiaaGaN
namespace Go.Proofs.Ytfobapnncjjeiaa
open Go Go.RowKit Go.Lib
set_option linter.unusedVariables false

theorem end4 {w1 : World} {g : Nat} {T : TypeId} {a0 a1 a2 a3 : Value} (h : Blk w1 g #[a0, a1, a2, a3] T) (b0 b1 b2 b3 : Value) :
    ∃ W4, (((w1.setCell ⟨g, 0, none⟩ b0).setCell ⟨g, 1, none⟩ b1).setCell ⟨g, 2, none⟩ b2).setCell ⟨g, 3, none⟩ b3 = W4 ∧ Blk W4 g #[b0, b1, b2, b3] T ∧ Chg (One g) w1 W4 :=
  ⟨_, rfl, by have := (((h.set 0 b0).set 1 b1).set 2 b2).set 3 b3; simpa using this, (((Chg.setCell (own := One g) 0 b0 rfl).trans (Chg.setCell (own := One g) 1 b1 rfl)).trans (Chg.setCell (own := One g) 2 b2 rfl)).trans (Chg.setCell (own := One g) 3 b3 rfl)⟩
structure C4 (w : World) (g : Nat) (a b c d : Value) : Prop where
  c0 : w.cell? ⟨g, 0, none⟩ = some a
  c1 : w.cell? ⟨g, 1, none⟩ = some b
  c2 : w.cell? ⟨g, 2, none⟩ = some c
  c3 : w.cell? ⟨g, 3, none⟩ = some d
  f0 : w.frozen? ⟨g, 0, none⟩ = false
  f1 : w.frozen? ⟨g, 1, none⟩ = false
  f2 : w.frozen? ⟨g, 2, none⟩ = false
  f3 : w.frozen? ⟨g, 3, none⟩ = false
theorem c4_of {w : World} {g : Nat} {a b c d : Value} {T : TypeId} (h : Blk w g #[a, b, c, d] T) : C4 w g a b c d :=
  ⟨h.cell 0, h.cell 1, h.cell 2, h.cell 3, h.free 0, h.free 1, h.free 2, h.free 3⟩
theorem GI.far {w w' : World} {m n a : Nat} {own P : Nat → Prop} {v : Value} {W : Nat → Nat} {l : List Ce} (h : GI w m own n a v W l) (hc : Chg P w w') (hP : ∀ k, own k → k < w.heap.size → ¬ P k) : GI w' m own n a v W l :=
  ⟨⟨h.gb.blk.chgC hc (hP m h.bown h.gb.lt)⟩, own_chg h.row hc (fun k hk => hP k (h.ob k hk).1 (h.row.lt k hk).2), h.bown, fun k hk => h.new k (Nat.le_trans hc.size hk), h.ob⟩
theorem GN.far {w w' : World} {m n a : Nat} {own P : Nat → Prop} {l : List Ce} (h : GN w m own n a l) (hc : Chg P w w') (hP : ∀ k, own k → k < w.heap.size → ¬ P k) : GN w' m own n a l := by
  obtain ⟨v, W, q1, q2⟩ := h; exact ⟨v, W, q1.far hc hP, q2⟩
theorem step_o {o P S : Nat} (ho : o ≤ 10) (hP : P = 2 ^ o) (hs : S + P ≤ 4096) : wrap64 ((S : Int) + wrap64 ((2 : Int) ^ min o 64)) = ((S + P : Nat) : Int) := by
  rw [Nat.min_eq_left (by omega), two_i, ← hP]
  clear hP
  unfold wrap64
  omega
set_option maxRecDepth 100000 in
set_option maxHeartbeats 4000000 in
theorem gplace_arg (m n a id : Nat) (O : Int) (own : Nat → Prop) (l : List Ce) (w : World) (h : GM w m own n a l) (ho : id = 0 ∨ O < 0 ∨ (n : Int) < O) :
    Calls Try.prog 29 #[.pointer (some ⟨m, 0, none⟩), .int .u32 (id : Nat), .int .i64 O] w (PlacePost m n a id O own l w) := by
  obtain ⟨gR, hgR⟩ : ∃ g, g = w.heap.size := ⟨_, rfl⟩
  obtain ⟨X, hX⟩ : ∃ X, X = w.alloc (.cells #[.int .u32 0, .int .i64 0, .int .i64 0, .int .i64 0] 48) := ⟨_, rfl⟩
  have hbX : Below w.heap.size w X := by rw [hX]; exact (Below.refl _ _).alloc (Nat.le_refl _) _
  have HBX := Lib.hid hbX
  have HR : Hid (Blk X gR #[.int .u32 0, .int .i64 0, .int .i64 0, .int .i64 0] 48) := by unfold Hid; rw [hX, hgR]; exact Blk.new w _ _
  obtain ⟨ow, how⟩ : ∃ ow : Nat → Prop, ow = fun k => own k ∧ k ≠ gR := ⟨_, rfl⟩
  have HOW : Hid (∀ k, ow k → own k) := fun k hk => by rw [how] at hk; exact hk.1
  have HNR : Hid (¬ ow gR) := by unfold Hid; rw [how]; exact fun h => h.2 rfl
  have HRO : Hid (own gR) := by unfold Hid; rw [hgR]; exact h.gn.new _ (Nat.le_refl _)
  have HG : Hid (GN X m ow n a l) := by unfold Hid; rw [hX, how, hgR]; exact h.gn.boxed _
  have HACT := Lib.hid h.act
  have hn10 := h.ok.n10
  have hm := HG.out.lt
  have c0 : X.cell? ⟨m, 0, none⟩ = some (.int .i64 (n : Nat)) := by obtain ⟨v, W, q1, _⟩ := HG.out; exact q1.gb.c0
  clear h hbX how
  have HO := Lib.hid ho
  by_cases h1 : id = 0
  · have q1 : ((id : Int) == 0) = true := by simp; omega
    have q1' : (id == 0) = true := by simp; omega
    clear ho h1
    go_enter Try.func29, Try.ntmps29
    go_upto_region 1 with fail
    rw [← hgR, ← hX]
    clear hgR hX
    obtain ⟨r0, r1, r2, r3, f0, f1, f2, f3⟩ := c4_of HR.out
    obtain ⟨W4, e4, hb4, hc4⟩ := end4 HR.out (.int .u32 0) (.int .i64 0) (.int .i64 0) (.int .i64 0)
    have HB4 := Lib.hid hb4
    have HC4 := Lib.hid hc4
    clear hb4 hc4
    go_wp2_with fail

    clear e4 r0 r1 r2 r3 f0 f1 f2 f3
    obtain ⟨z0, z1, z2, z3, _, _, _, _⟩ := c4_of HB4.out
    refine bodyPost_ret (v := .tuple #[.agg #[.int .u32 0, .int .i64 0, .int .i64 0, .int .i64 0], .int .i64 2]) (by simp [results, Try.results29, go_sem, z0, z1, z2, z3]) rfl ?_
    refine ⟨(0, 0, 0, 0), 2, l, rfl, .arg HO.out, (((HG.out).far HC4.out (fun k hk _ e => HNR.out (e ▸ hk))).wider HOW.out).gm HACT.out, (Chg.of_below HBX.out).trans (HC4.out.weak fun k e => by rw [e]; exact HRO.out)⟩
  · have q1 : ((id : Int) == 0) = false := by simp; omega
    have q1' : (id == 0) = false := by simp; omega
    by_cases h2 : O < 0
    · have q2 : decide (O < 0) = true := decide_eq_true h2
      clear ho h1 h2
      go_enter Try.func29, Try.ntmps29
      go_upto_region 1 with fail
      rw [← hgR, ← hX]
      clear hgR hX
      obtain ⟨r0, r1, r2, r3, f0, f1, f2, f3⟩ := c4_of HR.out
      obtain ⟨W4, e4, hb4, hc4⟩ := end4 HR.out (.int .u32 0) (.int .i64 0) (.int .i64 0) (.int .i64 0)
      have HB4 := Lib.hid hb4
      have HC4 := Lib.hid hc4
      clear hb4 hc4
      go_wp2_with fail

      clear e4 r0 r1 r2 r3 f0 f1 f2 f3
      obtain ⟨z0, z1, z2, z3, _, _, _, _⟩ := c4_of HB4.out
      refine bodyPost_ret (v := .tuple #[.agg #[.int .u32 0, .int .i64 0, .int .i64 0, .int .i64 0], .int .i64 2]) (by simp [results, Try.results29, go_sem, z0, z1, z2, z3]) rfl ?_
      refine ⟨(0, 0, 0, 0), 2, l, rfl, .arg HO.out, (((HG.out).far HC4.out (fun k hk _ e => HNR.out (e ▸ hk))).wider HOW.out).gm HACT.out, (Chg.of_below HBX.out).trans (HC4.out.weak fun k e => by rw [e]; exact HRO.out)⟩
    · have q2 : decide (O < 0) = false := decide_eq_false h2
      have h3 : (n : Int) < O := by omega
      have q3 : decide (O > (n : Int)) = true := decide_eq_true h3
      have q3' : decide ((n : Int) < O) = true := decide_eq_true h3
      clear ho h1
      go_enter Try.func29, Try.ntmps29
      go_upto_region 1 with fail
      rw [← hgR, ← hX]
      clear hgR hX
      obtain ⟨r0, r1, r2, r3, f0, f1, f2, f3⟩ := c4_of HR.out
      obtain ⟨W4, e4, hb4, hc4⟩ := end4 HR.out (.int .u32 0) (.int .i64 0) (.int .i64 0) (.int .i64 0)
      have HB4 := Lib.hid hb4
      have HC4 := Lib.hid hc4
      clear hb4 hc4
      go_wp2_with fail

      clear e4 r0 r1 r2 r3 f0 f1 f2 f3
      obtain ⟨z0, z1, z2, z3, _, _, _, _⟩ := c4_of HB4.out
      refine bodyPost_ret (v := .tuple #[.agg #[.int .u32 0, .int .i64 0, .int .i64 0, .int .i64 0], .int .i64 2]) (by simp [results, Try.results29, go_sem, z0, z1, z2, z3]) rfl ?_
      refine ⟨(0, 0, 0, 0), 2, l, rfl, .arg HO.out, (((HG.out).far HC4.out (fun k hk _ e => HNR.out (e ▸ hk))).wider HOW.out).gm HACT.out, (Chg.of_below HBX.out).trans (HC4.out.weak fun k e => by rw [e]; exact HRO.out)⟩
set_option maxRecDepth 100000 in
set_option maxHeartbeats 4000000 in
theorem gplace_twice (m n a id o k : Nat) (own : Nat → Prop) (l : List Ce) (w : World) (h : GM w m own n a l) (hid : id ≠ 0) (ho : o ≤ n) (hf : IsFind l id (some k)) :
    Calls Try.prog 29 #[.pointer (some ⟨m, 0, none⟩), .int .u32 (id : Nat), .int .i64 (o : Nat)] w (PlacePost m n a id (o : Nat) own l w) := by
  obtain ⟨gR, hgR⟩ : ∃ g, g = w.heap.size := ⟨_, rfl⟩
  obtain ⟨X, hX⟩ : ∃ X, X = w.alloc (.cells #[.int .u32 0, .int .i64 0, .int .i64 0, .int .i64 0] 48) := ⟨_, rfl⟩
  have hbX : Below w.heap.size w X := by rw [hX]; exact (Below.refl _ _).alloc (Nat.le_refl _) _
  have HBX := Lib.hid hbX
  have HR : Hid (Blk X gR #[.int .u32 0, .int .i64 0, .int .i64 0, .int .i64 0] 48) := by unfold Hid; rw [hX, hgR]; exact Blk.new w _ _
  obtain ⟨ow, how⟩ : ∃ ow : Nat → Prop, ow = fun k => own k ∧ k ≠ gR := ⟨_, rfl⟩
  have HOW : Hid (∀ k, ow k → own k) := fun k hk => by rw [how] at hk; exact hk.1
  have HNR : Hid (¬ ow gR) := by unfold Hid; rw [how]; exact fun h => h.2 rfl
  have HRO : Hid (own gR) := by unfold Hid; rw [hgR]; exact h.gn.new _ (Nat.le_refl _)
  have HG : Hid (GN X m ow n a l) := by unfold Hid; rw [hX, how, hgR]; exact h.gn.boxed _
  have HACT := Lib.hid h.act
  have hn10 := h.ok.n10
  have hm := HG.out.lt
  have c0 : X.cell? ⟨m, 0, none⟩ = some (.int .i64 (n : Nat)) := by obtain ⟨v, W, q1, _⟩ := HG.out; exact q1.gb.c0
  have FD : Hid (Calls Try.prog 42 #[.pointer (some ⟨m, 0, none⟩), .int .u32 (id : Nat)] X fun e w' => (∃ r, e = .returned (.int .i64 (optF r)) ∧ IsFind l id r) ∧ Below X.heap.size X w') := find_any m n a id own l X (h.kept hbX)
  clear h hbX how
  have q1 : ((id : Int) == 0) = false := by simp; omega
  have q1' : (id == 0) = false := by simp; omega
  have q2 : decide ((o : Int) < 0) = false := decide_eq_false (by omega)
  have q3 : decide ((o : Int) > (n : Int)) = false := decide_eq_false (by omega)
  have q3' : decide ((n : Int) < (o : Int)) = false := decide_eq_false (by omega)
  have q3'' : decide (n < o) = false := decide_eq_false (by omega)
  obtain ⟨d, hd, hdi⟩ : ∃ c ∈ l, c.1 = id := by
    rcases hf with ⟨h, _⟩ | ⟨k', hk', h, h2, _⟩
    · cases h
    · exact ⟨_, List.getElem_mem hk', h2⟩
  have HF := Lib.hid hf
  have HE : Hid (PlaceR n l id (o : Int) (0, 0, 0, 0) 30 l) := .twice (by omega) d hd hdi
  clear hf hd hdi d
  go_enter Try.func29, Try.ntmps29
  go_upto_region 1 with fail
  rw [← hgR, ← hX]
  clear hgR hX
  go_wp2_with fail
  refine FD.out.mono ?_; rintro e w1 ⟨⟨r, rfl, hr⟩, b1⟩
  obtain rfl := hr.det HF.out
  rw [show optF (some k) = (k : Int) from rfl]
  have d0 : decide ((k : Int) ≥ 0) = true := decide_eq_true (by omega)
  have HB1 := Lib.hid b1
  have HR1 := Lib.hid (HR.out.kept b1)
  have HG1 := Lib.hid (HG.out.kept b1)
  clear b1 hr FD HR HG
  obtain ⟨r0, r1, r2, r3, f0, f1, f2, f3⟩ := c4_of HR1.out
  obtain ⟨W4, e4, hb4, hc4⟩ := end4 HR1.out (.int .u32 0) (.int .i64 0) (.int .i64 0) (.int .i64 0)
  have HB4 := Lib.hid hb4
  have HC4 := Lib.hid hc4
  clear hb4 hc4
  go_wp2_with fail

  clear e4 r0 r1 r2 r3 f0 f1 f2 f3
  obtain ⟨z0, z1, z2, z3, _, _, _, _⟩ := c4_of HB4.out
  refine bodyPost_ret (v := .tuple #[.agg #[.int .u32 0, .int .i64 0, .int .i64 0, .int .i64 0], .int .i64 30]) (by simp [results, Try.results29, go_sem, z0, z1, z2, z3]) rfl ?_
  refine ⟨(0, 0, 0, 0), 30, l, rfl, HE.out, (((HG1.out).far HC4.out (fun k hk _ e => HNR.out (e ▸ hk))).wider HOW.out).gm HACT.out, ((Chg.of_below HBX.out).trans (Chg.of_below HB1.out)).trans (HC4.out.weak fun k e => by rw [e]; exact HRO.out)⟩
set_option maxRecDepth 100000 in
set_option maxHeartbeats 8000000 in
theorem gplace_search (m n a id o : Nat) (own : Nat → Prop) (l : List Ce) (w : World) (h : GM w m own n a l) (hid : id ≠ 0) (hid2 : id < 4294967296) (ho : o ≤ n) (hf : IsFind l id none) :
    Calls Try.prog 29 #[.pointer (some ⟨m, 0, none⟩), .int .u32 (id : Nat), .int .i64 (o : Nat)] w (PlacePost m n a id (o : Nat) own l w) := by
  obtain ⟨gR, hgR⟩ : ∃ g, g = w.heap.size := ⟨_, rfl⟩
  obtain ⟨X, hX⟩ : ∃ X, X = w.alloc (.cells #[.int .u32 0, .int .i64 0, .int .i64 0, .int .i64 0] 48) := ⟨_, rfl⟩
  have hbX : Below w.heap.size w X := by rw [hX]; exact (Below.refl _ _).alloc (Nat.le_refl _) _
  have HBX := Lib.hid hbX
  have HR : Hid (Blk X gR #[.int .u32 0, .int .i64 0, .int .i64 0, .int .i64 0] 48) := by unfold Hid; rw [hX, hgR]; exact Blk.new w _ _
  obtain ⟨ow, how⟩ : ∃ ow : Nat → Prop, ow = fun k => own k ∧ k ≠ gR := ⟨_, rfl⟩
  have HOW : Hid (∀ k, ow k → own k) := fun k hk => by rw [how] at hk; exact hk.1
  have HNR : Hid (¬ ow gR) := by unfold Hid; rw [how]; exact fun h => h.2 rfl
  have HRO : Hid (own gR) := by unfold Hid; rw [hgR]; exact h.gn.new _ (Nat.le_refl _)
  have HG : Hid (GN X m ow n a l) := by unfold Hid; rw [hX, how, hgR]; exact h.gn.boxed _
  have HACT := Lib.hid h.act
  have hn10 := h.ok.n10
  have hm := HG.out.lt
  have c0 : X.cell? ⟨m, 0, none⟩ = some (.int .i64 (n : Nat)) := by obtain ⟨v, W, q1, _⟩ := HG.out; exact q1.gb.c0
  have FD : Hid (Calls Try.prog 42 #[.pointer (some ⟨m, 0, none⟩), .int .u32 (id : Nat)] X fun e w' => (∃ r, e = .returned (.int .i64 (optF r)) ∧ IsFind l id r) ∧ Below X.heap.size X w') := find_any m n a id own l X (h.kept hbX)
  have HOK := Lib.hid h.ok
  clear h hbX how
  have q1 : ((id : Int) == 0) = false := by simp; omega
  have q1' : (id == 0) = false := by simp; omega
  have q2 : decide ((o : Int) < 0) = false := decide_eq_false (by omega)
  have q3 : decide ((o : Int) > (n : Int)) = false := decide_eq_false (by omega)
  have q3' : decide ((n : Int) < (o : Int)) = false := decide_eq_false (by omega)
  have q3'' : decide (n < o) = false := decide_eq_false (by omega)
  have hall : ∀ c ∈ l, c.1 ≠ id := by
    rcases hf with ⟨_, h⟩ | ⟨k', hk', h, h2, _⟩
    · exact h
    · cases h
  have HF := Lib.hid hf
  have HALL := Lib.hid hall
  have HID : Hid (1 ≤ id ∧ id < 4294967296) := ⟨by omega, hid2⟩
  obtain ⟨P, hP⟩ : ∃ P, P = 2 ^ o := ⟨_, rfl⟩
  obtain ⟨Y, hY⟩ : ∃ Y, Y = 2 ^ n := ⟨_, rfl⟩
  obtain ⟨B, hB⟩ : ∃ B, B = 2 ^ (n - o) := ⟨_, rfl⟩
  have hP1 : 1 ≤ P := by rw [hP]; exact Nat.two_pow_pos o
  have hY2 : Y ≤ 1024 := by rw [hY]; have := Nat.pow_le_pow_right (n := 2) (by omega) hn10; simpa using this
  have hBP : Hid (B * P = Y) := by unfold Hid; rw [hB, hP, hY, ← Nat.pow_add]; congr 1; omega
  have hPY : P ≤ Y := by have := hBP.out; have h0 : 1 ≤ B := (by rw [hB]; exact Nat.two_pow_pos _); have := Nat.mul_le_mul_right P h0; omega
  have hPi : IntKind.i64.wrap ((2 : Int) ^ o) = (P : Int) := by rw [two_i, ← hP, IntKind.wrap_i64]; omega
  have hYi : IntKind.i64.wrap ((2 : Int) ^ n) = (Y : Int) := by rw [two_i, ← hY, IntKind.wrap_i64]; omega
  have hP' := Lib.hid hP
  have hB' := Lib.hid hB
  have HO := Lib.hid ho
  clear hf hall hid hid2 hP hY hB ho
  go_enter Try.func29, Try.ntmps29
  go_upto_region 1 with fail
  rw [← hgR, ← hX]
  clear hgR hX
  go_wp2_with fail
  refine FD.out.mono ?_; rintro e w1 ⟨⟨r, rfl, hr⟩, b1⟩
  obtain rfl := hr.det HF.out
  rw [show optF none = -1 from rfl]
  have HB1 := Lib.hid b1
  clear b1 hr FD q1 q1' q2 q3 q3' q3'' c0
  go_wp2_with fail
  go_loopw [34] (fun iv wr => ∃ r : Nat, r ≤ 16 ∧ iv = .int .i64 r ∧ Hid (∀ r', r' < r → ∀ j, j < B → ¬ FreeG l r' (j * P) o) ∧ Hid (Below X.heap.size X wr)) (fun iv _ => 16 - (RowKit.intOf iv).toNat)
  case atStart => exact ⟨0, Nat.zero_le _, rfl, fun r' h => by omega, HB1⟩
  case round =>
    obtain ⟨r, hr, rfl, HN, HB⟩ := hrel
    by_cases hlt : r < 16
    · have d1 : decide ((r : Int) < 16) = true := decide_eq_true (by omega)
      have d1' : decide (r < 16) = true := decide_eq_true hlt
      go_upto_region 11 with fail
      go_loopw [9] (fun sv wr => ∃ i : Nat, i ≤ B ∧ sv = .int .i64 ((i * P : Nat) : Int) ∧ Hid (∀ j, j < i → ¬ FreeG l r (j * P) o) ∧ Hid (Below X.heap.size X wr)) (fun sv _ => Y - (RowKit.intOf sv).toNat)
      case atStart => exact ⟨0, Nat.zero_le _, by simp, fun j h => by omega, HB⟩
      case round =>
        clear HB
        obtain ⟨i, hi, rfl, HJ, HB⟩ := hrel
        have hle : i * P ≤ Y := by have := Nat.mul_le_mul_right P hi; have := hBP.out; omega
        have c0 : wr.cell? ⟨m, 0, none⟩ = some (.int .i64 (n : Nat)) := by
          obtain ⟨v, W, q1, _⟩ := HG.out.kept HB.out
          exact q1.gb.c0
        have hmr : m < wr.heap.size := (HG.out.kept HB.out).lt
        by_cases hlt2 : i < B
        · have hX2 : i * P + P ≤ Y := by
            have h1 := Nat.mul_le_mul_right P (show i + 1 ≤ B from hlt2)
            rw [Nat.succ_mul] at h1
            have := hBP.out
            omega
          have hmul : Hid ((i + 1) * P = i * P + P) := Nat.succ_mul _ _
          have hmod : Hid (i * P % 2 ^ o = 0 ∧ i * P + 2 ^ o ≤ 2 ^ n) := by
            refine ⟨by rw [← hP'.out]; exact Nat.mul_mod_left _ _, ?_⟩
            rw [← hP'.out]
            have h1 : B * P = 2 ^ n := by rw [hB'.out, hP'.out, ← Nat.pow_add]; congr 1; have := HO.out; omega
            have h2 := hBP.out
            omega
          have HPL : Hid (FreeG l r (i * P) o → IsPlace n l id o (some (id, r, i * P, o))) := fun hf => by
            have e1 := hP'.out
            have e2 := hB'.out
            subst e1 e2
            exact .some r i hlt hlt2 hf HN.out HJ.out
          have HNX : Hid (¬ FreeG l r (i * P) o → ∀ j, j < i + 1 → ¬ FreeG l r (j * P) o) := fun hf j hj => by
            rcases Nat.lt_or_ge j i with h1 | h1
            · exact HJ.out j h1
            · obtain rfl : j = i := by omega
              exact hf
          obtain ⟨S, hS⟩ : ∃ S, S = i * P := ⟨_, rfl⟩
          rw [← hS] at hle hX2 hmul hmod HPL HNX ⊢
          have k1 : decide (S < Y) = true := decide_eq_true (by omega)
          have k2 : decide ((S : Int) < (Y : Int)) = true := decide_eq_true (by omega)
          clear hS HJ
          go_upto_region 14 with fail
          have hri : (r : Int) < 16 := by omega
          obtain ⟨gc, hgc⟩ : ∃ g, g = wr.heap.size := ⟨_, rfl⟩
          obtain ⟨Xc, hXc⟩ : ∃ x, x = wr.alloc (.cells #[.int .u32 (id : Nat), .int .i64 (r : Nat), .int .i64 (S : Nat), .int .i64 (o : Nat)] 48) := ⟨_, rfl⟩
          have hbc : Below wr.heap.size wr Xc := by rw [hXc]; exact (Below.refl _ _).alloc (Nat.le_refl _) _
          have HBXc : Hid (Below X.heap.size X Xc) := below_next hbc HB.out
          have HC : Hid (Blk Xc gc #[.int .u32 (id : Nat), .int .i64 (r : Nat), .int .i64 (S : Nat), .int .i64 (o : Nat)] 48) := by unfold Hid; rw [hXc, hgc]; exact Blk.new wr _ _
          obtain ⟨oc, hoc⟩ : ∃ oc : Nat → Prop, oc = fun k => ow k ∧ k ≠ gc := ⟨_, rfl⟩
          have HOC : Hid (∀ k, oc k → ow k) := fun k hk => by rw [hoc] at hk; exact hk.1
          have HNC : Hid (¬ oc gc) := by unfold Hid; rw [hoc]; exact fun h => h.2 rfl
          have HGc : Hid (GN Xc m oc n a l) := by unfold Hid; rw [hXc, hoc, hgc]; exact (HG.out.kept HB.out).boxed _
          have HRc : Hid (Blk Xc gR #[.int .u32 0, .int .i64 0, .int .i64 0, .int .i64 0] 48) := HR.out.kept HBXc.out
          have FR : Hid (∀ w', Below Xc.heap.size Xc w' → Calls Try.prog 36 #[.pointer (some ⟨m, 3 + r * 16, none⟩), .agg #[.int .i64 (S : Nat), .int .i64 (o : Nat)]] w' fun e w'' => ∃ f : Bool, e = .returned (.bool f) ∧ (f = true ↔ FreeG l r S o) ∧ Below w'.heap.size w' w'') := fun w' hb =>
            rowFree_any m n a r S o oc l w' (HGc.out.kept hb) hlt HO.out hmod.out.1 hmod.out.2
          have b0 := HC.out.cell 0
          have b1 := HC.out.cell 1
          have b2 := HC.out.cell 2
          have b3 := HC.out.cell 3
          simp at b0 b1 b2 b3
          rw [← hgc, ← hXc]
          clear hgc hXc hoc hbc c0
          go_cut [61] (fun fv wx => ∃ f : Bool, fv = .bool f ∧ Hid (f = true ↔ FreeG l r S o) ∧ Hid (Below Xc.heap.size Xc wx))
          case first =>
            go_region_held3 (fun w' => w'.cell? ⟨gc, 2, none⟩ = some (.int .i64 (S : Nat)) ∧ w'.cell? ⟨gc, 3, none⟩ = some (.int .i64 (o : Nat)) ∧ Below Xc.heap.size Xc w')
              (first
                | exact ⟨b2, b3, (Below.refl _ _).drew⟩
                | (rcases ‹_ ∧ _ ∧ Below _ _ _› with ⟨g0, g1, g2⟩; exact ⟨cell_next (by assumption) g0, cell_next (by assumption) g1, below_next (by assumption) g2⟩))
              (first
                | (go_at_call 36; ((with_reducible refine (FR.out _ (‹_ ∧ _ ∧ Below Xc.heap.size Xc _›).2.2).mono ?_); rintro e w5 ⟨ff, rfl, hff, b5⟩)))
            all_goals (go_wp2_with fail)
            all_goals go_meet
            all_goals (exact ⟨ff, rfl, hff, (‹_ ∧ _ ∧ Below Xc.heap.size Xc _›).2.2⟩)
          case rest =>
            obtain ⟨f, rfl, hff, HBf⟩ := hcut
            cases f with
            | true =>
              have HFR := Lib.hid (hff.out.1 rfl)
              obtain ⟨w4, hw4⟩ : ∃ x, x = wc := ⟨_, rfl⟩
              subst hw4
              have HIP := Lib.hid (HPL.out HFR.out)
              have hcok := (HIP.out.ok HID.out.1 HID.out.2 HO.out)
              have AD := Lib.hid (gadd_any m n a oc l (id, r, S, o) w4 (HGc.out.kept HBf.out) hcok.1 HFR.out HALL.out)
              have HCf := Lib.hid (HC.out.kept HBf.out)
              have HRf := Lib.hid (HRc.out.kept HBf.out)
              have b0 := HCf.out.cell 0
              have b1 := HCf.out.cell 1
              have b2 := HCf.out.cell 2
              have b3 := HCf.out.cell 3
              simp at b0 b1 b2 b3
              clear hff hcok HNX FR
              unfold ceA at AD
              dsimp only at AD
              go_wp2_with fail
              refine AD.out.mono ?_; rintro e w5 ⟨rfl, hg5, hc5⟩
              have HG5 := Lib.hid hg5
              have HC5 := Lib.hid hc5
              have HCb := Lib.hid (HCf.out.chgC hc5 HNC.out)
              have HRb := Lib.hid (HRf.out.chgC hc5 (fun h => HNR.out (HOC.out _ h)))
              clear hg5 hc5 AD b0 b1 b2 b3
              obtain ⟨b0, b1, b2, b3, _, _, _, _⟩ := c4_of HCb.out
              obtain ⟨r0, r1, r2, r3, f0, f1, f2, f3⟩ := c4_of HRb.out
              obtain ⟨W4, e4, hb4, hc4⟩ := end4 HRb.out (.int .u32 (id : Nat)) (.int .i64 (r : Nat)) (.int .i64 (S : Nat)) (.int .i64 (o : Nat))
              have HB4 := Lib.hid hb4
              have HC4 := Lib.hid hc4
              clear hb4 hc4
              go_wp2_with fail
              clear e4 r0 r1 r2 r3 f0 f1 f2 f3
              obtain ⟨z0, z1, z2, z3, _, _, _, _⟩ := c4_of HB4.out
              refine bodyPost_ret (v := .tuple #[.agg #[.int .u32 (id : Nat), .int .i64 (r : Nat), .int .i64 (S : Nat), .int .i64 (o : Nat)], .int .i64 0]) (by simp [results, Try.results29, go_sem, z0, z1, z2, z3]) rfl ?_
              have hgn := (HG5.out.far HC4.out (fun k hk _ e => HNR.out (HOC.out _ (e ▸ hk)))).wider fun k hk => HOW.out k (HOC.out k hk)
              refine ⟨(id, r, S, o), 0, _, rfl, .ok o rfl (by have := HID.out.1; omega) HO.out HALL.out _ HIP.out, hgn.gm ?_, ?_⟩
              · rcases HACT.out with h | h
                · exact .inl (Nat.lt_of_lt_of_le h (rowsG_ins HOK.out.srt _ hgn.ok.srt))
                · exact .inr h
              · exact ((((Chg.of_below HBX.out).trans (Chg.of_below HBXc.out)).trans (Chg.of_below HBf.out)).trans (HC5.out.weak fun k hk => HOW.out k (HOC.out k hk))).trans (HC4.out.weak fun k e => by rw [e]; exact HRO.out)
            | false =>
              have HNY := Lib.hid (HNX.out fun h => by have := hff.out.2 h; cases this)
              have HBn : Hid (Below X.heap.size X wc) := below_next HBf.out HBXc.out
              have HST : Hid (wrap64 ((S : Int) + wrap64 ((2 : Int) ^ min o 64)) = ((S + P : Nat) : Int)) := step_o (by have := HO.out; omega) hP'.out (by omega)
              clear hff HNX HPL b0 b1 b2 b3 FR
              go_wp2_with fail
              go_roundw
              case rel => exact ⟨i + 1, hlt2, by (rw [hmul.out, HST.out]), HNY, HBn⟩
              case measure => (rw [HST.out]; simp [RowKit.intOf]; omega)
        · have hiB : i = B := by omega
          have HNR2 : Hid (∀ r', r' < r + 1 → ∀ j, j < B → ¬ FreeG l r' (j * P) o) := fun r' h j hj => by
            rcases Nat.lt_or_ge r' r with h1 | h1
            · exact HN.out r' h1 j hj
            · obtain rfl : r' = r := by omega
              exact HJ.out j (by omega)
          have hXY : i * P = Y := by rw [hiB]; exact hBP.out
          obtain ⟨S, hS⟩ : ∃ S, S = i * P := ⟨_, rfl⟩
          rw [← hS] at hXY ⊢
          have k1 : decide (S < Y) = false := decide_eq_false (by omega)
          have k2 : decide ((S : Int) < (Y : Int)) = false := decide_eq_false (by omega)
          have HXY := Lib.hid hXY
          clear hS hXY hiB hle HJ hlt2
          go_wp2_with fail
          go_roundw
          case rel => exact ⟨r + 1, hlt, by go_num, HNR2, HB⟩
          case measure => simp [RowKit.intOf]; omega
    · have d1 : decide ((r : Int) < 16) = false := decide_eq_false (by omega)
      have d1' : decide (r < 16) = false := decide_eq_false hlt
      have HRw := Lib.hid (HR.out.kept HB.out)
      have HGw := Lib.hid (HG.out.kept HB.out)
      have HE : Hid (PlaceR n l id (o : Int) (0, 0, 0, 0) 5 l) := by
        refine .full o rfl (by have := HID.out.1; omega) HO.out HALL.out (.none fun r' h j hj => ?_)
        rw [← hP'.out]
        rw [← hB'.out] at hj
        exact HN.out r' (by omega) j hj
      obtain ⟨r0, r1, r2, r3, f0, f1, f2, f3⟩ := c4_of HRw.out
      obtain ⟨W4, e4, hb4, hc4⟩ := end4 HRw.out (.int .u32 0) (.int .i64 0) (.int .i64 0) (.int .i64 0)
      have HB4 := Lib.hid hb4
      have HC4 := Lib.hid hc4
      clear hb4 hc4
      go_wp2_with fail

      clear e4 r0 r1 r2 r3 f0 f1 f2 f3
      obtain ⟨z0, z1, z2, z3, _, _, _, _⟩ := c4_of HB4.out
      refine bodyPost_ret (v := .tuple #[.agg #[.int .u32 0, .int .i64 0, .int .i64 0, .int .i64 0], .int .i64 5]) (by simp [results, Try.results29, go_sem, z0, z1, z2, z3]) rfl ?_
      refine ⟨(0, 0, 0, 0), 5, l, rfl, HE.out, (((HGw.out).far HC4.out (fun k hk _ e => HNR.out (e ▸ hk))).wider HOW.out).gm HACT.out, ((Chg.of_below HBX.out).trans (Chg.of_below HB.out)).trans (HC4.out.weak fun k e => by rw [e]; exact HRO.out)⟩
end Go.Proofs.Ytfobapnncjjeiaa
