/-
  The document's matrix: Place.
  The document's matrix: who runs.
-/
import Derived.Test.YtfobapnncjjeiaaGaRfgh
namespace Go.Proofs.Ytfobapnncjjeiaa
set_option linter.unusedVariables false

section
open Go Go.RowKit Go.Lib
/-- A box of the function's own is written to. -/
theorem Chg.box {P : Nat → Prop} {w w1 w2 : World} {g : Nat} (h1 : Chg P w w1) (h2 : Chg (One g) w1 w2) (hg : w.heap.size ≤ g) : Chg P w w2 :=
  ⟨h2.os.trans h1.os, h2.tape.trans h1.tape, h2.output.trans h1.output, Nat.le_trans h1.size h2.size, fun k hk hn => (h2.block k (Nat.lt_of_lt_of_le hk h1.size) (fun e => by have : k = g := e; omega)).trans (h1.block k hk hn)⟩
def RPlacePost (rb n a id : Nat) (O : Int) (lv : Value) (l : List Ce) (w : World) (e : Ending) (w' : World) : Prop :=
  ∃ c er l' lv', e = .returned (.tuple #[ceA c, .int .i64 er]) ∧ PlaceR n l id O c er l' ∧ RMt w' rb n a lv' l' ∧ (∀ g, lv'.ownBlock = some g → lv.ownBlock = some g ∨ w.heap.size ≤ g) ∧ Chg (One rb) w w'
set_option maxRecDepth 100000 in
set_option maxHeartbeats 4000000 in
theorem rplace_arg (rb n a id : Nat) (O : Int) (lv : Value) (l : List Ce) (w : World) (h : RMt w rb n a lv l) (hok : OkG n l) (ho : id = 0 ∨ O < 0 ∨ (n : Int) < O) :
    Calls Try.prog 31 #[.pointer (some ⟨rb, 0, none⟩), .int .u32 (id : Nat), .int .i64 O] w (RPlacePost rb n a id O lv l w) := by
  obtain ⟨gR, hgR⟩ : ∃ g, g = w.heap.size := ⟨_, rfl⟩
  obtain ⟨X, hX⟩ : ∃ X, X = w.alloc (.cells #[.int .u32 0, .int .i64 0, .int .i64 0, .int .i64 0] 48) := ⟨_, rfl⟩
  have hbX : Below w.heap.size w X := by rw [hX]; exact (Below.refl _ _).alloc (Nat.le_refl _) _
  have HBX := Lib.hid hbX
  have HR : Hid (Blk X gR #[.int .u32 0, .int .i64 0, .int .i64 0, .int .i64 0] 48) := by unfold Hid; rw [hX, hgR]; exact Blk.new w _ _
  have HGR : Hid (w.heap.size ≤ gR) := by unfold Hid; rw [hgR]; exact Nat.le_refl _
  have HNR : Hid (¬ One gR rb ∧ ∀ g, lv.ownBlock = some g → ¬ One gR g) := by
    refine ⟨fun e => ?_, fun g hg e => ?_⟩
    · have e : rb = gR := e
      have := h.blk.lt
      omega
    · have e : g = gR := e
      have := (h.row.lt g hg).2
      omega
  have HM : Hid (RMt X rb n a lv l) := h.kept hbX
  have HCX : Hid (Chg (One rb) w X) := Chg.of_below hbX
  have HOK := Lib.hid hok
  have hn10 := hok.n10
  have hl := hok.len
  have c0 := HM.out.c0
  clear h hbX hok
  have HO := Lib.hid ho
  by_cases h1 : id = 0
  · have q1 : ((id : Int) == 0) = true := by simp; omega
    have q1' : (id == 0) = true := by simp; omega
    clear ho h1
    go_enter Try.func31, Try.ntmps31
    go_upto_region 1 with fail
    rw [← hgR, ← hX]
    clear hgR hX
    obtain ⟨r0, r1, r2, r3, f0, f1, f2, f3⟩ := c4_of HR.out
    obtain ⟨W4, e4, hb4, hc4⟩ := end4 HR.out (.int .u32 0) (.int .i64 0) (.int .i64 0) (.int .i64 0)
    have HB4 := Lib.hid hb4
    have HC4 := Lib.hid hc4
    clear hb4 hc4
    go_wp2_with fail
    clear e4 r0 r1 r2 r3 f0 f1 f2 f3
    obtain ⟨z0, z1, z2, z3, _, _, _, _⟩ := c4_of HB4.out
    refine bodyPost_ret (v := .tuple #[.agg #[.int .u32 0, .int .i64 0, .int .i64 0, .int .i64 0], .int .i64 2]) (by simp [results, Try.results31, go_sem, z0, z1, z2, z3]) rfl ?_
    exact ⟨(0, 0, 0, 0), 2, l, lv, rfl, .arg HO.out, HM.out.chg HC4.out HNR.out.1 HNR.out.2, fun g hg => .inl hg, HCX.out.box HC4.out HGR.out⟩
  · have q1 : ((id : Int) == 0) = false := by simp; omega
    have q1' : (id == 0) = false := by simp; omega
    by_cases h2 : O < 0
    · have q2 : decide (O < 0) = true := decide_eq_true h2
      clear ho h1 h2
      go_enter Try.func31, Try.ntmps31
      go_upto_region 1 with fail
      rw [← hgR, ← hX]
      clear hgR hX
      obtain ⟨r0, r1, r2, r3, f0, f1, f2, f3⟩ := c4_of HR.out
      obtain ⟨W4, e4, hb4, hc4⟩ := end4 HR.out (.int .u32 0) (.int .i64 0) (.int .i64 0) (.int .i64 0)
      have HB4 := Lib.hid hb4
      have HC4 := Lib.hid hc4
      clear hb4 hc4
      go_wp2_with fail
      clear e4 r0 r1 r2 r3 f0 f1 f2 f3
      obtain ⟨z0, z1, z2, z3, _, _, _, _⟩ := c4_of HB4.out
      refine bodyPost_ret (v := .tuple #[.agg #[.int .u32 0, .int .i64 0, .int .i64 0, .int .i64 0], .int .i64 2]) (by simp [results, Try.results31, go_sem, z0, z1, z2, z3]) rfl ?_
      exact ⟨(0, 0, 0, 0), 2, l, lv, rfl, .arg HO.out, HM.out.chg HC4.out HNR.out.1 HNR.out.2, fun g hg => .inl hg, HCX.out.box HC4.out HGR.out⟩
    · have q2 : decide (O < 0) = false := decide_eq_false h2
      have h3 : (n : Int) < O := by omega
      have q3 : decide (O > (n : Int)) = true := decide_eq_true h3
      have q3' : decide ((n : Int) < O) = true := decide_eq_true h3
      clear ho h1
      go_enter Try.func31, Try.ntmps31
      go_upto_region 1 with fail
      rw [← hgR, ← hX]
      clear hgR hX
      obtain ⟨r0, r1, r2, r3, f0, f1, f2, f3⟩ := c4_of HR.out
      obtain ⟨W4, e4, hb4, hc4⟩ := end4 HR.out (.int .u32 0) (.int .i64 0) (.int .i64 0) (.int .i64 0)
      have HB4 := Lib.hid hb4
      have HC4 := Lib.hid hc4
      clear hb4 hc4
      go_wp2_with fail
      clear e4 r0 r1 r2 r3 f0 f1 f2 f3
      obtain ⟨z0, z1, z2, z3, _, _, _, _⟩ := c4_of HB4.out
      refine bodyPost_ret (v := .tuple #[.agg #[.int .u32 0, .int .i64 0, .int .i64 0, .int .i64 0], .int .i64 2]) (by simp [results, Try.results31, go_sem, z0, z1, z2, z3]) rfl ?_
      exact ⟨(0, 0, 0, 0), 2, l, lv, rfl, .arg HO.out, HM.out.chg HC4.out HNR.out.1 HNR.out.2, fun g hg => .inl hg, HCX.out.box HC4.out HGR.out⟩
set_option maxRecDepth 100000 in
set_option maxHeartbeats 8000000 in
theorem rplace_ord (rb n a id o : Nat) (lv : Value) (l : List Ce) (w : World) (h : RMt w rb n a lv l) (hok : OkG n l) (hid : id ≠ 0) (hid2 : id < 4294967296) (ho : o ≤ n) :
    Calls Try.prog 31 #[.pointer (some ⟨rb, 0, none⟩), .int .u32 (id : Nat), .int .i64 (o : Nat)] w (RPlacePost rb n a id (o : Nat) lv l w) := by
  obtain ⟨gR, hgR⟩ : ∃ g, g = w.heap.size := ⟨_, rfl⟩
  obtain ⟨X, hX⟩ : ∃ X, X = w.alloc (.cells #[.int .u32 0, .int .i64 0, .int .i64 0, .int .i64 0] 48) := ⟨_, rfl⟩
  have hbX : Below w.heap.size w X := by rw [hX]; exact (Below.refl _ _).alloc (Nat.le_refl _) _
  have HBX := Lib.hid hbX
  have HR : Hid (Blk X gR #[.int .u32 0, .int .i64 0, .int .i64 0, .int .i64 0] 48) := by unfold Hid; rw [hX, hgR]; exact Blk.new w _ _
  have HGR : Hid (w.heap.size ≤ gR) := by unfold Hid; rw [hgR]; exact Nat.le_refl _
  have HNR : Hid (¬ One gR rb ∧ ∀ g, lv.ownBlock = some g → ¬ One gR g) := by
    refine ⟨fun e => ?_, fun g hg e => ?_⟩
    · have e : rb = gR := e
      have := h.blk.lt
      omega
    · have e : g = gR := e
      have := (h.row.lt g hg).2
      omega
  have HM : Hid (RMt X rb n a lv l) := h.kept hbX
  have HCX : Hid (Chg (One rb) w X) := Chg.of_below hbX
  have HOK := Lib.hid hok
  have hn10 := hok.n10
  have hl := hok.len
  have c0 := HM.out.c0
  have FD := Lib.hid (rfind_any rb n a id lv l X HM.out hl)
  clear h hbX hok
  have q1 : ((id : Int) == 0) = false := by simp; omega
  have q1' : (id == 0) = false := by simp; omega
  have q2 : decide ((o : Int) < 0) = false := decide_eq_false (by omega)
  have q3 : decide ((o : Int) > (n : Int)) = false := decide_eq_false (by omega)
  have q3' : decide ((n : Int) < (o : Int)) = false := decide_eq_false (by omega)
  have q3'' : decide (n < o) = false := decide_eq_false (by omega)
  go_enter Try.func31, Try.ntmps31
  go_upto_region 1 with fail
  rw [← hgR, ← hX]
  clear hgR hX
  go_wp2_with fail
  refine FD.out.mono ?_; rintro e w1 ⟨⟨f, rfl, hf⟩, hw⟩
  replace hw := hw.symm; subst hw
  cases f with
  | some k =>
    rw [show optF (some k) = (k : Int) from rfl]
    have d0 : decide ((k : Int) ≥ 0) = true := decide_eq_true (by omega)
    have HE : Hid (PlaceR n l id (o : Int) (0, 0, 0, 0) 30 l) := by
      obtain ⟨d, hd, hdi⟩ : ∃ c ∈ l, c.1 = id := by
        rcases hf with ⟨h, _⟩ | ⟨k', hk', h, h2, _⟩
        · cases h
        · exact ⟨_, List.getElem_mem hk', h2⟩
      exact .twice (by omega) d hd hdi
    clear hf FD
    obtain ⟨r0, r1, r2, r3, f0, f1, f2, f3⟩ := c4_of HR.out
    obtain ⟨W4, e4, hb4, hc4⟩ := end4 HR.out (.int .u32 0) (.int .i64 0) (.int .i64 0) (.int .i64 0)
    have HB4 := Lib.hid hb4
    have HC4 := Lib.hid hc4
    clear hb4 hc4
    go_wp2_with fail
    clear e4 r0 r1 r2 r3 f0 f1 f2 f3
    obtain ⟨z0, z1, z2, z3, _, _, _, _⟩ := c4_of HB4.out
    refine bodyPost_ret (v := .tuple #[.agg #[.int .u32 0, .int .i64 0, .int .i64 0, .int .i64 0], .int .i64 30]) (by simp [results, Try.results31, go_sem, z0, z1, z2, z3]) rfl ?_
    exact ⟨(0, 0, 0, 0), 30, l, lv, rfl, HE.out, HM.out.chg HC4.out HNR.out.1 HNR.out.2, fun g hg => .inl hg, HCX.out.box HC4.out HGR.out⟩
  | none =>
    rw [show optF none = -1 from rfl]
    have hall : ∀ c ∈ l, c.1 ≠ id := by
      rcases hf with ⟨_, h⟩ | ⟨k', hk', h, h2, _⟩
      · exact h
      · cases h
    have HALL := Lib.hid hall
    have HID : Hid (1 ≤ id ∧ id < 4294967296) := ⟨by omega, hid2⟩
    have SZO := Lib.hid (rSize_any o (by omega))
    have SZN := Lib.hid (rSize_any n hn10)
    obtain ⟨P, hP⟩ : ∃ P, P = 2 ^ o := ⟨_, rfl⟩
    obtain ⟨Y, hY⟩ : ∃ Y, Y = 2 ^ n := ⟨_, rfl⟩
    obtain ⟨B, hB⟩ : ∃ B, B = 2 ^ (n - o) := ⟨_, rfl⟩
    have hP1 : 1 ≤ P := by rw [hP]; exact Nat.two_pow_pos o
    have hY2 : Y ≤ 1024 := by rw [hY]; have := Nat.pow_le_pow_right (n := 2) (by omega) hn10; simpa using this
    have hBP : Hid (B * P = Y) := by unfold Hid; rw [hB, hP, hY, ← Nat.pow_add]; congr 1; omega
    have hPY : P ≤ Y := by have := hBP.out; have h0 : 1 ≤ B := (by rw [hB]; exact Nat.two_pow_pos _); have := Nat.mul_le_mul_right P h0; omega
    rw [← hP] at SZO
    rw [← hY] at SZN
    have hP' := Lib.hid hP
    have hB' := Lib.hid hB
    have HO := Lib.hid ho
    clear hf hall hid hid2 hP hY hB ho FD q1 q1' q2 q3 q3' q3'' c0
    go_wp2_with fail
    refine (SZO.out _).mono ?_; rintro e w1 ⟨rfl, hw⟩
    replace hw := hw.symm; subst hw
    go_wp2_with fail
    go_loopw [10] (fun iv wr => ∃ r : Nat, r ≤ 16 ∧ iv = .int .i64 r ∧ Hid (∀ r', r' < r → ∀ j, j < B → ¬ FreeG l r' (j * P) o) ∧ Hid (Below X.heap.size X wr)) (fun iv _ => 16 - (RowKit.intOf iv).toNat)
    case atStart => exact ⟨0, Nat.zero_le _, rfl, fun r' h => by omega, Below.refl _ _⟩
    case round =>
      obtain ⟨r, hr, rfl, HN, HB⟩ := hrel
      by_cases hlt : r < 16
      · have d1 : decide ((r : Int) < 16) = true := decide_eq_true (by omega)
        have d1' : decide (r < 16) = true := decide_eq_true hlt
        go_upto_region 11 with fail
        go_loopw [11] (fun sv wr => ∃ i : Nat, i ≤ B ∧ sv = .int .i64 ((i * P : Nat) : Int) ∧ Hid (∀ j, j < i → ¬ FreeG l r (j * P) o) ∧ Hid (Below X.heap.size X wr)) (fun sv _ => Y - (RowKit.intOf sv).toNat)
        case atStart => exact ⟨0, Nat.zero_le _, by simp, fun j h => by omega, HB⟩
        case round =>
          clear HB
          obtain ⟨i, hi, rfl, HJ, HB⟩ := hrel
          have hle : i * P ≤ Y := by have := Nat.mul_le_mul_right P hi; have := hBP.out; omega
          have c0 := (HM.out.kept HB.out).c0
          have c1 := (HM.out.kept HB.out).c1
          by_cases hlt2 : i < B
          · have hX2 : i * P + P ≤ Y := by
              have h1 := Nat.mul_le_mul_right P (show i + 1 ≤ B from hlt2)
              rw [Nat.succ_mul] at h1
              have := hBP.out
              omega
            have hmul : Hid ((i + 1) * P = i * P + P) := Nat.succ_mul _ _
            have HPL : Hid (FreeG l r (i * P) o → IsPlace n l id o (some (id, r, i * P, o))) := fun hf => by
              have e1 := hP'.out
              have e2 := hB'.out
              subst e1 e2
              exact .some r i hlt hlt2 hf HN.out HJ.out
            have HNX : Hid (¬ FreeG l r (i * P) o → ∀ j, j < i + 1 → ¬ FreeG l r (j * P) o) := fun hf j hj => by
              rcases Nat.lt_or_ge j i with h1 | h1
              · exact HJ.out j h1
              · obtain rfl : j = i := by omega
                exact hf
            obtain ⟨S, hS⟩ : ∃ S, S = i * P := ⟨_, rfl⟩
            rw [← hS] at hle hX2 hmul HPL HNX ⊢
            have k1 : decide (S < Y) = true := decide_eq_true (by omega)
            have k2 : decide ((S : Int) < (Y : Int)) = true := decide_eq_true (by omega)
            clear hS HJ
            go_wp2_with fail
            refine (SZN.out _).mono ?_; rintro e w1 ⟨rfl, hw⟩
            replace hw := hw.symm; subst hw
            go_upto_region 14 with fail
            obtain ⟨gc, hgc⟩ : ∃ g, g = wr.heap.size := ⟨_, rfl⟩
            obtain ⟨Xc, hXc⟩ : ∃ x, x = wr.alloc (.cells #[.int .u32 (id : Nat), .int .i64 (r : Nat), .int .i64 (S : Nat), .int .i64 (o : Nat)] 48) := ⟨_, rfl⟩
            have hbc : Below wr.heap.size wr Xc := by rw [hXc]; exact (Below.refl _ _).alloc (Nat.le_refl _) _
            have HBXc : Hid (Below X.heap.size X Xc) := below_next hbc HB.out
            have HC : Hid (Blk Xc gc #[.int .u32 (id : Nat), .int .i64 (r : Nat), .int .i64 (S : Nat), .int .i64 (o : Nat)] 48) := by unfold Hid; rw [hXc, hgc]; exact Blk.new wr _ _
            have HRc : Hid (Blk Xc gR #[.int .u32 0, .int .i64 0, .int .i64 0, .int .i64 0] 48) := HR.out.kept HBXc.out
            have HMc : Hid (RMt Xc rb n a lv l) := HM.out.kept HBXc.out
            have FR : Hid (∀ w', Below Xc.heap.size Xc w' → Calls Try.prog 46 #[lv, .int .i64 (r : Nat), .agg #[.int .i64 (S : Nat), .int .i64 (o : Nat)]] w' fun e w'' => ∃ f : Bool, e = .returned (.bool f) ∧ BIs f (FreeG l r S o) ∧ Below w'.heap.size w' w'') := fun w' hb =>
              rfree_any n r S o lv l w' (HMc.out.kept hb).cr HOK.out hlt (by have := HO.out; omega) (by omega)
            have hgcr : gc ≠ rb := by rw [hgc]; have := (HM.out.kept HB.out).blk.lt; omega
            have hgcR : gc ≠ gR := by rw [hgc]; have := (HR.out.kept HB.out).lt; omega
            have b0 := HC.out.cell 0
            have b1 := HC.out.cell 1
            have b2 := HC.out.cell 2
            have b3 := HC.out.cell 3
            simp at b0 b1 b2 b3
            have m1 := HMc.out.c1
            rw [← hgc, ← hXc]
            clear hgc hXc hbc c0 c1
            go_region_held3 (fun w' => w'.cell? ⟨rb, 1, none⟩ = some lv ∧ w'.cell? ⟨gc, 2, none⟩ = some (.int .i64 (S : Nat)) ∧ w'.cell? ⟨gc, 3, none⟩ = some (.int .i64 (o : Nat)) ∧ Below Xc.heap.size Xc w')
              (first
                | exact ⟨m1, b2, b3, (Below.refl _ _).drew⟩
                | (rcases ‹_ ∧ _ ∧ _ ∧ Below _ _ _› with ⟨g0, g1, g2, g3⟩; exact ⟨cell_next (by assumption) g0, cell_next (by assumption) g1, cell_next (by assumption) g2, below_next (by assumption) g3⟩))
              (first
                | (go_at_call 46; ((with_reducible refine (FR.out _ (‹_ ∧ _ ∧ _ ∧ Below Xc.heap.size Xc _›).2.2.2).mono ?_); rintro e wc ⟨f, rfl, hff', b5⟩)))
            have HBf := Lib.hid (‹_ ∧ _ ∧ _ ∧ Below Xc.heap.size Xc _›).2.2.2
            have hff := Lib.hid hff'
            clear hff' b5 b0 b1 b2 b3 m1
            cases f with
            | true =>
              have HFR := Lib.hid hff.out.t
              have HIP := Lib.hid (HPL.out HFR.out)
              have HCf := Lib.hid (HC.out.kept HBf.out)
              have HRf := Lib.hid (HRc.out.kept HBf.out)
              have HMf := Lib.hid (HMc.out.kept HBf.out)
              have hIL := insG_len l (id, r, S, o)
              have LY : Hid (∀ wq, (∃ q, wq = wc.drewN q) → Calls Try.prog 47 #[lv, ceA (id, r, S, o)] wq fun e w' => ∃ va vc, e = .returned (.slice va (insG l (id, r, S, o)).length vc) ∧ w'.cell? ⟨rb, 1, none⟩ = some lv ∧ w'.frozen? ⟨rb, 1, none⟩ = false ∧
                  Hid (∀ q, RMt ((w'.setCell ⟨rb, 1, none⟩ (.slice va (insG l (id, r, S, o)).length vc)).drewN q) rb n a (.slice va (insG l (id, r, S, o)).length vc) (insG l (id, r, S, o)) ∧ (∀ g, (Value.slice va (insG l (id, r, S, o)).length vc).ownBlock = some g → wc.heap.size ≤ g) ∧ Chg (One rb) wc ((w'.setCell ⟨rb, 1, none⟩ (.slice va (insG l (id, r, S, o)).length vc)).drewN q) ∧
                    Blk ((w'.setCell ⟨rb, 1, none⟩ (.slice va (insG l (id, r, S, o)).length vc)).drewN q) gc #[.int .u32 (id : Nat), .int .i64 (r : Nat), .int .i64 (S : Nat), .int .i64 (o : Nat)] 48 ∧ Blk ((w'.setCell ⟨rb, 1, none⟩ (.slice va (insG l (id, r, S, o)).length vc)).drewN q) gR #[.int .u32 0, .int .i64 0, .int .i64 0, .int .i64 0] 48)) := fun wq hq => by
                obtain ⟨q, rfl⟩ := hq
                have hb0 : Below wc.heap.size wc (wc.drewN q) := below_drewN (Below.refl _ _) q
                refine (rlay_any 0 lv l (id, r, S, o) _ (HMf.out.kept hb0).row hl).mono ?_
                rintro e w' ⟨⟨v', rfl, ho⟩, hb⟩
                obtain ⟨va, vc, rfl⟩ := own_slice ho
                have hb1 : Below wc.heap.size wc w' := below_next hb hb0
                have hm := HMf.out.kept hb1
                have hlt : ∀ g, (Value.slice va (insG l (id, r, S, o)).length vc).ownBlock = some g → wc.heap.size ≤ g := fun g hg => by
                  have := (ho.lt g hg).1
                  have e : (wc.drewN q).heap.size = wc.heap.size := rfl
                  omega
                have hrb := HMf.out.blk.lt
                refine ⟨va, vc, rfl, hm.c1, hm.f 1, fun q' => ?_⟩
                have hk : Below (w'.setCell ⟨rb, 1, none⟩ (.slice va (insG l (id, r, S, o)).length vc)).heap.size (w'.setCell ⟨rb, 1, none⟩ (.slice va (insG l (id, r, S, o)).length vc)) ((w'.setCell ⟨rb, 1, none⟩ (.slice va (insG l (id, r, S, o)).length vc)).drewN q') := below_drewN (Below.refl _ _) q'
                refine ⟨(hm.setL (own_zero ho) (fun e => by have := hlt rb e; omega)).kept hk, hlt, ((Chg.of_below hb1 : Chg (One rb) _ _).trans (Chg.setCell 1 _ rfl)).more hk, ?_, ?_⟩
                · exact Blk.kept (Blk.other (HCf.out.kept hb1) (fun (e : gc = rb) => hgcr e) _) hk
                · exact Blk.kept (Blk.other (HRf.out.kept hb1) (fun (e : gR = rb) => HNR.out.1 e.symm) _) hk
              have HBwc : Hid (Below w.heap.size w wc) := below_next (below_next HBf.out HBXc.out) HBX.out
              obtain ⟨IL, hIL'⟩ : ∃ n, n = (insG l (id, r, S, o)).length := ⟨_, rfl⟩
              rw [← hIL'] at LY
              clear hff HNX HPL FR hIL hIL'
              unfold ceA at LY
              dsimp only at LY
              obtain ⟨b0, b1, b2, b3, _, _, _, _⟩ := c4_of HCf.out
              have m1 := HMf.out.c1
              have mf := HMf.out.f 1
              go_wp2_with fail
              go_cut [] (fun wx => ∃ va vc, Hid (RMt wx rb n a (.slice va IL vc) (insG l (id, r, S, o)) ∧ (∀ g, (Value.slice va IL vc).ownBlock = some g → wc.heap.size ≤ g) ∧ Chg (One rb) wc wx ∧ Blk wx gc #[.int .u32 (id : Nat), .int .i64 (r : Nat), .int .i64 (S : Nat), .int .i64 (o : Nat)] 48 ∧ Blk wx gR #[.int .u32 0, .int .i64 0, .int .i64 0, .int .i64 0] 48))
              case first =>
                go_region_law
                  (first
                    | (go_simp; go_at_call 47; ((with_reducible refine (LY.out _ (by first | exact ⟨1, rfl⟩ | exact ⟨0, rfl⟩ | exact ⟨_, rfl⟩)).mono ?_); rintro e w2 ⟨ua, uc, rfl, d1, d2, hfin⟩)))
                all_goals (go_wp2_with fail)
                all_goals go_meet
                all_goals first
                  | exact ⟨ua, uc, hfin.out 0⟩
                  | exact ⟨ua, uc, hfin.out 1⟩
                  | exact ⟨ua, uc, hfin.out _⟩
              case rest =>
                obtain ⟨ua, uc, HZ⟩ := hcut
                obtain ⟨b0, b1, b2, b3, _, _, _, _⟩ := c4_of HZ.out.2.2.2.1
                obtain ⟨r0, r1, r2, r3, f0, f1, f2, f3⟩ := c4_of HZ.out.2.2.2.2
                obtain ⟨W4, e4, hb4, hc4⟩ := end4 HZ.out.2.2.2.2 (.int .u32 (id : Nat)) (.int .i64 (r : Nat)) (.int .i64 (S : Nat)) (.int .i64 (o : Nat))
                have HB4 := Lib.hid hb4
                have HC4 := Lib.hid hc4
                clear hb4 hc4 LY
                go_wp2_with fail
                clear e4 r0 r1 r2 r3 f0 f1 f2 f3
                obtain ⟨z0, z1, z2, z3, _, _, _, _⟩ := c4_of HB4.out
                refine bodyPost_ret (v := .tuple #[.agg #[.int .u32 (id : Nat), .int .i64 (r : Nat), .int .i64 (S : Nat), .int .i64 (o : Nat)], .int .i64 0]) (by simp [results, Try.results31, go_sem, z0, z1, z2, z3]) rfl ?_
                refine ⟨(id, r, S, o), 0, _, _, rfl, .ok o rfl (by have := HID.out.1; omega) HO.out HALL.out _ HIP.out, HZ.out.1.chg HC4.out HNR.out.1 (fun g hg e => ?_), fun g hg => .inr ?_, (((Chg.of_below HBwc.out).trans HZ.out.2.2.1).box HC4.out HGR.out)⟩
                · have e : g = gR := e
                  have h1 := HZ.out.2.1 g hg
                  have h2 := HRf.out.lt
                  omega
                · exact Nat.le_trans HBwc.out.size (HZ.out.2.1 g hg)
            | false =>
              have HNY := Lib.hid (HNX.out hff.out.f)
              have HBn : Hid (Below X.heap.size X wc) := below_next HBf.out HBXc.out
              have HSP : Hid ((S : Int) + (P : Int) = ((S + P : Nat) : Int)) := by unfold Hid; omega
              clear hff HNX HPL FR
              go_wp2_with fail
              go_roundw
              case rel => exact ⟨i + 1, hlt2, by (rw [hmul.out, ← HSP.out]), HNY, HBn⟩
              case measure => simp [RowKit.intOf]; omega
          · have hiB : i = B := by omega
            have HNR2 : Hid (∀ r', r' < r + 1 → ∀ j, j < B → ¬ FreeG l r' (j * P) o) := fun r' h j hj => by
              rcases Nat.lt_or_ge r' r with h1 | h1
              · exact HN.out r' h1 j hj
              · obtain rfl : r' = r := by omega
                exact HJ.out j (by omega)
            have hXY : i * P = Y := by rw [hiB]; exact hBP.out
            obtain ⟨S, hS⟩ : ∃ S, S = i * P := ⟨_, rfl⟩
            rw [← hS] at hXY ⊢
            have k1 : decide (S < Y) = false := decide_eq_false (by omega)
            have k2 : decide ((S : Int) < (Y : Int)) = false := decide_eq_false (by omega)
            have HXY := Lib.hid hXY
            clear hS hXY hiB hle HJ hlt2
            go_wp2_with fail
            refine (SZN.out _).mono ?_; rintro e w1 ⟨rfl, hw⟩
            replace hw := hw.symm; subst hw
            go_wp2_with fail
            go_roundw
            case rel => exact ⟨r + 1, hlt, by go_num, HNR2, HB⟩
            case measure => simp [RowKit.intOf]; omega
      · have d1 : decide ((r : Int) < 16) = false := decide_eq_false (by omega)
        have d1' : decide (r < 16) = false := decide_eq_false hlt
        have HRw := Lib.hid (HR.out.kept HB.out)
        have HMw := Lib.hid (HM.out.kept HB.out)
        have HCw : Hid (Chg (One rb) w wr) := HCX.out.more HB.out
        have HE : Hid (PlaceR n l id (o : Int) (0, 0, 0, 0) 5 l) := by
          refine .full o rfl (by have := HID.out.1; omega) HO.out HALL.out (.none fun r' h j hj => ?_)
          rw [← hP'.out]
          rw [← hB'.out] at hj
          exact HN.out r' (by omega) j hj
        obtain ⟨r0, r1, r2, r3, f0, f1, f2, f3⟩ := c4_of HRw.out
        obtain ⟨W4, e4, hb4, hc4⟩ := end4 HRw.out (.int .u32 0) (.int .i64 0) (.int .i64 0) (.int .i64 0)
        have HB4 := Lib.hid hb4
        have HC4 := Lib.hid hc4
        clear hb4 hc4
        go_wp2_with fail
        clear e4 r0 r1 r2 r3 f0 f1 f2 f3
        obtain ⟨z0, z1, z2, z3, _, _, _, _⟩ := c4_of HB4.out
        refine bodyPost_ret (v := .tuple #[.agg #[.int .u32 0, .int .i64 0, .int .i64 0, .int .i64 0], .int .i64 5]) (by simp [results, Try.results31, go_sem, z0, z1, z2, z3]) rfl ?_
        exact ⟨(0, 0, 0, 0), 5, l, lv, rfl, HE.out, HMw.out.chg HC4.out HNR.out.1 HNR.out.2, fun g hg => .inl hg, HCw.out.box HC4.out HGR.out⟩
end

section
open Go Go.RowKit Go.Lib
/-- What is asked of a cell that comes next: its row is the one, and none of the first j who run meets it. -/
def FitK (acc : List Ce) (row : Nat) (c : Ce) (j : Nat) : Prop := c.2.1 = row ∧ ∀ k (h : k < acc.length), k < j → ¬ meetC acc[k].2.2.1 acc[k].2.2.2 c.2.2.1 c.2.2.2
theorem fitK_all {acc : List Ce} {row : Nat} {c : Ce} : FitK acc row c acc.length ↔ (c.row = row ∧ accF acc c.st c.ord = true) := by
  constructor
  · rintro ⟨h1, h2⟩
    refine ⟨h1, accF_all.2 fun d hd => ?_⟩
    obtain ⟨k, hk, rfl⟩ := List.getElem_of_mem hd
    exact h2 k hk hk
  · rintro ⟨h1, h2⟩
    exact ⟨h1, fun k hk _ => accF_all.1 h2 _ (List.getElem_mem hk)⟩
theorem FitK.le {acc : List Ce} {row j k : Nat} {c : Ce} (h : FitK acc row c k) (hj : j ≤ k) : FitK acc row c j := ⟨h.1, fun i hi hij => h.2 i hi (by omega)⟩
theorem fitK_zero {acc : List Ce} {row : Nat} {c : Ce} : FitK acc row c 0 ↔ c.2.1 = row := ⟨fun h => h.1, fun h => ⟨h, fun k _ hk => absurd hk (Nat.not_lt_zero _)⟩⟩
theorem fitK_succ {acc : List Ce} {row j : Nat} {c : Ce} (hj : j < acc.length) : FitK acc row c (j + 1) ↔ FitK acc row c j ∧ ¬ meetC acc[j].2.2.1 acc[j].2.2.2 c.2.2.1 c.2.2.2 := by
  constructor
  · intro h
    exact ⟨h.le (by omega), h.2 j hj (by omega)⟩
  · rintro ⟨h1, h2⟩
    refine ⟨h1.1, fun k hk hkj => ?_⟩
    rcases Nat.lt_or_ge k j with h | h
    · exact h1.2 k hk h
    · obtain rfl : k = j := by omega
      exact h2
theorem runStep_fit {acc : List Ce} {row : Nat} {c : Ce} {β : Bool} (h : BIs β (FitK acc row c acc.length)) : runStep row acc c = if β = true then acc ++ [c] else acc := by
  unfold runStep
  by_cases hb : β = true
  · rw [if_pos hb, if_pos (fitK_all.1 (h.1 hb))]
  · rw [if_neg hb, if_neg (fun hh => hb (h.2 (fitK_all.2 hh)))]
theorem foldl_sub (row : Nat) {l : List Ce} {ok : Ce → Prop} : ∀ (ls acc : List Ce), (∀ c ∈ acc, ok c) → (∀ c ∈ ls, ok c) → ∀ c ∈ ls.foldl (runStep row) acc, ok c := fun ls acc h1 h2 c hc => by
  rcases fold_mem row ls acc hc with h | h
  · exact h1 c h
  · exact h2 c h.1
theorem ins_sort {zs : List Nat} {k id : Nat} (hk : k ≤ zs.length) (hs : zs.Pairwise (· ≤ ·)) (h1 : ∀ t (h : t < zs.length), t < k → zs[t] < id) (h2 : ∀ h : k < zs.length, ¬ zs[k] < id) : (zs.take k ++ id :: zs.drop k).Pairwise (· ≤ ·) := by
  rw [List.pairwise_append]
  refine ⟨hs.sublist (List.take_sublist _ _), List.pairwise_cons.2 ⟨fun x hx => ?_, hs.sublist (List.drop_sublist _ _)⟩, fun x hx y hy => ?_⟩
  · obtain ⟨j, hj, rfl⟩ := List.getElem_of_mem hx
    rw [List.length_drop] at hj
    rw [List.getElem_drop]
    have h3 := h2 (by omega)
    by_cases hj0 : j = 0
    · subst hj0; simp only [Nat.add_zero]; omega
    · have := List.pairwise_iff_getElem.1 hs k (k + j) (by omega) (by omega) (by omega)
      omega
  · obtain ⟨j, hj, rfl⟩ := List.getElem_of_mem hx
    rw [List.length_take] at hj
    rw [List.getElem_take]
    have h3 := h1 j (by omega) (by omega)
    rcases List.mem_cons.1 hy with rfl | hy
    · omega
    · obtain ⟨t, ht, rfl⟩ := List.getElem_of_mem hy
      rw [List.length_drop] at ht
      rw [List.getElem_drop]
      exact List.pairwise_iff_getElem.1 hs j (k + t) (by omega) (by omega) (by omega)
theorem ins_perm {zs : List Nat} {k id : Nat} : (zs.take k ++ id :: zs.drop k).Perm (id :: zs) := by
  have := List.perm_middle (a := id) (l₁ := zs.take k) (l₂ := zs.drop k)
  rwa [List.take_append_drop] at this
theorem uown_base {w : World} {b b' n : Nat} {v : Value} {xs : List Value} (h : w.ownsRow b 32 1 v n xs) (hb : b' ≤ b) : w.ownsRow b' 32 1 v n xs := by
  obtain ⟨h1, h2 | ⟨g, cap, cur, e, hg, rest⟩⟩ := h
  · exact ⟨h1, .inl h2⟩
  · exact ⟨h1, .inr ⟨g, cap, cur, e, by omega, rest⟩⟩
theorem uL_take (zs : List Nat) {k : Nat} (h : k < zs.length) : uL (zs.take (k + 1)) = uL (zs.take k) ++ uV zs[k] := by
  unfold uL; rw [List.take_add_one, List.getElem?_eq_getElem h, List.flatMap_append]; simp
set_option maxRecDepth 100000 in
set_option maxHeartbeats 8000000 in
/-- The first half: those who run, in the order in which they are found. Behind it the row 'out' is made. -/
theorem rruns_any (rb n a : Nat) (lv : Value) (l : List Ce) (w : World) (h : RMt w rb n a lv l) (hok : OkG n l) (hact : a < rowsG l ∨ a = 0) :
    Calls Try.prog 23 #[.pointer (some ⟨rb, 0, none⟩)] w fun e w' => (∃ v ys, e = .returned v ∧ ys.Perm (ids (runsG l a)) ∧ ys.Pairwise (· ≤ ·) ∧ URow w' v ys) ∧ Below w.heap.size w w' := by
  obtain ⟨i0, hi, hz0, hz1, hz2⟩ := info_parts Try.infoCe
  have HI := Lib.hid (And.intro hi (And.intro hz0 (And.intro hz1 hz2)))
  obtain ⟨i1, hi', hy0, hy1, hy2⟩ := info_parts Try.infoU32
  have HI1 := Lib.hid (And.intro hi' (And.intro hy0 (And.intro hy1 hy2)))
  have RW := Lib.hid (rrows_any rb n a n lv l w h hok)
  have HM := Lib.hid h
  have HOK := Lib.hid hok
  have hl := hok.len
  have hR16 := rowsG_16 hok
  obtain ⟨R, hR⟩ : ∃ R, R = rowsG l := ⟨_, rfl⟩
  have HR := Lib.hid hR
  rw [← hR] at RW hact hR16
  obtain ⟨N, hN⟩ : ∃ N, N = l.length := ⟨_, rfl⟩
  have HN := Lib.hid hN
  rw [← hN] at hl
  obtain ⟨va, vc, hv⟩ := own_slice h.row
  rw [← hN] at hv
  have HV := Lib.hid hv
  obtain ⟨B, hB⟩ : ∃ B, B = w.heap.size := ⟨_, rfl⟩
  have HBB := Lib.hid hB
  have ha16 : a ≤ 16 := by omega
  subst hv
  obtain ⟨Q, hQ⟩ : ∃ Q, Q = runsG l a := ⟨_, rfl⟩
  have HQ := Lib.hid hQ
  rw [← hQ]
  clear hQ
  have HCRl : Hid (CRow w (.slice va N vc) l) := HM.out.cr
  clear h hok hi hz0 hz1 hz2 hi' hy0 hy1 hy2 hR hN hB
  go_enter Try.func23, Try.ntmps23
  go_wp2_with fail
  refine RW.out.mono ?_; rintro e w1 ⟨rfl, hw⟩
  replace hw := hw.symm; subst hw
  clear RW
  go_wp2_with fail
  go_loopw [3, 5] (fun ov iv wr => ∃ (k : Nat) (ua : Option Addr) (uc M : Nat), k ≤ R ∧ iv = .int .i64 (k : Nat) ∧ ov = .slice ua M uc ∧ Hid (M = (runTo l a k).length) ∧ Hid (wr.ownsRow B 48 4 (.slice ua M uc) M ((runTo l a k).flatMap ceV)) ∧ Hid (Below w.heap.size w wr)) (fun _ iv _ => R - (RowKit.intOf iv).toNat)
  case atStart => exact ⟨0, none, 0, 0, Nat.zero_le _, rfl, rfl, rfl, World.ownsRow_nil _ _ _ _, Below.refl _ _⟩
  case round =>
    obtain ⟨k, ua, uc, M, hk, rfl, rfl, HMl, HO, HBr⟩ := hrel
    by_cases hlt : k < R
    · have d1 : decide ((k : Int) < (R : Int)) = true := decide_eq_true (by omega)
      have d1' : decide (k < R) = true := decide_eq_true hlt
      have haR : a < R := by omega
      have c2 := (HM.out.kept HBr.out).c2
      obtain ⟨rr, hrr⟩ : ∃ rr, rr = rowAt l a k := ⟨_, rfl⟩
      have hrr2 : (a + k < R ∧ rr = a + k) ∨ (R ≤ a + k ∧ rr + R = a + k) := by
        rw [hrr]; unfold rowAt; rw [← HR.out]
        by_cases h : a + k < R
        · exact .inl ⟨h, Nat.mod_eq_of_lt h⟩
        · refine .inr ⟨by omega, ?_⟩
          rw [Nat.mod_eq_sub_mod (by omega), Nat.mod_eq_of_lt (by omega)]; omega
      have HRR := Lib.hid hrr
      clear hrr
      go_upto_if 30 with fail
      go_cut [6] (fun v wx => v = .int .i64 (rr : Nat) ∧ Hid (wr = wx))
      case first =>
        rcases hrr2 with ⟨h1, h2⟩ | ⟨h1, h2⟩
        · have e1 : decide ((a : Int) + (k : Int) ≥ (R : Int)) = false := decide_eq_false (by omega)
          have e1' : decide ((R : Int) ≤ (a : Int) + (k : Int)) = false := decide_eq_false (by omega)
          have e1'' : decide (R ≤ a + k) = false := decide_eq_false (by omega)
          have HS : Hid ((a : Int) + (k : Int) = (rr : Int)) := by unfold Hid; omega
          have hb : (a : Int) + (k : Int) < (R : Int) := by omega
          clear h2
          go_wp2_with fail
          go_meet
          exact ⟨by rw [← HS.out], rfl⟩
        · have e1 : decide ((a : Int) + (k : Int) ≥ (R : Int)) = true := decide_eq_true (by omega)
          have e1' : decide ((R : Int) ≤ (a : Int) + (k : Int)) = true := decide_eq_true (by omega)
          have e1'' : decide (R ≤ a + k) = true := decide_eq_true (by omega)
          have HS : Hid ((a : Int) + (k : Int) - (R : Int) = (rr : Int)) := by unfold Hid; omega
          have hb : (R : Int) ≤ (a : Int) + (k : Int) := by omega
          clear h2
          go_wp2_with fail
          go_meet
          exact ⟨by rw [← HS.out], rfl⟩
      case rest =>
        obtain ⟨rfl, hw⟩ := hcut
        obtain rfl := hw.out
        have hrR : rr ≤ 16 := by omega
        clear hw hrr2 c2
        have HLT := Lib.hid (runTo_len l a k)
        have HSUB : Hid (∀ c ∈ runTo l a k, c ∈ l) := fun c hc => runTo_sub l a k hc
        obtain ⟨acc0, hacc0⟩ : ∃ x, x = runTo l a k := ⟨_, rfl⟩
        have HACC0 := Lib.hid hacc0
        rw [← hacc0] at HMl HO HLT HSUB
        clear hacc0
        go_wp2_with fail
        go_loopw [3, 7] (fun ov iv wr => ∃ (i : Nat) (ua : Option Addr) (uc M : Nat), i ≤ N ∧ iv = .int .i64 (i : Nat) ∧ ov = .slice ua M uc ∧ Hid (M = ((l.take i).foldl (runStep rr) acc0).length) ∧ Hid (wr.ownsRow B 48 4 (.slice ua M uc) M (((l.take i).foldl (runStep rr) acc0).flatMap ceV)) ∧ Hid (Below w.heap.size w wr)) (fun _ iv _ => N - (RowKit.intOf iv).toNat)
        case atStart => exact ⟨0, ua, uc, M, Nat.zero_le _, rfl, rfl, by simpa using HMl, by simpa using HO, HBr⟩
        case round =>
          clear HMl HO HBr
          obtain ⟨i, ua, uc, M, hi, rfl, rfl, HMl, HO, HBr⟩ := hrel
          have c1 := (HM.out.kept HBr.out).c1
          by_cases hlti : i < N
          · have e1 : decide ((i : Int) < (N : Int)) = true := decide_eq_true (by omega)
            have e1' : decide (i < N) = true := decide_eq_true hlti
            have hiN : (i : Int) < (N : Int) := by omega
            have hix : i < l.length := by rw [← HN.out]; exact hlti
            obtain ⟨acc, hacc⟩ : ∃ x, x = (l.take i).foldl (runStep rr) acc0 := ⟨_, rfl⟩
            have HST : Hid ((l.take (i + 1)).foldl (runStep rr) acc0 = runStep rr acc l[i]) := by unfold Hid; rw [foldl_take hix, hacc]
            have HAO : Hid (∀ c ∈ acc, CeOk n c) := fun c hc => by
              rw [hacc] at hc
              rcases fold_mem rr _ _ hc with h | h
              · exact HOK.out.ce c (HSUB.out c h)
              · exact HOK.out.ce c (List.mem_of_mem_take h.1)
            have hM27 : M ≤ 278528 := by
              have h1 := fold_len rr (l.take i) acc0
              have h2 := HLT.out
              have h3 : (l.take i).length ≤ 16384 := by rw [List.length_take]; have := HN.out; omega
              have h4 : k * l.length ≤ 16 * 16384 := Nat.mul_le_mul (by omega) (by have := HN.out; omega)
              have := HMl.out
              omega
            rw [← hacc] at HMl HO
            clear hacc
            have hco := (HOK.out.ce _ (List.getElem_mem hix)).ord
            have hce := (HOK.out.ce _ (List.getElem_mem hix)).en
            have hn10 := HOK.out.n10
            have h2n : 2 ^ n ≤ 1024 := by have := Nat.pow_le_pow_right (n := 2) (by omega) hn10; simpa using this
            have hx2 : l[i].2.2.1 ≤ 4096 := by
              have h2 : l[i].2.2.1 ≤ l[i].en := Nat.le_of_succ_le (en_st _)
              omega
            cases va with
            | none => have := crow_none HCRl.out; rw [this] at hix; simp at hix
            | some A =>
            obtain ⟨bb, off, rfl⟩ := crow_some HCRl.out (by omega)
            obtain ⟨y0, y1, y2, y3⟩ := HCRl.out.cells hix HBr.out
            obtain ⟨c, hc⟩ : ∃ c, c = l[i] := ⟨_, rfl⟩
            rw [← hc] at y0 y1 y2 y3 hco hx2 HST
            clear hc hce hix
            obtain ⟨x0, x1, x2, x3⟩ := c
            dsimp only [Ce.ord] at y0 y1 y2 y3 hco hx2
            have RB : Hid (CRow wr (.slice ua M uc) acc) := by
              have : COwn wr B (.slice ua M uc) acc := by show wr.ownsRow B 48 4 _ acc.length _; rw [← HMl.out]; exact HO.out
              have := crow_of_own this
              exact this
            obtain ⟨β0, hβ0⟩ : ∃ β, β = decide (x1 = rr) := ⟨_, rfl⟩
            have q0 : ((x1 : Int) == (rr : Int)) = β0 := by
              rw [hβ0]; by_cases h : x1 = rr
              · rw [decide_eq_true h]; simp; omega
              · rw [decide_eq_false h]; simp; omega
            have q0' : (x1 == rr) = β0 := by
              rw [hβ0]; by_cases h : x1 = rr
              · rw [decide_eq_true h]; simp; omega
              · rw [decide_eq_false h]; simp; omega
            have HB0 : Hid (BIs β0 (FitK acc rr (x0, x1, x2, x3) 0)) := by
              unfold Hid BIs; rw [fitK_zero, hβ0, decide_eq_true_eq]
            clear hβ0
            obtain ⟨gc, hgc⟩ : ∃ g, g = wr.heap.size := ⟨_, rfl⟩
            obtain ⟨Xc, hXc⟩ : ∃ x, x = wr.alloc (.cells #[.int .u32 (x0 : Nat), .int .i64 (x1 : Nat), .int .i64 (x2 : Nat), .int .i64 (x3 : Nat)] 48) := ⟨_, rfl⟩
            have hbc : Below wr.heap.size wr Xc := by rw [hXc]; exact (Below.refl _ _).alloc (Nat.le_refl _) _
            have HBXc : Hid (Below w.heap.size w Xc) := below_next hbc HBr.out
            have HC : Hid (Blk Xc gc #[.int .u32 (x0 : Nat), .int .i64 (x1 : Nat), .int .i64 (x2 : Nat), .int .i64 (x3 : Nat)] 48) := by unfold Hid; rw [hXc, hgc]; exact Blk.new wr _ _
            have HOX : Hid (Xc.ownsRow B 48 4 (.slice ua M uc) M (acc.flatMap ceV)) := own_older HO.out hbc
            have RBX : Hid (CRow Xc (.slice ua M uc) acc) := RowG.kept RB.out hbc
            go_upto_region 13 with fail
            rw [← hgc, ← hXc]
            clear hgc hXc hbc HO RB y0 y1 y2 y3 c1
            obtain ⟨b0, b1, b2, b3, _, _, _, _⟩ := c4_of HC.out
            go_wp2_with fail
            clear q0 q0' b0 b1 b2 b3
            go_loopw [9, 10] (fun bv jv wr => ∃ (j : Nat) (β : Bool), j ≤ M ∧ jv = .int .i64 (j : Nat) ∧ bv = .bool β ∧ Hid (BIs β (FitK acc rr (x0, x1, x2, x3) j)) ∧ Hid (Below Xc.heap.size Xc wr)) (fun _ jv _ => M - (RowKit.intOf jv).toNat)
            case atStart => exact ⟨0, β0, Nat.zero_le _, rfl, rfl, HB0.out, Below.refl _ _⟩
            case round =>
              clear HBr HB0
              obtain ⟨j, β, hj, rfl, rfl, HF, HBr⟩ := hrel
              by_cases hjM : j < M
              · have f1 : decide ((j : Int) < (M : Int)) = true := decide_eq_true (by omega)
                have f1' : decide (j < M) = true := decide_eq_true hjM
                cases β with
                | true =>
                  have hjx : j < acc.length := by rw [← HMl.out]; exact hjM
                  have hjMi : (j : Int) < (M : Int) := by omega
                  cases ua with
                  | none => have := crow_none RBX.out; rw [this] at hjx; simp at hjx
                  | some U =>
                  obtain ⟨ub, uo, rfl⟩ := crow_some RBX.out (by omega)
                  have z2 := (RBX.out.cells hjx HBr.out).2.2.1
                  have z3 := (RBX.out.cells hjx HBr.out).2.2.2
                  have b2 := (c4_of (HC.out.kept HBr.out)).c2
                  have b3 := (c4_of (HC.out.kept HBr.out)).c3
                  have hao := HAO.out _ (List.getElem_mem hjx)
                  have hzo := hao.ord
                  have hze := hao.en
                  have hz2 : acc[j].2.2.1 ≤ 4096 := by
                    have h2 : acc[j].2.2.1 ≤ acc[j].en := Nat.le_of_succ_le (en_st _)
                    omega
                  have HSU := Lib.hid (fitK_succ (row := rr) (c := (x0, x1, x2, x3)) hjx)
                  obtain ⟨p, hp⟩ : ∃ p, p = acc[j] := ⟨_, rfl⟩
                  rw [← hp] at z2 z3 hzo hz2 HSU
                  clear hp hao hze hjx
                  obtain ⟨p0, p1, p2, p3⟩ := p
                  dsimp only [Ce.ord] at z2 z3 hzo hz2 HSU
                  have MT : Hid (∀ wq, Calls Try.prog 25 #[.agg #[.int .i64 (p2 : Nat), .int .i64 (p3 : Nat)], .agg #[.int .i64 (x2 : Nat), .int .i64 (x3 : Nat)]] wq fun e w' => e = .returned (.bool (decide (meetC p2 p3 x2 x3))) ∧ Below wq.heap.size wq w') := fun wq => meet_any p2 p3 x2 x3 (by omega) (by omega) hz2 hx2 wq
                  obtain ⟨ε, hε⟩ : ∃ ε, ε = decide (meetC p2 p3 x2 x3) := ⟨_, rfl⟩
                  have HF2 : Hid (BIs (!ε) (FitK acc rr (x0, x1, x2, x3) (j + 1))) := by
                    unfold Hid BIs; rw [HSU.out, hε]
                    simp only [Bool.not_eq_true', decide_eq_false_iff_not]
                    exact ⟨fun h => ⟨HF.out.t, h⟩, fun h => h.2⟩
                  rw [← hε] at MT
                  clear hε HSU HF
                  go_wp2_with fail
                  go_region_held3 (fun w' => w'.cell? ⟨ub, uo + j * 4 + 2, none⟩ = some (.int .i64 (p2 : Nat)) ∧ w'.cell? ⟨ub, uo + j * 4 + 3, none⟩ = some (.int .i64 (p3 : Nat)) ∧ w'.cell? ⟨gc, 2, none⟩ = some (.int .i64 (x2 : Nat)) ∧ w'.cell? ⟨gc, 3, none⟩ = some (.int .i64 (x3 : Nat)) ∧ Below Xc.heap.size Xc w')
                    (first
                      | exact ⟨z2, z3, b2, b3, HBr.out.drew⟩
                      | (rcases ‹_ ∧ _ ∧ _ ∧ _ ∧ Below Xc.heap.size Xc _› with ⟨g0, g1, g2, g3, g4⟩; exact ⟨cell_next (by assumption) g0, cell_next (by assumption) g1, cell_next (by assumption) g2, cell_next (by assumption) g3, below_next (by assumption) g4⟩))
                    (first
                      | (go_at_call 25; ((with_reducible refine (MT.out _).mono ?_); rintro e wm ⟨rfl, bm⟩)))
                  all_goals (have HB5 := (‹_ ∧ _ ∧ _ ∧ _ ∧ Below Xc.heap.size Xc _›).2.2.2.2)
                  all_goals (go_wp2_with fail)
                  all_goals go_roundw
                  case rel => exact ⟨j + 1, !ε, hjM, by go_num, rfl, HF2, HB5⟩
                  case measure => simp [RowKit.intOf]; omega
                | false =>
                  have HFF : Hid (BIs false (FitK acc rr (x0, x1, x2, x3) acc.length)) := BIs.no fun h => HF.out.f (h.le (by rw [← HMl.out]; omega))
                  have HRS := runStep_fit HFF.out
                  rw [if_neg (by simp)] at HRS
                  have HM2 : Hid (M = ((l.take (i + 1)).foldl (runStep rr) acc0).length) := by unfold Hid; rw [HST.out, HRS]; exact HMl.out
                  have HO2 : Hid (wr.ownsRow B 48 4 (.slice ua M uc) M (((l.take (i + 1)).foldl (runStep rr) acc0).flatMap ceV)) := by unfold Hid; rw [HST.out, HRS]; exact own_older HOX.out HBr.out
                  have HB2 : Hid (Below w.heap.size w wr) := below_next HBr.out HBXc.out
                  clear HRS HST HMl HFF HF
                  go_wp2_with fail
                  go_roundw
                  case rel => exact ⟨i + 1, ua, uc, M, hlti, by go_num, rfl, HM2, HO2, HB2⟩
                  case measure => simp [RowKit.intOf]; omega
              · have f1 : decide ((j : Int) < (M : Int)) = false := decide_eq_false (by omega)
                have f1' : decide (j < M) = false := decide_eq_false hjM
                have HFF : Hid (BIs β (FitK acc rr (x0, x1, x2, x3) acc.length)) := by
                  have := HF.out
                  rw [show j = acc.length by rw [← HMl.out]; omega] at this
                  exact this
                cases β with
                | true =>
                  have HRS := runStep_fit HFF.out
                  rw [if_pos rfl] at HRS
                  have HM2 : Hid (M + 1 = ((l.take (i + 1)).foldl (runStep rr) acc0).length) := by unfold Hid; rw [HST.out, HRS, List.length_append, ← HMl.out]; rfl
                  have HFL : Hid (((l.take (i + 1)).foldl (runStep rr) acc0).flatMap ceV = acc.flatMap ceV ++ ceV (x0, x1, x2, x3)) := by unfold Hid; rw [HST.out, HRS, List.flatMap_append]; simp
                  have HO1 : Hid (wr.ownsRow B 48 4 (.slice ua M uc) M (acc.flatMap ceV)) := own_older HOX.out HBr.out
                  have HBS : Hid (B ≤ wr.heap.size) := by unfold Hid; rw [HBB.out]; exact (below_next HBr.out HBXc.out).size
                  have HNX : Hid (∀ v8 w8 o, w8.ownsRow B 48 4 v8 (M + 1) (acc.flatMap ceV ++ ceV (x0, x1, x2, x3)) → (wr.alloc o).grownBy w8 (Value.slice ua M uc).ownBlock → Hid (w8.ownsRow B 48 4 v8 (M + 1) (((l.take (i + 1)).foldl (runStep rr) acc0).flatMap ceV)) ∧ Hid (Below w.heap.size w w8)) := fun v8 w8 o h1 h2 => by
                    refine ⟨by unfold Hid; rw [HFL.out]; exact h1, ?_⟩
                    have g0 : Below w.heap.size w wr := below_next HBr.out HBXc.out
                    have g1 : Below w.heap.size w (wr.alloc o) := g0.alloc g0.size _
                    refine g1.trans ((Chg.of_grown (own := fun g => (Value.slice ua M uc).ownBlock = some g) h2 fun g e => e).to_below g1.size fun g hg e => ?_)
                    have := (HO1.out.lt g e).1
                    have := HBB.out
                    omega
                  obtain ⟨b0, b1, b2, b3, _, _, _, _⟩ := c4_of (HC.out.kept HBr.out)
                  obtain ⟨hi, hz0, hz1, hz2⟩ := HI.out
                  clear HRS HST HMl HFF HF HFL
                  go_wp2_with (first | (at_builtin; refine wpList_app rfl _ _ 35 rfl B 48 i0 _ 4 32 Try.underlying35 hi hz0 hz1 hz2 rfl (by decide) _ M (acc.flatMap ceV) rfl (HO1.out.alloc _) _ 1 (ceV (x0, x1, x2, x3)) rfl (src_ce (x := (x0, x1, x2, x3)) (Blk.new _ _ _)) (ceV_one1 _) (by unfold maxLen; omega) (by omega) (by have := HBS.out; simp; omega) ?_; intro v8 w8 hown8 hgrow8 hat8; obtain ⟨HO8, HB8⟩ := HNX.out v8 w8 _ hown8 hgrow8; clear hown8 hgrow8 hat8; obtain ⟨a8, c8, rfl⟩ := own_slice HO8.out))
                  go_roundw
                  case rel => exact ⟨i + 1, a8, c8, M + 1, hlti, by go_num, rfl, HM2, HO8, HB8⟩
                  case measure => simp [RowKit.intOf]; omega
                | false =>
                  have HRS := runStep_fit HFF.out
                  rw [if_neg (by simp)] at HRS
                  have HM2 : Hid (M = ((l.take (i + 1)).foldl (runStep rr) acc0).length) := by unfold Hid; rw [HST.out, HRS]; exact HMl.out
                  have HO2 : Hid (wr.ownsRow B 48 4 (.slice ua M uc) M (((l.take (i + 1)).foldl (runStep rr) acc0).flatMap ceV)) := by unfold Hid; rw [HST.out, HRS]; exact own_older HOX.out HBr.out
                  have HB2 : Hid (Below w.heap.size w wr) := below_next HBr.out HBXc.out
                  clear HRS HST HMl HFF HF
                  go_wp2_with fail
                  go_roundw
                  case rel => exact ⟨i + 1, ua, uc, M, hlti, by go_num, rfl, HM2, HO2, HB2⟩
                  case measure => simp [RowKit.intOf]; omega
          · have e1 : decide ((i : Int) < (N : Int)) = false := decide_eq_false (by omega)
            have e1' : decide (i < N) = false := decide_eq_false hlti
            have hil : l.take i = l := List.take_of_length_le (by have := HN.out; omega)
            have HRT : Hid ((l.take i).foldl (runStep rr) acc0 = runTo l a (k + 1)) := by
              unfold Hid; rw [hil, HACC0.out, HRR.out]; rfl
            rw [HRT.out] at HMl HO
            clear hil HRT
            go_wp2_with fail
            go_roundw
            case rel => exact ⟨k + 1, ua, uc, M, hlt, by go_num, rfl, HMl, HO, HBr⟩
            case measure => simp [RowKit.intOf]; omega
    · have d1 : decide ((k : Int) < (R : Int)) = false := decide_eq_false (by omega)
      have d1' : decide (k < R) = false := decide_eq_false hlt
      have hRun : runTo l a k = runsG l a := by unfold runsG; rw [← HR.out, show k = R by omega]
      have hM26 : M ≤ 262144 := by rw [HMl.out, hRun]; exact runs_len HOK.out
      rw [hRun] at HMl HO
      rw [← HQ.out] at HMl HO
      have RQ : Hid (CRow wr (.slice ua M uc) Q) := by
        have : COwn wr B (.slice ua M uc) Q := by show wr.ownsRow B 48 4 _ Q.length _; rw [← HMl.out]; exact HO.out
        have := crow_of_own this
        exact this
      obtain ⟨Y, hY⟩ : ∃ y, y = wr := ⟨_, rfl⟩
      subst hY
      obtain ⟨B2, hB2⟩ : ∃ b, b = Y.heap.size := ⟨_, rfl⟩
      have HB2 := Lib.hid hB2
      clear hRun hB2 HO
      go_wp2_with fail
      go_loopw [11, 12] (fun ov iv wr => ∃ (i : Nat) (za : Option Addr) (zc : Nat) (zs : List Nat), i ≤ M ∧ iv = .int .i64 (i : Nat) ∧ ov = .slice za i zc ∧ Hid (zs.length = i) ∧ Hid (zs.Perm (ids (Q.take i))) ∧ Hid (zs.Pairwise (· ≤ ·)) ∧ Hid (wr.ownsRow B2 32 1 (.slice za i zc) i (uL zs)) ∧ Hid (Below Y.heap.size Y wr)) (fun _ iv _ => M - (RowKit.intOf iv).toNat)
      case atStart => exact ⟨0, none, 0, [], Nat.zero_le _, rfl, rfl, rfl, by simp [Hid, ids], List.Pairwise.nil, World.ownsRow_nil _ _ _ _, Below.refl _ _⟩
      case round =>
        obtain ⟨i, za, zc, zs, hiM, rfl, rfl, HZL, HZP, HZS, HO, HB0⟩ := hrel
        by_cases hlti : i < M
        · have e1 : decide ((i : Int) < (M : Int)) = true := decide_eq_true (by omega)
          have e1' : decide (i < M) = true := decide_eq_true hlti
          have hiMi : (i : Int) < (M : Int) := by omega
          have hix : i < Q.length := by rw [← HMl.out]; exact hlti
          cases ua with
          | none => have := crow_none RQ.out; rw [this] at hix; simp at hix
          | some U =>
          obtain ⟨ub, uo, rfl⟩ := crow_some RQ.out (by omega)
          have HID : Hid (∀ w', Below Y.heap.size Y w' → w'.cell? ⟨ub, uo + i * 4, none⟩ = some (.int .u32 (Q[i].1 : Int))) := fun w' hb => (RQ.out.cells hix hb).1
          have HTK : Hid (ids (Q.take (i + 1)) = ids (Q.take i) ++ [Q[i].1]) := by
            unfold Hid ids; rw [List.take_add_one, List.getElem?_eq_getElem hix, List.map_append]; rfl
          obtain ⟨id, hid⟩ : ∃ x, x = Q[i].1 := ⟨_, rfl⟩
          rw [← hid] at HID HTK
          clear hid hix
          have hzl26 : zs.length ≤ 262144 := by rw [HZL.out]; omega
          obtain ⟨Z, hZ⟩ : ∃ z, z = wr := ⟨_, rfl⟩
          subst hZ
          obtain ⟨B3, hB3⟩ : ∃ b, b = Z.heap.size := ⟨_, rfl⟩
          have HB3 := Lib.hid hB3
          have hB23 : B2 ≤ B3 := by rw [hB3, HB2.out]; exact HB0.out.size
          have HROW : Hid (UOwn Z B2 (.slice za i zc) zs) := by unfold Hid; show Z.ownsRow B2 32 1 _ zs.length _; rw [HZL.out]; exact HO.out
          have RZ : Hid (URow Z (.slice za i zc) zs) := urow_of_own HROW.out
          obtain ⟨hzc1, hzc2⟩ : i ≤ zc ∧ ((za = none ∧ i = 0 ∧ zc = 0) ∨ ∃ g, za = some ⟨g, 0, none⟩) := by
            obtain ⟨_, ⟨e, h0⟩ | ⟨g, cap, cur, e, _, _, h1, h2, _⟩⟩ := HO.out
            · injection e with e1 e2 e3
              exact ⟨by omega, .inl ⟨e1, e2, e3⟩⟩
            · injection e with e1 e2 e3
              exact ⟨by omega, .inr ⟨g, e1⟩⟩
          have HZC := Lib.hid hzc2
          have HSR : Hid (Src Z 1 (.slice za i zc) i (uL zs)) := by have := src_u2 RZ.out; rw [HZL.out] at this; exact this
          clear hB3 HO hzc2
          go_wp2_with fail
          go_loopw [13, 14] (fun pv jv wr => ∃ (j : Nat) (pa : Option Addr) (pc : Nat), j ≤ i ∧ jv = .int .i64 (j : Nat) ∧ pv = .slice pa j pc ∧ Hid (∀ t (h : t < zs.length), t < j → zs[t] < id) ∧ Hid (wr.ownsRow B3 32 1 (.slice pa j pc) j (uL (zs.take j))) ∧ Hid (Below Z.heap.size Z wr)) (fun _ jv _ => i - (RowKit.intOf jv).toNat)
          case atStart => exact ⟨0, none, 0, Nat.zero_le _, rfl, rfl, fun t _ h => absurd h (Nat.not_lt_zero _), World.ownsRow_nil _ _ _ _, Below.refl _ _⟩
          case round =>
            obtain ⟨j, pa, pc, hji, rfl, rfl, HF, HP, HBr⟩ := hrel
            go_upto_region 26 with fail
            go_cut [98] from 83 to 98 (fun cv wx => ∃ β : Bool, cv = .bool β ∧ Hid (BIs β (∃ h : j < zs.length, zs[j] < id)) ∧ Hid (∃ q, wx = wr.drewN q))
            case first =>
              have y0 := HID.out _ (below_next HBr.out HB0.out)
              by_cases hlj : j < i
              · have f1 : decide ((j : Int) < (i : Int)) = true := decide_eq_true (by omega)
                have f1' : decide (j < i) = true := decide_eq_true hlj
                have hjii : (j : Int) < (i : Int) := by omega
                have hjx : j < zs.length := by rw [HZL.out]; exact hlj
                cases za with
                | none => have := urow_none RZ.out; rw [this] at hjx; simp at hjx
                | some V =>
                obtain ⟨zb, zo, rfl⟩ := urow_some RZ.out (by omega)
                have z0 := RZ.out.cell hjx HBr.out
                have HEX : Hid ((∃ h : j < zs.length, zs[j] < id) ↔ zs[j] < id) := ⟨fun ⟨_, h⟩ => h, fun h => ⟨hjx, h⟩⟩
                obtain ⟨z, hz⟩ : ∃ z, z = zs[j] := ⟨_, rfl⟩
                rw [← hz] at z0
                have HT : Hid (BIs (decide (z < id)) (∃ h : j < zs.length, zs[j] < id)) := by unfold Hid BIs; rw [HEX.out, decide_eq_true_eq, hz]
                obtain ⟨β, hβ⟩ : ∃ β, β = decide (z < id) := ⟨_, rfl⟩
                have q3 : decide ((z : Int) < (id : Int)) = β := by rw [hβ]; exact decide_eq_decide.2 (by omega)
                have q3' : decide (z < id) = β := hβ.symm
                rw [← hβ] at HT
                clear HEX hβ hz hjx HF HP
                go_wp2_with fail
                go_quiet (fail)
                go_wp2_with fail
                go_meet
                exact ⟨_, rfl, HT.out, ⟨_, rfl⟩⟩
              · have f1 : decide ((j : Int) < (i : Int)) = false := decide_eq_false (by omega)
                have f1' : decide (j < i) = false := decide_eq_false hlj
                have HT : Hid (BIs false (∃ h : j < zs.length, zs[j] < id)) := BIs.no fun ⟨h, _⟩ => by have := HZL.out; omega
                clear HF HP
                go_wp2_with fail
                go_quiet (fail)
                go_wp2_with fail
                go_meet
                exact ⟨_, rfl, HT.out, ⟨_, rfl⟩⟩
            case rest =>
              obtain ⟨β, rfl, HT, hw⟩ := hcut
              obtain ⟨q, hq⟩ := hw.out
              have HBc : Hid (Below Z.heap.size Z wc) := by unfold Hid; rw [hq]; exact below_drewN HBr.out q
              have HPc : Hid (wc.ownsRow B3 32 1 (.slice pa j pc) j (uL (zs.take j))) := by unfold Hid; rw [hq]; exact own_older HP.out (below_drewN (Below.refl _ _) q)
              clear hw hq HBr HP
              have HBS : Hid (B3 ≤ wc.heap.size) := by unfold Hid; rw [HB3.out]; exact HBc.out.size
              have HGR : Hid (∀ w8 o, (wc.alloc o).grownBy w8 (Value.slice pa j pc).ownBlock → Below Z.heap.size Z w8) := fun w8 o h2 => by
                have g1 : Below Z.heap.size Z (wc.alloc o) := HBc.out.alloc (HBc.out.size) _
                refine g1.trans ((Chg.of_grown (own := fun g => (Value.slice pa j pc).ownBlock = some g) h2 fun g e => e).to_below g1.size fun g hg e => ?_)
                have := (HPc.out.lt g e).1
                have := HB3.out
                omega
              obtain ⟨hi', hy0, hy1, hy2⟩ := HI1.out
              cases β with
              | true =>
                obtain ⟨hjx, hlt⟩ := HT.out.t
                have hlj : j < i := by rw [← HZL.out]; exact hjx
                have hjii : (j : Int) < (i : Int) := by omega
                have HF2 : Hid (∀ t (h : t < zs.length), t < j + 1 → zs[t] < id) := fun t h ht => by
                  rcases Nat.lt_or_ge t j with h2 | h2
                  · exact HF.out t h h2
                  · obtain rfl : t = j := by omega
                    exact hlt
                cases za with
                | none => have := urow_none RZ.out; rw [this] at hjx; simp at hjx
                | some V =>
                obtain ⟨zb, zo, rfl⟩ := urow_some RZ.out (by omega)
                have z0 := RZ.out.cell hjx HBc.out
                have HUT := Lib.hid (uL_take zs hjx)
                obtain ⟨z, hz⟩ : ∃ z, z = zs[j] := ⟨_, rfl⟩
                rw [← hz] at z0 HUT
                have HNX : Hid (∀ v8 w8 o, w8.ownsRow B3 32 1 v8 (j + 1) (uL (zs.take j) ++ uV z) → (wc.alloc o).grownBy w8 (Value.slice pa j pc).ownBlock → Hid (w8.ownsRow B3 32 1 v8 (j + 1) (uL (zs.take (j + 1)))) ∧ Hid (Below Z.heap.size Z w8)) := fun v8 w8 o h1 h2 =>
                  ⟨by unfold Hid; rw [HUT.out]; exact h1, HGR.out w8 o h2⟩
                clear hz hlt HT hjx HF HUT HGR
                go_wp2_with (first | (at_builtin; refine wpList_app rfl _ _ 37 rfl B3 32 i1 _ 1 4 Try.underlying37 hi' hy0 hy1 hy2 rfl (by decide) _ j (uL (zs.take j)) rfl (HPc.out.alloc _) _ 1 (uV z) rfl (src_u (Blk.new _ _ _)) (uV_one _) (by unfold maxLen; omega) (by omega) (by have := HBS.out; simp; omega) ?_; intro v8 w8 hown8 hgrow8 hat8; obtain ⟨HO8, HB8⟩ := HNX.out v8 w8 _ hown8 hgrow8; clear hown8 hgrow8 hat8; obtain ⟨a8, c8, rfl⟩ := own_slice HO8.out))
                go_roundw
                case rel => exact ⟨j + 1, a8, c8, hlj, by go_num, rfl, HF2, HO8, HB8⟩
                case measure => simp [RowKit.intOf]; omega
              | false =>
                have hNo : ∀ h : j < zs.length, ¬ zs[j] < id := fun h hl => HT.out.f ⟨h, hl⟩
                have hjz : j ≤ zs.length := by rw [HZL.out]; exact hji
                have HSO := Lib.hid (ins_sort hjz HZS.out HF.out hNo)
                have HPE : Hid ((zs.take j ++ id :: zs.drop j).Perm (ids (Q.take (i + 1)))) := by
                  unfold Hid
                  rw [HTK.out]
                  exact ins_perm.trans (((List.Perm.cons id HZP.out)).trans (List.perm_append_comm (l₁ := [id])))
                have HLE : Hid ((zs.take j ++ id :: zs.drop j).length = i + 1) := by
                  unfold Hid
                  rw [List.length_append, List.length_cons, List.length_take, List.length_drop, HZL.out]; omega
                have HUE : Hid (uL (zs.take j ++ id :: zs.drop j) = (uL (zs.take j) ++ uV id) ++ uL (zs.drop j)) := by
                  unfold Hid uL; rw [List.flatMap_append, List.flatMap_cons, List.append_assoc]
                have y0 := HID.out _ (below_next HBc.out HB0.out)
                have HNX : Hid (∀ v8 w8 o, w8.ownsRow B3 32 1 v8 (j + 1) (uL (zs.take j) ++ uV id) → (wc.alloc o).grownBy w8 (Value.slice pa j pc).ownBlock → Hid (w8.ownsRow B3 32 1 v8 (j + 1) (uL (zs.take j) ++ uV id)) ∧ Hid (Below Z.heap.size Z w8)) := fun v8 w8 o h1 h2 =>
                  ⟨h1, HGR.out w8 o h2⟩
                clear HF HT hNo
                go_upto_region 30 with (first | (at_builtin; refine wpList_app rfl _ _ 37 rfl B3 32 i1 _ 1 4 Try.underlying37 hi' hy0 hy1 hy2 rfl (by decide) _ j (uL (zs.take j)) rfl (HPc.out.alloc _) _ 1 (uV id) rfl (src_u (Blk.new _ _ _)) (uV_one _) (by unfold maxLen; omega) (by omega) (by have := HBS.out; simp; omega) ?_; intro v8 w8 hown8 hgrow8 hat8; obtain ⟨HO8, HB8⟩ := HNX.out v8 w8 _ hown8 hgrow8; clear hown8 hgrow8 hat8; obtain ⟨a8, c8, rfl⟩ := own_slice HO8.out))
                have HB8S : Hid (B3 ≤ w8.heap.size) := by unfold Hid; rw [HB3.out]; exact HB8.out.size
                have HSR8 : Hid (Src w8 1 (.slice za i zc) i (uL zs)) := HSR.out.kept HB8.out
                clear HNX HPc HBc HBS HGR y0
                have hjii : (j : Int) ≤ (i : Int) := by omega
                have HEND : Hid (∀ v9 w9, w9.ownsRow B3 32 1 v9 (j + 1 + (i - j)) ((uL (zs.take j) ++ uV id) ++ uL (zs.drop j)) → w8.grownBy w9 (Value.slice a8 (j + 1) c8).ownBlock → ∃ xa xc, v9 = .slice xa (i + 1) xc ∧ Hid (w9.ownsRow B2 32 1 (.slice xa (i + 1) xc) (i + 1) (uL (zs.take j ++ id :: zs.drop j))) ∧ Hid (Below Y.heap.size Y w9)) := fun v9 w9 h1 h2 => by
                  have g2 : Below Z.heap.size Z w9 := HB8.out.trans ((Chg.of_grown (own := fun g => (Value.slice a8 (j + 1) c8).ownBlock = some g) h2 fun g e => e).to_below HB8.out.size fun g hg e => by
                    have := (HO8.out.lt g e).1
                    have := HB3.out
                    omega)
                  rw [show j + 1 + (i - j) = i + 1 by omega, ← HUE.out] at h1
                  obtain ⟨xa, xc, rfl⟩ := own_slice h1
                  exact ⟨xa, xc, rfl, uown_base h1 hB23, below_next g2 HB0.out⟩
                have HDL : Hid ((uL (zs.drop j)).length = i - j) := by unfold Hid; rw [uL_len, List.length_drop, HZL.out]
                rcases HZC.out with ⟨rfl, hi0, rfl⟩ | ⟨g, rfl⟩
                · obtain rfl : i = 0 := hi0
                  obtain rfl : j = 0 := by omega
                  have HSRC : Hid (Src w8 1 (.slice none 0 0) 0 (uL (zs.drop 0))) := ⟨by rw [HDL.out], .inl ⟨0, rfl, rfl⟩⟩
                  clear hjii
                  go_wp2_with (first | (at_builtin; refine wpList_app rfl _ _ 37 rfl B3 32 i1 _ 1 4 Try.underlying37 hi' hy0 hy1 hy2 rfl (by decide) _ (0 + 1) (uL (zs.take 0) ++ uV id) rfl HO8.out _ 0 (uL (zs.drop 0)) rfl HSRC.out (uL_one _) (by unfold maxLen; omega) (by omega) HB8S.out ?_; intro v9 w9 hown9 hgrow9 hat9; obtain ⟨xa, xc, rfl, HO9, HB9⟩ := HEND.out v9 w9 hown9 hgrow9; clear hown9 hgrow9 hat9))
                  go_roundw
                  case rel => exact ⟨_, xa, xc, _, hlti, by first | rfl | go_num, rfl, HLE, HPE, HSO, HO9, HB9⟩
                  case measure => simp [RowKit.intOf]; omega
                · by_cases hkc : j < zc
                  · have e2 : decide ((j : Int) < (zc : Int)) = true := decide_eq_true (by omega)
                    have HSRC : Hid (Src w8 1 (.slice (some ⟨g, j, none⟩) (i - j) (zc - j)) (i - j) (uL (zs.drop j))) := by
                      refine ⟨by rw [HDL.out]; omega, .inr ⟨⟨g, j, none⟩, zc - j, rfl, fun t u ht => ?_⟩⟩
                      obtain ⟨_, ⟨c, e, _⟩ | ⟨ad, c, e, hc⟩⟩ := HSR8.out
                      · cases e
                      · injection e with e1 _ _
                        injection e1 with e1
                        subst e1
                        have hd : uL (zs.drop j) = (uL zs).drop j := by rw [uL_map, uL_map, List.map_drop, List.map_drop]
                        rw [hd, List.getElem?_drop] at ht
                        have := hc _ u ht
                        rw [addr_add] at this ⊢
                        rw [Nat.zero_add] at this
                        exact this
                    go_wp2_with (first | (at_builtin; refine wpList_app rfl _ _ 37 rfl B3 32 i1 _ 1 4 Try.underlying37 hi' hy0 hy1 hy2 rfl (by decide) _ (j + 1) (uL (zs.take j) ++ uV id) rfl HO8.out _ (i - j) (uL (zs.drop j)) rfl HSRC.out (uL_one _) (by unfold maxLen; omega) (by omega) HB8S.out ?_; intro v9 w9 hown9 hgrow9 hat9; obtain ⟨xa, xc, rfl, HO9, HB9⟩ := HEND.out v9 w9 hown9 hgrow9; clear hown9 hgrow9 hat9))
                    go_roundw
                    case rel => exact ⟨_, xa, xc, _, hlti, by first | rfl | go_num, rfl, HLE, HPE, HSO, HO9, HB9⟩
                    case measure => simp [RowKit.intOf]; omega
                  · obtain rfl : j = zc := by omega
                    obtain rfl : i = j := by omega
                    rw [Nat.sub_self] at HEND
                    have HSRC : Hid (Src w8 1 (.slice (some ⟨g, 0, none⟩) 0 0) 0 (uL (zs.drop i))) := by
                      have e : uL (zs.drop i) = [] := by rw [← HZL.out, List.drop_length]; rfl
                      unfold Hid
                      rw [e]
                      exact ⟨rfl, .inr ⟨⟨g, 0, none⟩, 0, rfl, fun t u ht => by simp at ht⟩⟩
                    go_wp2_with (first | (at_builtin; refine wpList_app rfl _ _ 37 rfl B3 32 i1 _ 1 4 Try.underlying37 hi' hy0 hy1 hy2 rfl (by decide) _ (i + 1) (uL (zs.take i) ++ uV id) rfl HO8.out _ 0 (uL (zs.drop i)) rfl HSRC.out (uL_one _) (by unfold maxLen; omega) (by omega) HB8S.out ?_; intro v9 w9 hown9 hgrow9 hat9; obtain ⟨xa, xc, rfl, HO9, HB9⟩ := HEND.out v9 w9 hown9 hgrow9; clear hown9 hgrow9 hat9))
                    go_roundw
                    case rel => exact ⟨_, xa, xc, _, hlti, by first | rfl | go_num, rfl, HLE, HPE, HSO, HO9, HB9⟩
                    case measure => simp [RowKit.intOf]; omega
        · have e1 : decide ((i : Int) < (M : Int)) = false := decide_eq_false (by omega)
          have e1' : decide (i < M) = false := decide_eq_false hlti
          have HEND : Hid (zs.Perm (ids Q)) := by
            have := HZP.out
            rw [List.take_of_length_le (by rw [← HMl.out]; omega)] at this
            exact this
          have RZ : Hid (URow wr (.slice za i zc) zs) := by
            have : UOwn wr B2 (.slice za i zc) zs := by show wr.ownsRow B2 32 1 _ zs.length _; rw [HZL.out]; exact HO.out
            exact urow_of_own this
          have HBE : Hid (Below w.heap.size w wr) := below_next HB0.out HBr.out
          go_wp2_with fail
          go_ret
          exact ⟨⟨_, zs, rfl, HEND.out, HZS.out, RZ.out⟩, HBE.out⟩
end

end Go.Proofs.Ytfobapnncjjeiaa
