/-
  GangUnify: closed up, the same jobs have the same blocks, in no later rows; no row is empty; closed up till none goes ahead, no job's block is free in a row ahead of its own: so the law returns true for every input.
-/
import Derived.Test.YtfobapnncjjeiaaGaLw
import Derived.Test.YtfobapnncjjeiaaLaw
import Derived.Test.YtfobapnncjjeiaaRows
import Derived.Test.YtfobapnncjjeiaaArgs2
namespace Go.Proofs.Ytfobapnncjjeiaa.gangUnify
open Go.ChangeShapes Go.WideShapes Go.ChangeAt Go.RowKit
set_option linter.unusedVariables false

theorem own : ownKnob Try.prog.godebug = none := by kernel_rfl

open Go Go.ChangeShapes Go.WideShapes Go.ChangeAt Go.RowKit Go.Lib Go.Deep
/-- Has one of the first k the job and the block of a cell, in no later row? -/
def FoundK (l : List Ce) (c : Ce) (k : Nat) : Prop := ∃ j, ∃ h : j < l.length, j < k ∧ l[j].1 = c.1 ∧ l[j].st = c.st ∧ l[j].ord = c.ord ∧ l[j].row ≤ c.row
theorem foundK_succ {l : List Ce} {c : Ce} {k : Nat} (hk : k < l.length) : FoundK l c (k + 1) ↔ FoundK l c k ∨ (l[k].1 = c.1 ∧ l[k].st = c.st ∧ l[k].ord = c.ord ∧ l[k].row ≤ c.row) := by
  constructor
  · rintro ⟨j, hj, h1, h2⟩
    rcases Nat.lt_or_ge j k with h | h
    · exact .inl ⟨j, hj, h, h2⟩
    · obtain rfl : j = k := by omega
      exact .inr h2
  · rintro (⟨j, hj, h1, h2⟩ | h)
    · exact ⟨j, hj, by omega, h2⟩
    · exact ⟨k, hk, by omega, h⟩
theorem found_all {l l' : List Ce} (h : NoLater l l') {c : Ce} (hc : c ∈ l) : FoundK l' c l'.length := by
  obtain ⟨d, hd, h1, h2, h3, h4⟩ := h.of c hc
  obtain ⟨j, hj, rfl⟩ := List.getElem_of_mem hd
  exact ⟨j, hj, hj, h1, h2, h3, h4⟩
attribute [local go_sem ↓] ce_eql ce_neq ce_grd bl_eql bl_grd
set_option maxRecDepth 100000 in
set_option maxHeartbeats 8000000 in
theorem walk (v : Value) (L : List AcI) (w : World) (hA : AcArg w v L) :
    Calls Try.prog 7 #[v] w fun e w' => e = .returned (.bool true) ∧ Below w.heap.size w w' := by
  have MX := Lib.hid (matrix_any v L w hA)
  have K : Hid (∀ w1, Calls Try.prog 10 #[] w1 fun e w' => e = .returned (.bool true) ∧ Below w1.heap.size w1 w') := known16_any
  go_enter Try.func7, Try.ntmps7
  go_wp2_with fail
  refine MX.out.mono ?_; rintro e w1 ⟨⟨m, a, l, rfl, hg1⟩, b1⟩
  obtain ⟨o1, ho1⟩ : ∃ own : Nat → Prop, own = fun k => w.heap.size ≤ k := ⟨_, rfl⟩
  rw [← ho1] at hg1
  have HO1 : Hid (∀ k, o1 k → w.heap.size ≤ k) := fun k h => by rw [ho1] at h; exact h
  have HOK := Lib.hid hg1.ok
  have hlen := hg1.ok.len
  have HG1 := Lib.hid hg1
  have HB1 := Lib.hid b1
  have CE := Lib.hid (cells_any m 4 a o1 l w1 hg1.gn)
  clear ho1 hg1 b1 MX hA
  go_wp2_with fail
  refine CE.out.mono ?_; rintro e w2 ⟨⟨va, rfl, ova⟩, b2⟩
  have HG2 := Lib.hid (HG1.out.beside b2 (fun g hg => ova.lt g hg))
  obtain ⟨aa, ac, rfl⟩ := own_slice ova
  obtain ⟨o2, ho2⟩ : ∃ own : Nat → Prop, own = fun k => o1 k ∧ (Value.slice aa l.length ac).ownBlock ≠ some k := ⟨_, rfl⟩
  rw [← ho2] at HG2
  have HO2 : Hid (∀ k, o2 k → w.heap.size ≤ k) := fun k h => by rw [ho2] at h; exact HO1.out k h.1
  have HN2 : Hid (∀ k, (Value.slice aa l.length ac).ownBlock = some k → ¬ o2 k) := fun k h h2 => by rw [ho2] at h2; exact h2.2 h
  have HB2 := Lib.hid (below_next b2 HB1.out)
  have HWA : Hid (COwn w2 w1.heap.size (.slice aa l.length ac) l) := ova
  obtain ⟨LL, hLL⟩ : ∃ n, n = l.length := ⟨_, rfl⟩
  have HLL := Lib.hid hLL
  rw [← hLL] at HWA HN2 hlen ⊢
  clear ova b2 HG1 HB1 HO1 CE ho2 hLL
  go_wp2_with fail
  go_loopw [5] (fun iv wr => ∃ (i a' : Nat) (l' : List Ce), i ≤ 1 ∧ iv = .int .i64 i ∧ Hid (i = 1 → Settled l') ∧ Hid (GM wr m o2 4 a' l') ∧ Hid (NoLater l l') ∧ Hid (COwn wr w1.heap.size (.slice aa LL ac) l) ∧ Hid (Below w.heap.size w wr)) (fun iv _ => 2 - (RowKit.intOf iv).toNat)
  case atStart => exact ⟨0, a, l, by omega, rfl, fun h => absurd h (by decide), HG2.out, NoLater.refl l, HWA.out, HB2.out⟩
  case round =>
    obtain ⟨i, a', l', hi, rfl, HS, HG, HNL, HW, HB⟩ := hrel
    have d1 : decide ((i : Int) < 300) = true := decide_eq_true (by omega)
    have d1' : decide (i < 300) = true := decide_eq_true (by omega)
    have UN := Lib.hid (unify_any m 4 a' o2 l' wr HG.out)
    go_wp2_with fail
    refine UN.out.mono ?_; rintro e w3 ⟨l2, d, rfl, hu, hg3, hc3⟩
    obtain ⟨hk1, hk2, hk3⟩ := uni_keep HG.out.ok hu
    have HD : Hid (i = 1 → d = 0) := fun h => (Settled.stays (n := 4) (HS.out h) hu).1
    rw [hk3] at hg3 hk1
    have HG3 := Lib.hid hg3
    have HNL3 := Lib.hid (HNL.out.trans hk1)
    have HS3 := Lib.hid hk2
    have HW3 := Lib.hid (own_chg HW.out hc3 HN2.out)
    have HB3 := Lib.hid (HB.out.trans (hc3.to_below HB.out.size (fun k hk h => by have := HO2.out k h; omega)))
    clear hu hg3 hc3 hk1 hk2 hk3 UN HG HNL HS HW HB HWA HG2 HB2
    by_cases hd0 : d = 0
    · subst hd0
      clear HD
      have CE := Lib.hid (cells_any m 4 _ o2 l2 w3 HG3.out.gn)
      go_wp2_with fail
      refine CE.out.mono ?_; rintro e w4 ⟨⟨vb, rfl, ovb⟩, b4⟩
      have HG4 := Lib.hid (HG3.out.beside b4 (fun g hg => ovb.lt g hg))
      obtain ⟨ba, bc, rfl⟩ := own_slice ovb
      have hl2 : l2.length = LL := by rw [HLL.out]; exact HNL3.out.len
      obtain ⟨o3, ho3⟩ : ∃ own : Nat → Prop, own = fun k => o2 k ∧ (Value.slice ba l2.length bc).ownBlock ≠ some k := ⟨_, rfl⟩
      rw [← ho3] at HG4
      have HO3 : Hid (∀ k, o3 k → w.heap.size ≤ k) := fun k h => by rw [ho3] at h; exact HO2.out k h.1
      have HN3 : Hid (∀ k, (Value.slice ba l2.length bc).ownBlock = some k → ¬ o3 k) := fun k h h2 => by rw [ho3] at h2; exact h2.2 h
      have HN4 : Hid (∀ k, (Value.slice aa LL ac).ownBlock = some k → ¬ o3 k) := fun k h h2 => by rw [ho3] at h2; exact HN2.out k h h2.1
      have HB4 := Lib.hid (below_next b4 HB3.out)
      have HWA4 : Hid (COwn w4 w1.heap.size (.slice aa LL ac) l) := own_older HW3.out b4
      have HWB4 : Hid (COwn w4 w3.heap.size (.slice ba l2.length bc) l2) := ovb
      rw [hl2] at HN3 ⊢
      have hq : ((LL : Int) != (LL : Int)) = false := by simp
      have hq' : (LL != LL) = false := by simp
      have UN := Lib.hid (unify_any m 4 _ o3 l2 w4 HG4.out)
      clear ovb b4 HG3 HB3 HO2 HN2 CE ho3 HW3
      go_wp2_with fail
      refine UN.out.mono ?_; rintro e w5 ⟨l3, d, rfl, hu, hg5, hc5⟩
      obtain ⟨rfl, hl3⟩ := Settled.stays (n := 4) HS3.out hu
      have HB5 := Lib.hid (HB4.out.trans (hc5.to_below HB4.out.size (fun k hk h => by have := HO3.out k h; omega)))
      have RA : Hid (CRow w5 (.slice aa LL ac) l) := by
        have := own_chg HWA4.out hc5 HN4.out
        unfold Hid; rw [HLL.out] at this ⊢
        exact crow_of_own this
      have RB : Hid (CRow w5 (.slice ba LL bc) l2) := by
        have h := own_chg HWB4.out hc5 (by rw [hl2]; exact HN3.out)
        have := crow_of_own h
        rwa [hl2] at this
      have HOK2 : Hid (OkG 4 l2) := HG4.out.ok
      have HL2 := Lib.hid hl2
      clear hu hl3 hg5 hc5 UN HG4 HB4 HO3 HN3 HN4 HWA4 HWB4 hl2
      obtain ⟨X, hX⟩ : ∃ x, x = w5 := ⟨_, rfl⟩
      subst hX
      go_wp2_with fail
      go_loopw [7] (fun iv wr => ∃ i : Nat, i ≤ LL ∧ iv = .int .i64 i ∧ Hid (Below X.heap.size X wr)) (fun iv _ => LL - (RowKit.intOf iv).toNat)
      case atStart => exact ⟨0, Nat.zero_le _, rfl, Below.refl _ _⟩
      case round =>
        obtain ⟨i, hi, rfl, HBr⟩ := hrel
        by_cases hlt : i < LL
        · have d1 : decide ((i : Int) < (LL : Int)) = true := decide_eq_true (by omega)
          have d1' : decide (i < LL) = true := decide_eq_true hlt
          have hlx : i < l.length := by rw [← HLL.out]; exact hlt
          cases aa with
          | none => have := crow_none RA.out; rw [this] at hlx; simp at hlx
          | some A =>
          obtain ⟨b1, o1', rfl⟩ := crow_some RA.out (by omega)
          obtain ⟨c, hc⟩ : ∃ c, c = l[i] := ⟨_, rfl⟩
          have HFA : Hid (FoundK l2 c l2.length) := found_all HNL3.out (by rw [hc]; exact List.getElem_mem hlx)
          have HCA : Hid (∀ w', Below X.heap.size X w' → w'.cell? ⟨b1, o1' + i * 4, none⟩ = some (.int .u32 (c.1 : Int)) ∧ w'.cell? ⟨b1, o1' + i * 4 + 1, none⟩ = some (.int .i64 (c.2.1 : Int)) ∧ w'.cell? ⟨b1, o1' + i * 4 + 2, none⟩ = some (.int .i64 (c.2.2.1 : Int)) ∧ w'.cell? ⟨b1, o1' + i * 4 + 3, none⟩ = some (.int .i64 (c.2.2.2 : Int))) := fun w' hb => by rw [hc]; exact CRow.cells RA.out hlx hb
          clear hc hlx
          have hii : (i : Int) < (LL : Int) := by omega
          go_upto_region 17 with fail
          go_loopw [9, 8] (fun kv bv wr2 => ∃ (k : Nat) (β : Bool), k ≤ LL ∧ kv = .int .i64 k ∧ bv = .bool β ∧ Hid (BIs β (FoundK l2 c k)) ∧ Hid (Below X.heap.size X wr2)) (fun kv _ _ => LL - (RowKit.intOf kv).toNat)
          case atStart => exact ⟨0, false, Nat.zero_le _, rfl, rfl, BIs.no (fun ⟨j, _, h, _⟩ => absurd h (Nat.not_lt_zero _)), HBr.out⟩
          case round =>
            obtain ⟨k, β, hk, rfl, rfl, HF, HB2r⟩ := hrel
            by_cases hlk : k < LL
            · have d2 : decide ((k : Int) < (LL : Int)) = true := decide_eq_true (by omega)
              have d2' : decide (k < LL) = true := decide_eq_true hlk
              have hki : (k : Int) < (LL : Int) := by omega
              have hkx : k < l2.length := by rw [HL2.out]; exact hlk
              cases ba with
              | none => have := crow_none RB.out; rw [this] at hkx; simp at hkx
              | some B =>
              obtain ⟨b2, o2', rfl⟩ := crow_some RB.out (by omega)
              obtain ⟨c0, c1, c2, c3⟩ := HCA.out _ HB2r.out
              obtain ⟨e0, e1, e2, e3⟩ := CRow.cells RB.out hkx HB2r.out
              have HFS := Lib.hid (foundK_succ (c := c) hkx)
              obtain ⟨y, hy⟩ : ∃ y, y = l2[k] := ⟨_, rfl⟩
              rw [← hy] at e0 e1 e2 e3 HFS
              clear hy hkx
              obtain ⟨x0, x1, x2, x3⟩ := c
              obtain ⟨y0, y1, y2, y3⟩ := y
              dsimp only [Ce.st, Ce.ord, Ce.row] at c0 c1 c2 c3 e0 e1 e2 e3 HFS
              cases β with
              | true =>
                have HF2 : Hid (BIs true (FoundK l2 (x0, x1, x2, x3) (k + 1))) := BIs.yes (HFS.out.2 (.inl HF.out.t))
                go_wp2_with fail
                go_quiet (fail)
                go_wp2_with fail
                go_roundw
                case rel => exact ⟨k + 1, true, hlk, by go_num, rfl, HF2, below_drewN HB2r.out _⟩
                case measure => simp [RowKit.intOf]; omega
              | false =>
                have HFN : Hid (¬ FoundK l2 (x0, x1, x2, x3) k) := HF.out.f
                by_cases h0 : y0 = x0
                · subst h0
                  have q0 : ((y0 : Int) == (y0 : Int)) = true := by simp
                  by_cases h1 : y2 = x2 ∧ y3 = x3
                  · obtain ⟨rfl, rfl⟩ := h1
                    have q1 : eqB y2 y3 y2 y3 = true := by simp [eqB]
                    by_cases h2 : y1 ≤ x1
                    · have q2 : decide ((y1 : Int) ≤ (x1 : Int)) = true := decide_eq_true (by omega)
                      have q2' : decide (y1 ≤ x1) = true := decide_eq_true h2
                      have HF2 : Hid (BIs true (FoundK l2 (y0, x1, y2, y3) (k + 1))) := BIs.yes (HFS.out.2 (.inr ⟨rfl, rfl, rfl, h2⟩))
                      go_wp2_with fail
                      go_quiet (fail)
                      go_wp2_with fail
                      go_roundw
                      case rel => exact ⟨k + 1, true, hlk, by go_num, rfl, HF2, below_drewN HB2r.out _⟩
                      case measure => simp [RowKit.intOf]; omega
                    · have q2 : decide ((y1 : Int) ≤ (x1 : Int)) = false := decide_eq_false (by omega)
                      have q2' : decide (y1 ≤ x1) = false := decide_eq_false h2
                      have HF2 : Hid (BIs false (FoundK l2 (y0, x1, y2, y3) (k + 1))) := BIs.no (fun h => by
                      rcases HFS.out.1 h with h | h
                      · exact absurd h HFN.out
                      · exact absurd h.2.2.2 h2)
                      go_wp2_with fail
                      go_quiet (fail)
                      go_wp2_with fail
                      go_roundw
                      case rel => exact ⟨k + 1, false, hlk, by go_num, rfl, HF2, below_drewN HB2r.out _⟩
                      case measure => simp [RowKit.intOf]; omega
                  · have q1 : eqB y2 y3 x2 x3 = false := decide_eq_false (by omega)
                    have HF2 : Hid (BIs false (FoundK l2 (y0, x1, x2, x3) (k + 1))) := BIs.no (fun h => by
                      rcases HFS.out.1 h with h | h
                      · exact absurd h HFN.out
                      · exact absurd ⟨h.2.1, h.2.2.1⟩ h1)
                    go_wp2_with fail
                    go_quiet (fail)
                    go_wp2_with fail
                    go_roundw
                    case rel => exact ⟨k + 1, false, hlk, by go_num, rfl, HF2, below_drewN HB2r.out _⟩
                    case measure => simp [RowKit.intOf]; omega
                · have q0 : ((y0 : Int) == (x0 : Int)) = false := by simp; omega
                  have q0' : (y0 == x0) = false := by simp; omega
                  have HF2 : Hid (BIs false (FoundK l2 (x0, x1, x2, x3) (k + 1))) := BIs.no (fun h => by
                      rcases HFS.out.1 h with h | h
                      · exact absurd h HFN.out
                      · exact absurd h.1 h0)
                  go_wp2_with fail
                  go_quiet (fail)
                  go_wp2_with fail
                  go_roundw
                  case rel => exact ⟨k + 1, false, hlk, by go_num, rfl, HF2, below_drewN HB2r.out _⟩
                  case measure => simp [RowKit.intOf]; omega
            · have d2 : decide ((k : Int) < (LL : Int)) = false := decide_eq_false (by omega)
              have d2' : decide (k < LL) = false := decide_eq_false hlk
              obtain rfl : β = true := HF.out.all (by have := HFA.out; rw [HL2.out] at this; rwa [show k = LL by omega])
              go_wp2_with fail
              go_roundw
              case rel => exact ⟨i + 1, hlt, by go_num, HB2r.out⟩
              case measure => simp [RowKit.intOf]; omega
        · have d1 : decide ((i : Int) < (LL : Int)) = false := decide_eq_false (by omega)
          have d1' : decide (i < LL) = false := decide_eq_false hlt
          go_wp2_with fail
          go_loopw [10] (fun iv wr2 => ∃ i : Nat, i ≤ LL ∧ iv = .int .i64 i ∧ Hid (Below X.heap.size X wr2)) (fun iv _ => LL - (RowKit.intOf iv).toNat)
          case atStart => exact ⟨0, Nat.zero_le _, rfl, HBr.out⟩
          case round =>
            clear hi hlt d1 d1' HBr
            obtain ⟨i, hi, rfl, HBr⟩ := hrel
            by_cases hlt : i < LL
            · have d1 : decide ((i : Int) < (LL : Int)) = true := decide_eq_true (by omega)
              have d1' : decide (i < LL) = true := decide_eq_true hlt
              have hii : (i : Int) < (LL : Int) := by omega
              have hlx : i < l2.length := by rw [HL2.out]; exact hlt
              cases ba with
              | none => have := crow_none RB.out; rw [this] at hlx; simp at hlx
              | some B =>
              obtain ⟨b2, o2', rfl⟩ := crow_some RB.out (by omega)
              obtain ⟨c, hc⟩ : ∃ c, c = l2[i] := ⟨_, rfl⟩
              have HCM : Hid (c ∈ l2) := by unfold Hid; rw [hc]; exact List.getElem_mem hlx
              have HCA : Hid (∀ w', Below X.heap.size X w' → w'.cell? ⟨b2, o2' + i * 4, none⟩ = some (.int .u32 (c.1 : Int)) ∧ w'.cell? ⟨b2, o2' + i * 4 + 1, none⟩ = some (.int .i64 (c.2.1 : Int)) ∧ w'.cell? ⟨b2, o2' + i * 4 + 2, none⟩ = some (.int .i64 (c.2.2.1 : Int)) ∧ w'.cell? ⟨b2, o2' + i * 4 + 3, none⟩ = some (.int .i64 (c.2.2.2 : Int))) := fun w' hb => by rw [hc]; exact CRow.cells RB.out hlx hb
              clear hc hlx
              have HCK := Lib.hid (HOK2.out.ce c HCM.out)
              have HSC : Hid (∀ r, r < c.2.1 → ¬ FreeG l2 r c.2.2.1 c.2.2.2) := HS3.out c HCM.out
              have hcr : c.2.1 < 16 := HCK.out.row
              have hco : c.2.2.2 ≤ 4 := HCK.out.ord
              have hcs : c.2.2.1 ≤ 4096 := by
                have h1 := HCK.out.en
                have h2 : c.2.2.1 ≤ c.en := Nat.le_of_succ_le (en_st c)
                omega
              obtain ⟨x0, x1, x2, x3⟩ := c
              dsimp only at HCA HSC hcr hco hcs
              go_upto_region 26 with fail
              go_loopw [11] (fun rv wr3 => ∃ r : Nat, r ≤ x1 ∧ rv = .int .i64 r ∧ Hid (Below X.heap.size X wr3)) (fun rv _ => x1 - (RowKit.intOf rv).toNat)
              case atStart => exact ⟨0, Nat.zero_le _, rfl, HBr.out⟩
              case round =>
                obtain ⟨r, hr, rfl, HB3r⟩ := hrel
                obtain ⟨c0, c1, c2, c3⟩ := HCA.out _ HB3r.out
                by_cases hlr : r < x1
                · have d3 : decide ((r : Int) < (x1 : Int)) = true := decide_eq_true (by omega)
                  have d3' : decide (r < x1) = true := decide_eq_true hlr
                  go_wp2_with fail
                  go_loopw [13, 12] (fun kv bv wr4 => ∃ (k : Nat) (β : Bool), k ≤ LL ∧ kv = .int .i64 k ∧ bv = .bool β ∧ Hid (BIs β (HeldK l2 r x2 x3 k)) ∧ Hid (Below X.heap.size X wr4)) (fun kv _ _ => LL - (RowKit.intOf kv).toNat)
                  case atStart => exact ⟨0, false, Nat.zero_le _, rfl, rfl, BIs.no heldK_zero, HB3r.out⟩
                  case round =>
                    clear c0 c1 c2 c3
                    obtain ⟨k, β, hk, rfl, rfl, HF, HB4r⟩ := hrel
                    by_cases hlk : k < LL
                    · have d2 : decide ((k : Int) < (LL : Int)) = true := decide_eq_true (by omega)
                      have d2' : decide (k < LL) = true := decide_eq_true hlk
                      have hki : (k : Int) < (LL : Int) := by omega
                      have hkx : k < l2.length := by rw [HL2.out]; exact hlk
                      obtain ⟨c0, c1, c2, c3⟩ := HCA.out _ HB4r.out
                      obtain ⟨e0, e1, e2, e3⟩ := CRow.cells RB.out hkx HB4r.out
                      have HFS := Lib.hid (heldK_succ (row := r) (s := x2) (o := x3) hkx)
                      have HYK := HOK2.out.ce l2[k] (List.getElem_mem hkx)
                      obtain ⟨y, hy⟩ : ∃ y, y = l2[k] := ⟨_, rfl⟩
                      rw [← hy] at e0 e1 e2 e3 HFS HYK
                      have hyo : y.2.2.2 ≤ 4 := HYK.ord
                      have hys : y.2.2.1 ≤ 4096 := by
                        have h1 := HYK.en
                        have h2 : y.2.2.1 ≤ y.en := Nat.le_of_succ_le (en_st y)
                        omega
                      clear hy hkx HYK
                      obtain ⟨y0, y1, y2, y3⟩ := y
                      dsimp only [Ce.st, Ce.ord, Ce.row] at c0 c1 c2 c3 e0 e1 e2 e3 HFS hyo hys
                      cases β with
                      | true =>
                        have HF2 : Hid (BIs true (HeldK l2 r x2 x3 (k + 1))) := BIs.yes (HFS.out.2 (.inl HF.out.t))
                        go_wp2_with fail
                        go_quiet (fail)
                        go_wp2_with fail
                        go_roundw
                        case rel => exact ⟨k + 1, true, hlk, by go_num, rfl, HF2, below_drewN HB4r.out _⟩
                        case measure => simp [RowKit.intOf]; omega
                      | false =>
                        have HFN : Hid (¬ HeldK l2 r x2 x3 k) := HF.out.f
                        by_cases h0 : y1 = r
                        · subst h0
                          have q0 : ((y1 : Int) == (y1 : Int)) = true := by simp
                          have MT : Hid (∀ wq, Calls Try.prog 25 #[.agg #[.int .i64 (y2 : Nat), .int .i64 (y3 : Nat)], .agg #[.int .i64 (x2 : Nat), .int .i64 (x3 : Nat)]] wq fun e w' => e = .returned (.bool (decide (meetC y2 y3 x2 x3))) ∧ Below wq.heap.size wq w') := fun wq => meet_any y2 y3 x2 x3 (by omega) (by omega) hys hcs wq
                          obtain ⟨γ, hγ⟩ : ∃ γ, γ = decide (meetC y2 y3 x2 x3) := ⟨_, rfl⟩
                          have HF2 : Hid (BIs γ (HeldK l2 y1 x2 x3 (k + 1))) := by
                            rw [hγ]
                            by_cases hm : meetC y2 y3 x2 x3
                            · rw [decide_eq_true hm]; exact BIs.yes (HFS.out.2 (.inr ⟨rfl, hm⟩))
                            · rw [decide_eq_false hm]; exact BIs.no (fun h => by
                                rcases HFS.out.1 h with h | h
                                · exact absurd h HFN.out
                                · exact absurd h.2 hm)
                          rw [← hγ] at MT
                          clear hγ HFS HFN HF
                          go_wp2_with fail
                          go_region_held3 (fun w' => w'.cell? ⟨b2, o2' + k * 4 + 1, none⟩ = some (.int .i64 (y1 : Nat)) ∧ w'.cell? ⟨b2, o2' + k * 4 + 2, none⟩ = some (.int .i64 (y2 : Nat)) ∧ w'.cell? ⟨b2, o2' + k * 4 + 3, none⟩ = some (.int .i64 (y3 : Nat)) ∧ w'.cell? ⟨b2, o2' + i * 4 + 2, none⟩ = some (.int .i64 (x2 : Nat)) ∧ w'.cell? ⟨b2, o2' + i * 4 + 3, none⟩ = some (.int .i64 (x3 : Nat)) ∧ Below wr.heap.size wr w')
                            (first
                              | exact ⟨e1, e2, e3, c2, c3, (Below.refl _ _).drew⟩
                              | exact ⟨e1, e2, e3, c2, c3, Below.refl _ _⟩
                              | (rcases ‹_ ∧ _ ∧ _ ∧ _ ∧ _ ∧ Below wr.heap.size _ _› with ⟨q0, q1, q2, q3, q4, q5⟩; exact ⟨cell_next (by assumption) q0, cell_next (by assumption) q1, cell_next (by assumption) q2, cell_next (by assumption) q3, cell_next (by assumption) q4, below_next (by assumption) q5⟩))
                            (first
                              | (go_at_call 25; ((with_reducible refine (MT.out _).mono ?_); rintro e wm ⟨rfl, bm⟩)))
                          all_goals (have HB5 := below_next (‹_ ∧ _ ∧ _ ∧ _ ∧ _ ∧ Below wr.heap.size wr _›).2.2.2.2.2 HB4r.out)
                          all_goals (go_wp2_with fail)
                          all_goals go_roundw
                          case rel => exact ⟨k + 1, γ, hlk, by go_num, rfl, HF2, HB5⟩
                          case measure => simp [RowKit.intOf]; omega
                        · have q0 : ((y1 : Int) == (r : Int)) = false := by simp; omega
                          have q0' : (y1 == r) = false := by simp; omega
                          have HF2 : Hid (BIs false (HeldK l2 r x2 x3 (k + 1))) := BIs.no (fun h => by
                            rcases HFS.out.1 h with h | h
                            · exact absurd h HFN.out
                            · exact absurd h.1 h0)
                          go_wp2_with fail
                          go_quiet (fail)
                          go_wp2_with fail
                          go_roundw
                          case rel => exact ⟨k + 1, false, hlk, by go_num, rfl, HF2, below_drewN HB4r.out _⟩
                          case measure => simp [RowKit.intOf]; omega
                    · have d2 : decide ((k : Int) < (LL : Int)) = false := decide_eq_false (by omega)
                      have d2' : decide (k < LL) = false := decide_eq_false hlk
                      obtain rfl : β = true := HF.out.all (by rw [show k = l2.length by rw [HL2.out]; omega]; exact heldK_all.2 (HSC.out r hlr))
                      go_wp2_with fail
                      go_roundw
                      case rel => exact ⟨r + 1, hlr, by go_num, HB4r.out⟩
                      case measure => simp [RowKit.intOf]; omega
                · have d3 : decide ((r : Int) < (x1 : Int)) = false := decide_eq_false (by omega)
                  have d3' : decide (r < x1) = false := decide_eq_false hlr
                  go_wp2_with fail
                  go_roundw
                  case rel => exact ⟨i + 1, hlt, by go_num, HB3r.out⟩
                  case measure => simp [RowKit.intOf]; omega
            · have d1 : decide ((i : Int) < (LL : Int)) = false := decide_eq_false (by omega)
              have d1' : decide (i < LL) = false := decide_eq_false hlt
              go_wp2_with fail
              refine (K.out _).mono ?_; rintro e w9 ⟨rfl, b9⟩
              have HB9 := below_next b9 (HB5.out.trans (HBr.out.mono HB5.out.size))
              clear b9
              go_wp2_with fail
              go_ret
              exact ⟨rfl, HB9⟩
    · have hi0 : i = 0 := by
        rcases (by omega : i = 0 ∨ i = 1) with h | h
        · exact h
        · exact absurd (HD.out h) hd0
      subst hi0
      have q1 : ((d : Int) == 0) = false := by simp; exact hd0
      have q2 : (d == 0) = false := by simp; exact hd0
      go_wp2_with fail
      go_roundw
      case rel => exact ⟨1, _, l2, by omega, by go_num, fun _ => HS3.out, HG3.out, HNL3.out, HW3.out, HB3.out⟩
      case measure => simp [RowKit.intOf]


set_option maxRecDepth 100000 in
theorem lifted (os : Os) (started : os.Started) (H : Type) (enc : TypeId × Value → H) :
    ReturnsInHanded {} Try.checked os 7 .any (Rows.gangUnifySpec.pre6 enc Try.prog Try.f7 Rows.gangUnifyRow.domain false) (Rows.gangUnifySpec.post enc Try.prog Try.f7 false true false false) := by
  refine returnsInHanded_of_change (C := Try.checked) own started (by kernel_rfl) Try.func7
    (ChangeSpec.witness6 (enc := enc) (C := Try.checked) false ⟨#[], #[.slice none 0 0], []⟩ 8 (by kernel_rfl) (by kernel_rfl) (by kernel_rfl) (by kernel_rfl)) ?_
  intro W base args ds gs before hval0 hW _ _
  have hval : ∀ (j : Nat) t v, Try.f7.params[j]? = some t → args[j]? = some v → Value.okWide Try.prog W .any base t v := hval0
  have hW' := hW
  obtain ⟨p, q, hA0, hV, rfl, hfz, hnd⟩ := hW
  have hA : DataW.TrodAll enc Try.prog W 0 (fun _ => true) true Try.f7.params.toList args.toList ds p := hA0
  rw [Try.params7] at hA hval
  obtain ⟨v0, vs0, d0, ds0, p0, q0, hargs, rfl, rfl, h0, r0⟩ := trodAll_cons hA
  obtain ⟨rfl, rfl, rfl⟩ := trodAll_nil r0
  obtain rfl : args = #[v0] := by cases args; simp_all
  obtain ⟨L, w0⟩ := open_acts h0 (okWide_slice Try.underlying22 (hval 0 22 v0 rfl rfl))
  clear hA0 hval0
  refine (walk v0 L W w0).mono fun e W' ⟨he, hb⟩ => ?_
  subst he
  exact ⟨_, rfl, law_post (by kernel_rfl) (by kernel_rfl) rfl Try.underlying4 rfl hW' rfl hb⟩

theorem over : Rows.gangUnifyRow.holds Try.pinned (OpenSpec.ofChange Rows.gangUnifySpec) :=
  OpenClaim.holds_of_wide 7 Try.f7 rfl rfl rfl rfl rfl rfl rfl ⟨rfl, rfl, rfl, rfl, rfl⟩ rfl rfl rfl rfl rfl (by kernel_rfl) Try.func7 (by kernel_rfl)
    (of_decide_eq_true (by kernel_rfl)) (by unfold Func.isWrapper; first | (rw [if_pos (by decide +kernel)]; kernel_rfl) | (rw [if_neg (by decide +kernel)]; exact ⟨rfl, rfl⟩))
    (fun os started H enc _ => lifted os started H enc)

theorem proved : Rows.GangUnifySaid :=
  over
#print axioms proved
end Go.Proofs.Ytfobapnncjjeiaa.gangUnify
