/-
  gangerlaw15.stays: two scenes alike.
-/
import Derived.Test.YtioeblljabohbaaBfKnow
import Derived.Test.YtioeblljabohbaaBfRef
namespace Go.Proofs.Ytioeblljabohbaa
open Go Go.RowKit Go.Lib
set_option linter.unusedVariables false

attribute [local go_sem ↓] hd_neq hd_grd
theorem heI_cells {w : World} {bb off n c : Nat} {l : List HeI} (h : HRow w (.slice (some ⟨bb, off, none⟩) n c) l) {k : Nat} (hk : k < l.length) {w' : World} (hb : Below w.heap.size w w') :
    w'.cell? ⟨bb, off + k * 4, none⟩ = some (.int .i64 l[k].1) ∧ w'.cell? ⟨bb, off + k * 4 + 1, none⟩ = some (.int .i64 l[k].2.1) ∧ w'.cell? ⟨bb, off + k * 4 + 2, none⟩ = some (.int .i64 l[k].2.2.1) ∧ w'.cell? ⟨bb, off + k * 4 + 3, none⟩ = some (.int .i64 l[k].2.2.2) := by
  obtain ⟨b', off', e, hc⟩ := h.at hk
  injection e with e; injection e with e1 e2; subst e1; subst e2
  exact ⟨hc w' hb 0 _ rfl, hc w' hb 1 _ rfl, hc w' hb 2 _ rfl, hc w' hb 3 _ rfl⟩
theorem eqH_self (a b c d : Int) : eqS a b c d a b c d = true := eqS_iff.2 rfl
theorem rowG_nil' {α : Type} {s : Nat} {enc : α → List Value} {w : World} {n c : Nat} {l : List α} (h : RowG s enc w (.slice none n c) l) : l = [] := by
  rcases h with ⟨rfl, _⟩ | ⟨b, off, c', h1, _⟩
  · rfl
  · cases h1
theorem rowG_addr {α : Type} {s : Nat} {enc : α → List Value} {w : World} {n c : Nat} {A : Addr} {l : List α} (h : RowG s enc w (.slice (some A) n c) l) (hk : 0 < l.length) : ∃ bb off, A = ⟨bb, off, none⟩ := by
  obtain ⟨b, off, e, _⟩ := h.at hk
  exact ⟨b, off, by injection e⟩
set_option maxRecDepth 100000 in
set_option maxHeartbeats 8000000 in
theorem stays_any (N : Int) (va ha vb hb : Value) (FL : List Int) (HL : List HeI) (w : World) (f1 : GRow w va FL) (h1 : HRow w ha HL) (f2 : GRow w vb FL) (h2 : HRow w hb HL) (hfl : FL.length ≤ 1048576) (hhl : HL.length ≤ 1048576) :
    Calls Try.prog 17 #[.agg #[.int .i64 N, va, ha], .agg #[.int .i64 N, vb, hb]] w fun e w' => e = .returned (.bool true) ∧ Below w.heap.size w w' := by
  have HF1 := Lib.hid f1
  have HF2 := Lib.hid f2
  have HH1 := Lib.hid h1
  have HH2 := Lib.hid h2
  obtain ⟨fa, fc, rfl⟩ := f1.slice
  obtain ⟨fb, fd, rfl⟩ := f2.slice
  obtain ⟨aa, ac, rfl⟩ := h1.slice
  obtain ⟨ab, ad, rfl⟩ := h2.slice
  obtain ⟨LF, hLF⟩ : ∃ n, n = FL.length := ⟨_, rfl⟩
  obtain ⟨LH, hLH⟩ : ∃ n, n = HL.length := ⟨_, rfl⟩
  rw [← hLF] at HF1 HF2 hfl ⊢
  rw [← hLH] at HH1 HH2 hhl ⊢
  have HLE : Hid (LF = FL.length ∧ LH = HL.length) := ⟨hLF, hLH⟩
  clear f1 f2 h1 h2 hLF hLH
  obtain ⟨W, hW⟩ : ∃ W, W = (w.alloc (.cells #[.int .i64 N, .slice fa LF fc, .slice aa LH ac] 25)).alloc (.cells #[.int .i64 N, .slice fb LF fd, .slice ab LH ad] 25) := ⟨_, rfl⟩
  obtain ⟨gS, hgS⟩ : ∃ g, g = w.heap.size := ⟨_, rfl⟩
  obtain ⟨gB, hgB⟩ : ∃ g, g = w.heap.size + 1 := ⟨_, rfl⟩
  have HBW : Hid (Below w.heap.size w W) := by unfold Hid; rw [hW]; exact ((Below.refl _ _).alloc (Nat.le_refl _) _).alloc (by simp) _
  have HSA : Hid (Blk W gS #[.int .i64 N, .slice fa LF fc, .slice aa LH ac] 25) := by unfold Hid; rw [hW, hgS]; exact (Blk.new w _ _).old _
  have HSB : Hid (Blk W gB #[.int .i64 N, .slice fb LF fd, .slice ab LH ad] 25) := by unfold Hid; rw [hW]; exact Blk.fresh _ _ _ gB (by rw [hgB]; simp)
  go_enter Try.func17, Try.ntmps17
  go_upto_region 1 with fail
  rw [← hgB, ← hgS, ← hW]
  clear hgB hgS hW
  go_wp2_with fail
  go_loopw [5] (fun iv wr => ∃ k : Nat, k ≤ LH ∧ iv = .int .i64 k ∧ Hid (Below W.heap.size W wr)) (fun iv _ => LH - (RowKit.intOf iv).toNat)
  case atStart => exact ⟨0, Nat.zero_le _, rfl, Below.refl _ _⟩
  case round =>
    obtain ⟨k, hk, rfl, HB⟩ := hrel
    have HBr : Hid (Below w.heap.size w wr) := below_next HB.out HBW.out
    have a2 := (HSA.out.kept HB.out).cell 2
    have b2 := (HSB.out.kept HB.out).cell 2
    simp at a2 b2
    by_cases hlt : k < LH
    · have hd : decide (k < LH) = true := decide_eq_true hlt
      have hki : (k : Int) < (LH : Int) := by omega
      have hkl : k < HL.length := by rw [← HLE.out.2]; exact hlt
      cases aa with
      | none => have := rowG_nil' HH1.out; rw [this] at hkl; simp at hkl
      | some A =>
      cases ab with
      | none => have := rowG_nil' HH2.out; rw [this] at hkl; simp at hkl
      | some B =>
      obtain ⟨b1, o1, rfl⟩ := rowG_addr HH1.out (by omega)
      obtain ⟨b2', o2, rfl⟩ := rowG_addr HH2.out (by omega)
      obtain ⟨c0, c1, c2, c3⟩ := heI_cells HH1.out hkl HBr.out
      obtain ⟨e0, e1, e2, e3⟩ := heI_cells HH2.out hkl HBr.out
      obtain ⟨x, hx⟩ : ∃ x, x = HL[k] := ⟨_, rfl⟩
      rw [← hx] at c0 c1 c2 c3 e0 e1 e2 e3
      clear hx hkl
      obtain ⟨x0, x1, x2, x3⟩ := x
      dsimp only at c0 c1 c2 c3 e0 e1 e2 e3
      have hq := eqH_self x0 x1 x2 x3
      go_wp2_with fail
      go_region
      go_wp2_with fail
      go_roundw
      case rel => exact ⟨k + 1, hlt, by go_num, below_drewN HB.out _⟩
      case measure => simp [RowKit.intOf]; omega
    · have hd : decide (k < LH) = false := decide_eq_false hlt
      have hki : ¬ (k : Int) < (LH : Int) := by omega
      go_upto_region 7 with fail
      obtain ⟨w9, hw9⟩ : ∃ w9, w9 = wr := ⟨_, rfl⟩
      subst hw9
      go_loopw [6] (fun iv wr => ∃ k : Nat, k ≤ LF ∧ iv = .int .i64 k ∧ Hid (Below W.heap.size W wr)) (fun iv _ => LF - (RowKit.intOf iv).toNat)
      case atStart => exact ⟨0, Nat.zero_le _, rfl, HB⟩
      case round =>
        clear HB HBr a2 b2 hlt hd hki hk
        obtain ⟨k, hk, rfl, HB⟩ := hrel
        have HBr : Hid (Below w.heap.size w wr) := below_next HB.out HBW.out
        have a0 := (HSA.out.kept HB.out).cell 0
        have a1 := (HSA.out.kept HB.out).cell 1
        have b0 := (HSB.out.kept HB.out).cell 0
        have b1 := (HSB.out.kept HB.out).cell 1
        simp at a0 a1 b0 b1
        by_cases hlt : k < LF
        · have hd : decide (k < LF) = true := decide_eq_true hlt
          have hki : (k : Int) < (LF : Int) := by omega
          have hkl : k < FL.length := by rw [← HLE.out.1]; exact hlt
          obtain ⟨p1, q1, hfa, c0⟩ : ∃ b o, fa = some ⟨b, o, none⟩ ∧ wr.cell? ⟨b, o + k, none⟩ = some (.int .i64 (FL.getD k 0)) := by
            rcases HF1.out.kept HBr.out with ⟨h1, x, c9, h2⟩ | ⟨b9, o9, c9, h1, h2⟩
            · rw [h1] at hkl; simp at hkl
            · injection h1 with h1; exact ⟨b9, o9, h1, h2 k hkl⟩
          obtain ⟨p2, q2, hfb, e0⟩ : ∃ b o, fb = some ⟨b, o, none⟩ ∧ wr.cell? ⟨b, o + k, none⟩ = some (.int .i64 (FL.getD k 0)) := by
            rcases HF2.out.kept HBr.out with ⟨h1, x, c9, h2⟩ | ⟨b9, o9, c9, h1, h2⟩
            · rw [h1] at hkl; simp at hkl
            · injection h1 with h1; exact ⟨b9, o9, h1, h2 k hkl⟩
          subst hfa hfb
          obtain ⟨x, hx⟩ : ∃ x, x = FL.getD k 0 := ⟨_, rfl⟩
          rw [← hx] at c0 e0
          clear hx hkl a0 b0
          go_wp2_with fail
          go_region
          go_wp2_with fail
          go_roundw
          case rel => exact ⟨k + 1, hlt, by go_num, below_drewN HB.out _⟩
          case measure => simp [RowKit.intOf]; omega
        · have hd : decide (k < LF) = false := decide_eq_false hlt
          have hki : ¬ (k : Int) < (LF : Int) := by omega
          have hN : (N == N) = true := by simp
          go_wp2_with fail
          go_ret
          exact ⟨rfl, HBr.out⟩
end Go.Proofs.Ytioeblljabohbaa
