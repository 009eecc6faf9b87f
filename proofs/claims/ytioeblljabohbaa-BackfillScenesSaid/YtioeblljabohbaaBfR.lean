/-
  A board in the memory; its newMarks.
-/
import Derived.Test.YtioeblljabohbaaBfNO
import Derived.OwnWalk
namespace Go.Proofs.Ytioeblljabohbaa
open Go Go.RowKit Go.Lib
set_option linter.unusedVariables false

def heF (l : List HeT) : List Value := (l.map heZ).flatMap heI
abbrev HOwn (w : World) (base : Nat) (v : Value) (l : List HeT) : Prop := w.ownsRow base 57 4 v l.length (heF l)
/-- b holds a board. -/
def BdI (w : World) (b base n : Nat) (fl : List Nat) (F T : List HeT) : Prop :=
  ∃ vf vF vT, Blk w b #[.int .i64 (n : Nat), vf, vF, vT] 85 ∧ base ≤ b ∧ GRow w vf (nsI fl) ∧ HOwn w base vF F ∧ HOwn w base vT T ∧ vF.ownBlock ≠ some b ∧ vT.ownBlock ≠ some b ∧ ∀ g, vF.ownBlock = some g → vT.ownBlock ≠ some g
theorem BdI.kept {w w' : World} {b base n : Nat} {fl : List Nat} {F T : List HeT} (h : BdI w b base n fl F T) (hb : Below w.heap.size w w') : BdI w' b base n fl F T := by
  obtain ⟨vf, vF, vT, h1, h2, h3, h4, h5, h6, h7, h8⟩ := h
  exact ⟨vf, vF, vT, h1.kept hb, h2, h3.kept hb, own_older h4 hb, own_older h5 hb, h6, h7, h8⟩
/-- What is marked by the first k failed ones. -/
def markK (fl : List Nat) (q k i : Nat) : Nat := (fl.take k).countP fun w => meetB w 0 (i * 2 ^ q) q
theorem markK_zero (fl : List Nat) (q i : Nat) : markK fl q 0 i = 0 := by unfold markK; simp
theorem markK_succ {fl : List Nat} {q k : Nat} (h : k < fl.length) : markK fl q (k + 1) = hitC (markK fl q k) fl[k] 0 q := by
  funext i
  unfold markK hitC
  rw [List.take_add_one, List.getElem?_eq_getElem h, List.countP_append]
  by_cases hm : meetB fl[k] 0 (i * 2 ^ q) q = true
  · rw [if_pos hm]; simp [hm]
  · rw [if_neg hm]; simp [hm]
theorem markK_le (fl : List Nat) (q k i : Nat) : markK fl q k i ≤ fl.length := by
  unfold markK
  exact Nat.le_trans List.countP_le_length (by rw [List.length_take]; omega)
set_option maxRecDepth 100000 in
set_option maxHeartbeats 4000000 in
theorem newMarks_any (b base n q : Nat) (fl : List Nat) (F T : List HeT) (w : World) (hb : BdI w b base n fl F T) (hn : n ≤ 10) (hq : q ≤ n) (hfl : ∀ x ∈ fl, x < 2 ^ n) (hfn : fl.length ≤ 1024) :
    Calls Try.prog 52 #[.pointer (some ⟨b, 0, none⟩), .int .i64 (q : Nat)] w fun e w' => ∃ m, e = .returned (.pointer (some ⟨m, 0, none⟩)) ∧ MI w' m w.heap.size q (2 ^ (n - q)) (markK fl q fl.length) ∧ Below w.heap.size w w' := by
  obtain ⟨i0, hi, hz0, hz1, hz2⟩ := info_parts Try.infoNum
  obtain ⟨vf, vF, vT, h1, _, h3, _⟩ := hb
  obtain ⟨d, hd⟩ : ∃ d, d = n - q := ⟨_, rfl⟩
  rw [← hd]
  obtain ⟨N, hN, hN1, hN2, hN3⟩ := one_shl (show d ≤ 10 by omega)
  have hdi : (n : Int) - (q : Int) = (d : Int) := by omega
  have HFL : Hid (∀ x ∈ fl, x < 4096 ∧ (x + 2 ^ 0 - 1) / 2 ^ q < N) := fun x hx => by
    have h := hfl x hx
    have := pow_1024 hn
    refine ⟨by omega, ?_⟩
    rw [hN, hd]
    exact hit_lt hq (by simp; omega)
  rw [← hN]
  obtain ⟨fa, fc, rfl⟩ := h3.slice
  obtain ⟨LF, hLF⟩ : ∃ x, x = (nsI fl).length := ⟨_, rfl⟩
  rw [← hLF] at h1 h3
  have hLFe : LF = fl.length := by rw [hLF, nsI_len]
  have HLF := Lib.hid hLFe
  have hL1024 : LF ≤ 1024 := by omega
  have m0 := h1.cell 0
  have m1 := h1.cell 1
  simp at m0 m1
  have HH := Lib.hid h1
  have HG := Lib.hid h3
  clear h1 h3 hfl hN hd hLF hLFe hfn
  go_enter Try.func52, Try.ntmps52
  go_upto_region 2 with fail
  go_upto_region 3 with (refine wpList_make_full _ rfl _ _ 22 rfl w.heap.size 3 i0 _ 1 Try.underlying22 hi hz0 hz1 .i64 .i64 N N N rfl rfl rfl rfl (by rw [hz2]; omega) (by unfold maxLen; omega) (Nat.le_refl _) ?_; intro w1 hmk hgr)
  have hB1 : Below w.heap.size w w1 := (Below.refl _ w).grown hgr (Nat.le_refl _) (fun j hj => by cases hj)
  have hZ : NOwn w1 w.heap.size (.slice (some ⟨w.heap.size, 0, none⟩) N N) (rowI (markK fl q 0) N) := by
    have e : (madeCells (Value.int .i64 0).cells (N * 1)).toList = numsL (rowI (markK fl q 0) N) := by
      rw [Nat.mul_one, show (Value.int .i64 0).cells = #[Value.int .i64 0] from rfl, toList_madeCells_one]
      apply List.ext_getElem?
      intro j
      unfold numsL
      rw [List.getElem?_replicate, List.getElem?_map, rowI_get, markK_zero]
      split <;> rfl
    unfold NOwn
    rw [← e, rowI_len]; exact hmk
  have hsz : w.heap.size < w1.heap.size := by obtain ⟨cur, q1, _, _⟩ := nown_blk hZ; exact q1.lt
  obtain ⟨w2, hw2⟩ : ∃ w2, w2 = w1.alloc (.cells #[.int .i64 (q : Nat), .slice (some ⟨w.heap.size, 0, none⟩) N N, .int .i64 (N : Nat)] 104) := ⟨_, rfl⟩
  obtain ⟨m, hm⟩ : ∃ m, m = w1.heap.size := ⟨_, rfl⟩
  have hb2 : Below w1.heap.size w1 w2 := by rw [hw2]; exact (Below.refl _ _).alloc (Nat.le_refl _) _
  have HMI : Hid (MI w2 m w.heap.size q N (markK fl q 0)) := by
    refine ⟨w.heap.size, N, ?_, by omega, own_older hZ hb2, by omega⟩
    rw [zN_all (C := markK fl q 0) fun i _ => markK_zero fl q i, hw2, hm]
    exact Blk.new w1 _ _
  have HB2 : Hid (Below w.heap.size w w2) := below_next hb2 hB1
  rw [← hw2, ← hm]
  replace m1 := cell_next HB2.out m1
  clear hw2 hm hb2 hZ hsz hmk hgr hB1 HH m0
  go_wp2_with fail
  go_loopw [27] (fun iv wr => ∃ k : Nat, k ≤ LF ∧ iv = .int .i64 k ∧ Hid (MI wr m w.heap.size q N (markK fl q k)) ∧ Hid (Below w.heap.size w wr)) (fun iv _ => LF - (RowKit.intOf iv).toNat)
  case atStart => exact ⟨0, Nat.zero_le _, rfl, HMI, HB2⟩
  case round =>
    obtain ⟨k, hk, rfl, HM, HB⟩ := hrel
    have HGr := Lib.hid (HG.out.kept HB.out)
    by_cases hlt : k < LF
    · have hd : decide (k < LF) = true := decide_eq_true hlt
      have hki : (k : Int) < (LF : Int) := by omega
      have hkl : k < fl.length := by rw [← HLF.out]; exact hlt
      obtain ⟨b0, o0, hfa, c0⟩ : ∃ b o, fa = some ⟨b, o, none⟩ ∧ wr.cell? ⟨b, o + k, none⟩ = some (.int .i64 ((nsI fl).getD k 0)) := by
        rcases HGr.out with ⟨h1, x, c, h2⟩ | ⟨b, o, c, h1, h2⟩
        · have := nsI_len fl; rw [h1] at this; simp at this; omega
        · injection h1 with h1; exact ⟨b, o, h1, h2 k (by rw [nsI_len]; exact hkl)⟩
      subst hfa
      rw [nsI_at hkl] at c0
      have hx := HFL.out _ (List.getElem_mem hkl)
      have hstep := markK_succ (q := q) hkl
      have CA := Lib.hid (add_hit m w.heap.size q N fl[k] 0 (markK fl q k) wr HM.out (by omega) (by omega) hx.1 (fun i _ => by have := markK_le fl q k i; have := HLF.out; omega) hx.2 (by omega))
      rw [← hstep] at CA
      obtain ⟨x, hxe⟩ : ∃ x, x = fl[k] := ⟨_, rfl⟩
      rw [← hxe] at c0 CA
      clear hstep hx hxe hkl
      go_wp2_with fail
      refine CA.out.mono ?_; rintro e w3 ⟨rfl, hm3, b3⟩
      have HM3 := Lib.hid hm3
      have HB3 : Hid (Below w.heap.size w w3) := HB.out.trans b3
      clear hm3 b3 CA
      go_wp2_with fail
      go_roundw
      case rel => exact ⟨k + 1, hlt, by go_num, HM3, HB3⟩
      case measure => simp [RowKit.intOf]; omega
    · have hd : decide (k < LF) = false := decide_eq_false hlt
      have hki : ¬ (k : Int) < (LF : Int) := by omega
      have HR : Hid (MI wr m w.heap.size q N (markK fl q fl.length)) := by
        have : k = fl.length := by rw [← HLF.out]; omega
        rw [← this]; exact HM.out
      clear hlt hk
      go_wp2_with fail
      go_ret
      exact ⟨m, rfl, HR.out, HB.out⟩
end Go.Proofs.Ytioeblljabohbaa
