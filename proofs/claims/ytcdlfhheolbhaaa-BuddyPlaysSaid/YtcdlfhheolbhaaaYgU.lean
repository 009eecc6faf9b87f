/-
  The document's yard: all free blocks.
  The document's yard: who holds a worker, the best block, whether one fits.
  The document's yard: the best block, whether one fits.
  The document's yard: all failed and taken ones; a block goes back.
-/
import Derived.Test.YtcdlfhheolbhaaaYgT
namespace Go.Proofs.Ytcdlfhheolbhaaa
set_option linter.unusedVariables false

section
open Go Go.RowKit Go.Lib
theorem greed_len {n w : Nat} {op : Opn} {out : List Bk} (hn : n ≤ 10) (h : GreedR n op w out) : out.length ≤ 1024 := by
  rw [h.out]; exact Nat.le_trans (List.length_filter_le _ _) (freeL_len hn op)
theorem allB_zero {op : Opn} {w : Nat} (h : op w = true) : allB op 0 w := fun x hx => by
  have : x = w := by unfold inB at hx; simp at hx; omega
  rw [this]; exact h
def RFreePost (n : Nat) (op : Opn) (w : World) (e : Ending) (w' : World) : Prop := ∃ v, e = .returned v ∧ BOwn w' w.heap.size v (freeL n op) ∧ Below w.heap.size w w'
set_option maxRecDepth 100000 in
set_option maxHeartbeats 4000000 in
theorem rFree_any (b n : Nat) (L : List Bk) (bad : List Bool) (w : World) (hk : ROk n L bad) (h : RR w b n L bad) :
    Calls Try.prog 21 #[.pointer (some ⟨b, 0, none⟩)] w fun e w' => RFreePost n (fnL (openL n L bad)) w e w' := by
  have OP := Lib.hid (open_any b n L bad w hk h)
  obtain ⟨vL, vB, k0, _⟩ := h
  have K0 := Lib.hid k0
  have hn10 := hk.n10
  have hM10 := pow_1024 hn10
  obtain ⟨i0, hi, hz0, hz1, hz2⟩ := info_parts Try.infoBk
  have hol := openL_len n L bad
  have hop : ∀ x, fnL (openL n L bad) x = true → x < 2 ^ n := fun x hx => by have := fnL_in hx; rw [hol] at this; exact this
  obtain ⟨OL, hOL⟩ : ∃ OL, OL = openL n L bad := ⟨_, rfl⟩
  unfold OpenPost at OP
  rw [← hOL] at OP hol hop
  rw [← hOL]
  obtain ⟨M, hM⟩ : ∃ M, M = 2 ^ n := ⟨_, rfl⟩
  rw [← hM] at hM10 hol
  have HM := Lib.hid hM
  have HOP := Lib.hid hop
  have HOL := Lib.hid hol
  have hM0 : 0 < M := by rw [hM]; exact two_pos n
  obtain ⟨op, hopd⟩ : ∃ op, op = fnL OL := ⟨_, rfl⟩
  rw [← hopd] at HOP
  rw [← hopd]
  have HOPD := Lib.hid hopd
  clear hopd
  clear k0 hOL hM hop hol
  go_enter Try.func21, Try.ntmps21
  go_wp2_with fail
  refine OP.out.mono ?_; rintro e w1 ⟨vO, rfl, hO, hb1⟩
  have HB1 := Lib.hid hb1
  have hRO := borow_of_own hO (by rw [HOL.out]; exact hM0)
  obtain ⟨g, c, rfl, _, hc⟩ := hRO
  have HRO : Hid (BoRow w1 (.slice (some ⟨g, 0, none⟩) OL.length c) OL) := borow_of_own hO (by rw [HOL.out]; exact hM0)
  have HC := Lib.hid hc
  have hOLM := HOL.out
  rw [hOLM] at HRO
  rw [hOLM]
  obtain ⟨B, hB⟩ : ∃ B, B = w1.heap.size := ⟨_, rfl⟩
  have HBB1 := Lib.hid hB
  have HBW : Hid (w.heap.size ≤ B) := by unfold Hid; rw [hB]; exact hb1.size
  have h01 : Below w1.heap.size w1 w1 := Below.refl _ _
  clear hb1 hO hc hOLM hB OP
  go_wp2_with fail
  go_loopw [4, 5] (fun sv i wr => ∃ (W N : Nat) (out : List Bk) (sa : Option Addr) (sc : Nat), W ≤ M ∧ i = .int .i64 W ∧ sv = .slice sa N sc ∧ Hid (N = out.length) ∧ Hid (GreedR n op W out) ∧ Hid (BOwn wr B (.slice sa N sc) out) ∧ Hid (Below w1.heap.size w1 wr)) (fun _ i _ => M - (RowKit.intOf i).toNat)
  case atStart => exact ⟨0, 0, [], none, 0, Nat.zero_le _, rfl, rfl, rfl, GreedR.zero _ _, World.ownsRow_nil _ _ _ _, h01⟩
  case round =>
    obtain ⟨W, N, out, sa, sc, hW, rfl, rfl, HN, HG, HO, HBr⟩ := hrel
    by_cases hlt : W < M
    · have hd : decide (W < M) = true := decide_eq_true hlt
      have hWi : (W : Int) < (M : Int) := by omega
      have c0 := cell_next HBr.out (HC.out W (by rw [HOL.out]; exact hlt))
      obtain ⟨ob, hob⟩ : ∃ ob, ob = OL.getD W false := ⟨_, rfl⟩
      rw [← hob] at c0
      have HOB : Hid (op W = ob) := by unfold Hid; rw [HOPD.out]; exact hob.symm
      clear hob
      cases ob with
      | false =>
        have HGN := Lib.hid (HG.out.skip HOB.out)
        go_wp2_with fail
        go_roundw
        case rel => exact ⟨W + 1, N, out, sa, sc, hlt, by go_num, rfl, HN, HGN, HO, HBr⟩
        case measure => simp [RowKit.intOf]; omega
      | true =>
        have kk0 := cell_next (HB1.out.trans (HBr.out.mono HB1.out.size)) K0.out
        have HROr := Lib.hid (HRO.out.kept HBr.out)
        have hNl : N ≤ 1024 := by have := greed_len hn10 HG.out; have := HN.out; omega
        have HA0 : Hid (W % 2 ^ 0 = 0 ∧ allB op 0 W) := ⟨by simp [Nat.mod_one], allB_zero HOB.out⟩
        go_wp2_with fail
        go_loop [6] (fun i => ∃ o : Nat, o ≤ n ∧ i = .int .i64 o ∧ Hid (W % 2 ^ o = 0 ∧ allB op o W)) (fun i => n - (RowKit.intOf i).toNat)
        case atStart => exact ⟨0, Nat.zero_le _, rfl, HA0⟩
        case round =>
          obtain ⟨o, ho, rfl, HA⟩ := hrel
          by_cases hon : o < n
          · have hdo : decide (o < n) = true := decide_eq_true hon
            have hoi : (o : Int) < (n : Int) := by omega
            have hoc : ((o : Int) + 1) = ((o + 1 : Nat) : Int) := by simp
            have SZ1 : Hid (∀ w, Calls Try.prog 37 #[.int .i64 ((o : Int) + 1)] w fun e w' => e = .returned (.int .i64 ((2 ^ (o + 1) : Nat) : Int)) ∧ w' = w) := fun w => by rw [hoc]; exact rSize_any (o + 1) (by omega) w
            have hfit : W % 2 ^ (o + 1) = 0 → W + 2 ^ (o + 1) ≤ 2 ^ n := fun h => by
              have hWn : W < 2 ^ n := by rw [← HM.out]; exact hlt
              have h1 := flo_next (m := 2 ^ (o + 1)) (b := 2 ^ n) (x := W) (two_mod (by omega) (Nat.mod_self _)) hWn (two_pos _)
              rw [flo_of (two_pos _) h (Nat.le_refl _) (by have := two_pos (o + 1); omega)] at h1
              exact h1
            have hP0 := two_pos (o + 1)
            obtain ⟨P, hP⟩ : ∃ P, P = 2 ^ (o + 1) := ⟨_, rfl⟩
            rw [← hP] at SZ1 hfit hP0
            have HP := Lib.hid hP
            clear hoc hP
            have hPn : ¬ (P : Int) = 0 := by omega
            by_cases hz : W % P = 0
            · have hzz1 : (W : Int) % (P : Int) = 0 := by
                have : ((W % P : Nat) : Int) = 0 := by rw [hz]; rfl
                simpa using this
              have hfp := hfit hz
              rw [← HM.out] at hfp
              have AL : Hid (Calls Try.prog 48 #[.slice (some ⟨g, 0, none⟩) M c, .int .i64 (W : Int), .int .i64 (P : Int)] wr fun e w' => AllPost OL W P wr e w') := by
                have := all_any (.slice (some ⟨g, 0, none⟩) M c) OL W P wr HROr.out (by rw [HOL.out]; exact hfp) (by rw [HOL.out]; omega)
                exact this
              have HZ := Lib.hid hz
              clear hfit hz
              go_wp2_with fail
              refine (SZ1.out _).mono ?_; rintro e w2 ⟨rfl, hw⟩; replace hw := hw.symm; subst hw
              go_wp2_with fail
              refine (SZ1.out _).mono ?_; rintro e w2 ⟨rfl, hw⟩; replace hw := hw.symm; subst hw
              go_wp2_with fail
              refine AL.out.mono ?_; rintro e w2 ⟨r, rfl, hr, hw⟩; replace hw := hw.symm; subst hw
              have HR : Hid (r = true ↔ allB op (o + 1) W) := by
                unfold Hid
                rw [hr]
                unfold allB inB
                rw [← HP.out, HOPD.out]
                exact ⟨fun h x hx => h x hx.1 hx.2, fun h x h1 h2 => h x ⟨h1, h2⟩⟩
              clear hr AL
              cases r with
              | true =>
                go_wp2_with fail
                go_round
                case rel => exact ⟨o + 1, hon, by go_num, by rw [← HP.out]; exact HZ.out, by first | exact HR.out.1 rfl | exact HR.out.1 trivial⟩
                case measure => simp [RowKit.intOf]; omega
              | false =>
                have hF : isF n op o W := HG.out.isF HOP.out ho HA.out.1 HA.out.2 (fun _ _ h => by have := HR.out.2 h; cases this)
                clear hon hdo hoi
                have hQ2 := two_pos o
                obtain ⟨Q, hQ⟩ : ∃ Q, Q = 2 ^ o := ⟨_, rfl⟩
                have hQb : W + Q ≤ M := by rw [hQ, HM.out]; exact hF.2.2.1
                have hQp : 0 < Q := by rw [hQ]; exact two_pos o
                have HGN : Hid (GreedR n op (W + Q) (out ++ [(W, o)])) := by unfold Hid; rw [hQ]; exact HG.out.take hF
                have SZO : Hid (∀ w, Calls Try.prog 37 #[.int .i64 (o : Int)] w fun e w' => e = .returned (.int .i64 (Q : Int)) ∧ w' = w) := fun w => by rw [hQ]; exact rSize_any o (by omega) w
                have HNEW : Hid (∀ q u, (blkC (W, o))[q]? = some u → (wr.alloc (.cells #[.int .i64 (W : Int), .int .i64 (o : Int)] 45)).cell? ((⟨wr.heap.size, 0, none⟩ : Addr).add q) = some u) := news_alloc wr (blkC (W, o)) 45
                have HOA : Hid ((wr.alloc (.cells #[.int .i64 (W : Int), .int .i64 (o : Int)] 45)).ownsRow B 45 2 (.slice sa N sc) N (blkL out)) := by
                  have := HO.out.alloc (.cells #[.int .i64 (W : Int), .int .i64 (o : Int)] 45)
                  rw [← HN.out] at this; exact this
                have HBB : Hid (B ≤ wr.heap.size) := by unfold Hid; rw [HBB1.out]; exact HBr.out.size
                clear hQ hQ2 hF
                go_wp2_with (at_builtin; refine wpList_append_own_at _ rfl _ _ 39 rfl B 45 i0 _ 2 16 Try.underlying39 hi hz0 hz1 hz2 rfl (by decide) _ _ _ rfl HOA.out _ 1 1 (blkC (W, o)) rfl rfl HNEW.out (by intro u hu; simp [blkC] at hu; rcases hu with rfl | rfl <;> rfl) (by unfold maxLen; omega) (by omega) (by simp; have := HBB.out; omega) ?_; intro v5 w5 hown5 hgrow5 hnil5 hat5; obtain ⟨a5, c5, rfl⟩ := own_slice hown5)
                refine (SZO.out _).mono ?_; rintro e w6 ⟨rfl, hw⟩; replace hw := hw.symm; subst hw
                have HOUT : Hid (BOwn w5 B (.slice a5 (N + 1) c5) (out ++ [(W, o)])) := by
                  unfold Hid BOwn; rw [blkL_snoc, List.length_append, ← HN.out]; exact hown5
                have HB5 : Hid (Below w1.heap.size w1 w5) := (HBr.out.alloc HBr.out.size _).grown hgrow5 (by simp; have := HBr.out.size; omega) (fun b hb => by have := (HOA.out.lt b hb).1; rw [HBB1.out] at this; exact this)
                clear hown5 hgrow5 hnil5 hat5
                go_wp2_with fail
                go_roundw
                case rel => exact ⟨W + Q, N + 1, out ++ [(W, o)], a5, c5, by omega, by go_num, rfl, by unfold Hid; rw [List.length_append, ← HN.out]; rfl, HGN, HOUT, HB5⟩
                case measure => simp [RowKit.intOf]; omega
            · obtain ⟨R, hR⟩ : ∃ R : Nat, R = W % P := ⟨_, rfl⟩
              have hzz1 : (W : Int) % (P : Int) = (R : Int) := by rw [hR]; simp
              have hzz2 : ¬ (R : Int) = 0 := by omega
              have hzz3 : ((R : Int) == 0) = false := beq_eq_false_iff_ne.2 hzz2
              have hF : isF n op o W := HG.out.isF HOP.out ho HA.out.1 HA.out.2 (fun _ h _ => hz (by rw [HP.out]; exact h))
              clear hfit hz hR
              have hQ2 := two_pos o
              obtain ⟨Q, hQ⟩ : ∃ Q, Q = 2 ^ o := ⟨_, rfl⟩
              have hQb : W + Q ≤ M := by rw [hQ, HM.out]; exact hF.2.2.1
              have hQp : 0 < Q := by rw [hQ]; exact two_pos o
              have HGN : Hid (GreedR n op (W + Q) (out ++ [(W, o)])) := by unfold Hid; rw [hQ]; exact HG.out.take hF
              have SZO : Hid (∀ w, Calls Try.prog 37 #[.int .i64 (o : Int)] w fun e w' => e = .returned (.int .i64 (Q : Int)) ∧ w' = w) := fun w => by rw [hQ]; exact rSize_any o (by omega) w
              have HNEW : Hid (∀ q u, (blkC (W, o))[q]? = some u → (wr.alloc (.cells #[.int .i64 (W : Int), .int .i64 (o : Int)] 45)).cell? ((⟨wr.heap.size, 0, none⟩ : Addr).add q) = some u) := news_alloc wr (blkC (W, o)) 45
              have HOA : Hid ((wr.alloc (.cells #[.int .i64 (W : Int), .int .i64 (o : Int)] 45)).ownsRow B 45 2 (.slice sa N sc) N (blkL out)) := by
                have := HO.out.alloc (.cells #[.int .i64 (W : Int), .int .i64 (o : Int)] 45)
                rw [← HN.out] at this; exact this
              have HBB : Hid (B ≤ wr.heap.size) := by unfold Hid; rw [HBB1.out]; exact HBr.out.size
              clear hQ hQ2 hF
              go_wp2_with fail
              refine (SZ1.out _).mono ?_; rintro e w2 ⟨rfl, hw⟩; replace hw := hw.symm; subst hw
              go_wp2_with (at_builtin; refine wpList_append_own_at _ rfl _ _ 39 rfl B 45 i0 _ 2 16 Try.underlying39 hi hz0 hz1 hz2 rfl (by decide) _ _ _ rfl HOA.out _ 1 1 (blkC (W, o)) rfl rfl HNEW.out (by intro u hu; simp [blkC] at hu; rcases hu with rfl | rfl <;> rfl) (by unfold maxLen; omega) (by omega) (by simp; have := HBB.out; omega) ?_; intro v5 w5 hown5 hgrow5 hnil5 hat5; obtain ⟨a5, c5, rfl⟩ := own_slice hown5)
              refine (SZO.out _).mono ?_; rintro e w6 ⟨rfl, hw⟩; replace hw := hw.symm; subst hw
              have HOUT : Hid (BOwn w5 B (.slice a5 (N + 1) c5) (out ++ [(W, o)])) := by
                unfold Hid BOwn; rw [blkL_snoc, List.length_append, ← HN.out]; exact hown5
              have HB5 : Hid (Below w1.heap.size w1 w5) := (HBr.out.alloc HBr.out.size _).grown hgrow5 (by simp; have := HBr.out.size; omega) (fun b hb => by have := (HOA.out.lt b hb).1; rw [HBB1.out] at this; exact this)
              clear hown5 hgrow5 hnil5 hat5
              go_wp2_with fail
              go_roundw
              case rel => exact ⟨W + Q, N + 1, out ++ [(W, o)], a5, c5, by omega, by go_num, rfl, by unfold Hid; rw [List.length_append, ← HN.out]; rfl, HGN, HOUT, HB5⟩
              case measure => simp [RowKit.intOf]; omega
          · have hdo : decide (o < n) = false := decide_eq_false hon
            have hoi : ¬ (o : Int) < (n : Int) := by omega
            have hF : isF n op o W := HG.out.isF HOP.out ho HA.out.1 HA.out.2 (fun h _ _ => hon h)
            clear hon
            have hQ2 := two_pos o
            obtain ⟨Q, hQ⟩ : ∃ Q, Q = 2 ^ o := ⟨_, rfl⟩
            have hQb : W + Q ≤ M := by rw [hQ, HM.out]; exact hF.2.2.1
            have hQp : 0 < Q := by rw [hQ]; exact two_pos o
            have HGN : Hid (GreedR n op (W + Q) (out ++ [(W, o)])) := by unfold Hid; rw [hQ]; exact HG.out.take hF
            have SZO : Hid (∀ w, Calls Try.prog 37 #[.int .i64 (o : Int)] w fun e w' => e = .returned (.int .i64 (Q : Int)) ∧ w' = w) := fun w => by rw [hQ]; exact rSize_any o (by omega) w
            have HNEW : Hid (∀ q u, (blkC (W, o))[q]? = some u → (wr.alloc (.cells #[.int .i64 (W : Int), .int .i64 (o : Int)] 45)).cell? ((⟨wr.heap.size, 0, none⟩ : Addr).add q) = some u) := news_alloc wr (blkC (W, o)) 45
            have HOA : Hid ((wr.alloc (.cells #[.int .i64 (W : Int), .int .i64 (o : Int)] 45)).ownsRow B 45 2 (.slice sa N sc) N (blkL out)) := by
              have := HO.out.alloc (.cells #[.int .i64 (W : Int), .int .i64 (o : Int)] 45)
              rw [← HN.out] at this; exact this
            have HBB : Hid (B ≤ wr.heap.size) := by unfold Hid; rw [HBB1.out]; exact HBr.out.size
            clear hQ hQ2 hF
            go_wp2_with (at_builtin; refine wpList_append_own_at _ rfl _ _ 39 rfl B 45 i0 _ 2 16 Try.underlying39 hi hz0 hz1 hz2 rfl (by decide) _ _ _ rfl HOA.out _ 1 1 (blkC (W, o)) rfl rfl HNEW.out (by intro u hu; simp [blkC] at hu; rcases hu with rfl | rfl <;> rfl) (by unfold maxLen; omega) (by omega) (by simp; have := HBB.out; omega) ?_; intro v5 w5 hown5 hgrow5 hnil5 hat5; obtain ⟨a5, c5, rfl⟩ := own_slice hown5)
            refine (SZO.out _).mono ?_; rintro e w6 ⟨rfl, hw⟩; replace hw := hw.symm; subst hw
            have HOUT : Hid (BOwn w5 B (.slice a5 (N + 1) c5) (out ++ [(W, o)])) := by
              unfold Hid BOwn; rw [blkL_snoc, List.length_append, ← HN.out]; exact hown5
            have HB5 : Hid (Below w1.heap.size w1 w5) := (HBr.out.alloc HBr.out.size _).grown hgrow5 (by simp; have := HBr.out.size; omega) (fun b hb => by have := (HOA.out.lt b hb).1; rw [HBB1.out] at this; exact this)
            clear hown5 hgrow5 hnil5 hat5
            go_wp2_with fail
            go_roundw
            case rel => exact ⟨W + Q, N + 1, out ++ [(W, o)], a5, c5, by omega, by go_num, rfl, by unfold Hid; rw [List.length_append, ← HN.out]; rfl, HGN, HOUT, HB5⟩
            case measure => simp [RowKit.intOf]; omega
    · have hd : decide (W < M) = false := decide_eq_false hlt
      have hWi : ¬ (W : Int) < (M : Int) := by omega
      have hall := HG.out.all (by rw [← HM.out]; omega)
      have HALL := Lib.hid hall
      have HFIN : Hid (BOwn wr w.heap.size (.slice sa N sc) (freeL n op)) := by unfold Hid; rw [← HALL.out]; exact HO.out.mono HBW.out
      have HBF := Lib.hid (HB1.out.trans (HBr.out.mono HB1.out.size))
      clear hall hlt hW
      go_wp2_with fail
      go_ret
      exact ⟨_, rfl, HFIN.out, HBF.out⟩
end

section
open Go Go.RowKit Go.Lib
theorem brow_at {w : World} {v : Value} {L : List Bk} {k : Nat} (h : BRow w v L) (hk : k < L.length) : ∃ q off c, v = .slice (some ⟨q, off, none⟩) L.length c ∧ q < w.heap.size ∧ BCells w q off L := by
  rcases h with ⟨e, _⟩ | ⟨q, off, c, h1, h2, h3, h4, h5⟩
  · rw [e] at hk; simp at hk
  · exact ⟨q, off, c, h1, World.block_lt_of_cell? w _ (h5 0 (by omega)).1, h5⟩
set_option maxHeartbeats 4000000 in
theorem rHeld_any (b n : Nat) (L : List Bk) (bad : List Bool) (x : Int) (w : World) (hk : ROk n L bad) (h : RR w b n L bad) :
    Calls Try.prog 26 #[.pointer (some ⟨b, 0, none⟩), .int .i64 x] w fun e w' => HeldPost L x w e w' := by
  obtain ⟨vL, vB, k0, k1, k2, hL, _⟩ := h
  have hfew := hk.few
  have HK := Lib.hid hk
  obtain ⟨w0, hw0⟩ : ∃ w0, w0 = w.alloc (.cells #[.int .i64 0, .int .i64 0] 45) := ⟨_, rfl⟩
  obtain ⟨gR, hgR⟩ : ∃ gR, gR = w.heap.size := ⟨_, rfl⟩
  have hb0 : Below w.heap.size w w0 := by rw [hw0]; exact (Below.refl _ _).alloc (Nat.le_refl _) _
  have HR0 : Hid (Blk w0 gR #[.int .i64 0, .int .i64 0] 45) := by unfold Hid; rw [hw0, hgR]; exact Blk.new _ _ _
  have HB0 := Lib.hid hb0
  have K1 := Lib.hid (cell_next hb0 k1)
  have HL := Lib.hid (hL.kept hb0)
  obtain ⟨la, lc, rfl⟩ := hL.slice
  obtain ⟨LN, hLN⟩ : ∃ LN, LN = L.length := ⟨_, rfl⟩
  rw [← hLN] at K1 hfew
  have HLN := Lib.hid hLN
  have h00 : Below w0.heap.size w0 w0 := Below.refl _ _
  clear hb0 hLN k0 k1 k2 hL hk
  go_enter Try.func26, Try.ntmps26
  go_wp2_with fail
  rw [← hw0, ← hgR]
  have HGR := Lib.hid hgR
  clear hw0 hgR
  go_loopw [6] (fun i wr => ∃ k : Nat, k ≤ LN ∧ i = .int .i64 k ∧ Hid (∀ j (hj : j < L.length), j < k → inI L[j] x = false) ∧ Hid (Below w0.heap.size w0 wr)) (fun i _ => LN - (RowKit.intOf i).toNat)
  case atStart => exact ⟨0, Nat.zero_le _, rfl, fun j _ h => by omega, h00⟩
  case round =>
    obtain ⟨k, hk, rfl, HN, HB⟩ := hrel
    have c1 := cell_next HB.out K1.out
    have HR := Lib.hid (HR0.out.kept HB.out)
    have r0 := HR.out.cell 0
    have r1 := HR.out.cell 1
    simp at r0 r1
    by_cases hlt : k < LN
    · have hd : decide (k < LN) = true := decide_eq_true hlt
      have hki : (k : Int) < (LN : Int) := by omega
      have hkL : k < L.length := by rw [← HLN.out]; exact hlt
      obtain ⟨q, off, cL, hqv, hq0, hcell⟩ := brow_at HL.out hkL
      have hqa : la = some ⟨q, off, none⟩ := by injection hqv
      subst hqa
      obtain ⟨d0, d1⟩ := (hcell.kept HB.out) k hkL
      have hbk := HK.out.bk _ (List.getElem_mem hkL)
      have hn10 := HK.out.n10
      have hMn := pow_1024 hn10
      obtain ⟨⟨bs, bo⟩, hbb⟩ : ∃ b', b' = L[k] := ⟨_, rfl⟩
      rw [← hbb] at d0 d1 hbk
      dsimp only at d0 d1 hbk
      have HBB := Lib.hid hbb
      have SZ : Hid (∀ w, Calls Try.prog 37 #[.int .i64 (bo : Int)] w fun e w' => e = .returned (.int .i64 ((2 ^ bo : Nat) : Int)) ∧ w' = w) := fun w => rSize_any bo (by omega) w
      have hb2 := hbk.2
      obtain ⟨P, hP⟩ : ∃ P, P = 2 ^ bo := ⟨_, rfl⟩
      rw [← hP] at SZ hb2
      have hin : inI (bs, bo) x = (decide ((bs : Int) ≤ x) && decide (x < (bs : Int) + (P : Int))) := by rw [hP]; rfl
      have HIN := Lib.hid hin
      have hPb : bs + P ≤ 1024 := by omega
      obtain ⟨t, ht⟩ : ∃ t, t = inI (bs, bo) x := ⟨_, rfl⟩
      have HT := Lib.hid ht
      clear hqv hcell hbb hP hin ht hbk hb2
      go_upto_region 4 with fail
      go_cut [47] (fun sl wx => sl = .bool t ∧ Hid (Below w0.heap.size w0 wx))
      case first =>
        clear r0 r1
        by_cases hge : (bs : Int) ≤ x
        · have hg1 : decide ((bs : Int) ≤ x) = true := decide_eq_true hge
          have hs1 : IntKind.i64.wrap ((bs : Int) + (P : Int)) = (bs : Int) + (P : Int) := by rw [IntKind.wrap_i64]; omega
          have HTT : Hid (t = decide (x < (bs : Int) + (P : Int))) := by unfold Hid; rw [HT.out, HIN.out, hg1]; rfl
          go_quiet (first | (go_at_call 37; exact Calls.quiet_of_same (SZ.out _)))
          go_wp2_with fail
          go_meet
          exact ⟨by rw [HTT.out], below_drewN HB.out _⟩
        · have hg1 : decide ((bs : Int) ≤ x) = false := decide_eq_false hge
          have HTT : Hid (t = false) := by unfold Hid; rw [HT.out, HIN.out, hg1]; rfl
          go_region
          go_wp2_with fail
          go_meet
          exact ⟨by rw [HTT.out], by first | exact below_drewN HB.out _ | exact HB.out.drew⟩
      case rest =>
        obtain ⟨rfl, HBx⟩ := hcut
        cases t with
        | true =>
          have c1 := cell_next HBx.out K1.out
          obtain ⟨q', off', cL, hqv, hq0', hcell⟩ := brow_at HL.out hkL
          obtain ⟨rfl, rfl⟩ : q = q' ∧ off = off' := by injection hqv with e1; injection e1 with e1; injection e1 with e2 e3; exact ⟨e2, e3⟩
          obtain ⟨d0, d1⟩ := (hcell.kept HBx.out) k hkL
          rw [← HBB.out] at d0 d1
          dsimp only at d0 d1
          have HRx := Lib.hid (HR0.out.kept HBx.out)
          have r0 := HRx.out.cell 0
          have r1 := HRx.out.cell 1
          have f0 := HRx.out.free 0
          have f1 := HRx.out.free 1
          simp at r0 r1
          have hMEM : (bs, bo) ∈ L := by rw [HBB.out]; exact List.getElem_mem hkL
          have HMEM := Lib.hid hMEM
          clear hqv hcell hMEM
          go_wp2_with fail
          have z0 := ((HRx.out.set 0 (.int .i64 (bs : Int))).set 1 (.int .i64 (bo : Int))).cell 0
          have z1 := ((HRx.out.set 0 (.int .i64 (bs : Int))).set 1 (.int .i64 (bo : Int))).cell 1
          simp at z0 z1
          refine bodyPost_ret (v := .tuple #[bkV (bs, bo), .bool true]) (by simp [results, Try.results26, go_sem, z0, z1]) rfl ?_
          exact ⟨(bs, bo), true, rfl, .yes _ HMEM.out HT.out.symm, ((HB0.out.trans (HBx.out.mono HB0.out.size)).setCell (by rw [HGR.out]; exact Nat.le_refl _) _).setCell (by rw [HGR.out]; exact Nat.le_refl _) _⟩
        | false =>
          go_wp2_with fail
          go_roundw
          case rel => exact ⟨k + 1, hlt, by go_num, fun j hj hjk => by
            rcases (by omega : j < k ∨ j = k) with h | rfl
            · exact HN.out j hj h
            · rw [← HBB.out]; exact HT.out.symm, HBx⟩
          case measure => simp [RowKit.intOf]; omega
    · have hd : decide (k < LN) = false := decide_eq_false hlt
      have hki : ¬ (k : Int) < (LN : Int) := by omega
      have f0 := HR.out.free 0
      have f1 := HR.out.free 1
      go_wp2_with fail
      have z0 := ((HR.out.set 0 (.int .i64 0)).set 1 (.int .i64 0)).cell 0
      have z1 := ((HR.out.set 0 (.int .i64 0)).set 1 (.int .i64 0)).cell 1
      simp at z0 z1
      refine bodyPost_ret (v := .tuple #[bkV (0, 0), .bool false]) (by simp [results, Try.results26, go_sem, z0, z1]) rfl ?_
      refine ⟨(0, 0), false, rfl, .no fun b' hb' => ?_, ((HB0.out.trans (HB.out.mono HB0.out.size)).setCell (by rw [HGR.out]; exact Nat.le_refl _) _).setCell (by rw [HGR.out]; exact Nat.le_refl _) _⟩
      obtain ⟨j, hj, rfl⟩ := List.getElem_of_mem hb'
      exact HN.out j hj (by rw [← HLN.out] at hj; omega)
end

section
open Go Go.RowKit Go.Lib
inductive BestO (F : List Bk) (q : Int) : Bk → Bool → Prop
  | no (h : BestR F q.toNat F.length (-1)) : BestO F q (0, 0) false
  | yes (m : Nat) (hm : m < F.length) (h : BestR F q.toNat F.length (m : Int)) : BestO F q F[m] true
def BestPost (F : List Bk) (q : Int) (w : World) (e : Ending) (w' : World) : Prop := ∃ b f, e = .returned (.tuple #[bkV b, .bool f]) ∧ BestO F q b f ∧ Below w.heap.size w w'
set_option maxHeartbeats 4000000 in
theorem best_any (b n : Nat) (L : List Bk) (bad : List Bool) (x : Int) (w : World) (hk : ROk n L bad) (h : RR w b n L bad) :
    Calls Try.prog 53 #[.pointer (some ⟨b, 0, none⟩), .int .i64 x] w fun e w' => BestPost (freeL n (fnL (openL n L bad))) x w e w' := by
  obtain ⟨w0, hw0⟩ : ∃ w0, w0 = w.alloc (.cells #[.int .i64 0, .int .i64 0] 45) := ⟨_, rfl⟩
  obtain ⟨gR, hgR⟩ : ∃ gR, gR = w.heap.size := ⟨_, rfl⟩
  have hb0 : Below w.heap.size w w0 := by rw [hw0]; exact (Below.refl _ _).alloc (Nat.le_refl _) _
  have HR0 : Hid (Blk w0 gR #[.int .i64 0, .int .i64 0] 45) := by unfold Hid; rw [hw0, hgR]; exact Blk.new _ _ _
  have HB0 := Lib.hid hb0
  have FR := Lib.hid (rFree_any b n L bad w0 hk (h.kept hb0))
  have hFL := freeL_len hk.n10 (fnL (openL n L bad))
  obtain ⟨F, hF⟩ : ∃ F, F = freeL n (fnL (openL n L bad)) := ⟨_, rfl⟩
  unfold RFreePost at FR
  rw [← hF] at FR hFL
  rw [← hF]
  have HFL := Lib.hid hFL
  clear hb0 hk h hF hFL
  go_enter Try.func53, Try.ntmps53
  go_wp2_with fail
  rw [← hw0, ← hgR]
  have HGR := Lib.hid hgR
  clear hw0 hgR
  refine FR.out.mono ?_; rintro e w1 ⟨vf, rfl, hof, b1⟩
  obtain ⟨qa, qc, rfl⟩ := own_slice hof
  have HF1 := Lib.hid hof
  have HR1 := Lib.hid (HR0.out.kept b1)
  have HB1 := Lib.hid (HB0.out.trans (b1.mono HB0.out.size))
  have hFl := HFL.out
  obtain ⟨LF, hLF⟩ : ∃ LF, LF = F.length := ⟨_, rfl⟩
  rw [← hLF]
  have hLFm : LF ≤ 1024 := by omega
  have HLF := Lib.hid hLF
  have HCL : Hid (0 < LF → ∃ q, qa = some ⟨q, 0, none⟩ ∧ q < w1.heap.size ∧ BCells w1 q 0 F) := fun h => by
    obtain ⟨q, cap, hqv, _, hq, _, _, hcell⟩ := bown_parts HF1.out (by rw [← HLF.out]; exact h)
    exact ⟨q, by injection hqv, hq, hcell⟩
  have h11 : Below w1.heap.size w1 w1 := Below.refl _ _
  clear hof b1 hFl hLF FR
  go_wp2_with fail
  go_loopw [7, 8] (fun bv i wr => ∃ (k : Nat) (bi : Int), k ≤ LF ∧ i = .int .i64 k ∧ bv = .int .i64 bi ∧ Hid (BestR F x.toNat k bi) ∧ Hid (Below w1.heap.size w1 wr)) (fun _ i _ => LF - (RowKit.intOf i).toNat)
  case atStart => exact ⟨0, -1, Nat.zero_le _, rfl, rfl, BestR.zero _ _, h11⟩
  case round =>
    obtain ⟨k, bi, hk, rfl, rfl, HBE, HBr⟩ := hrel
    by_cases hlt : k < LF
    · have hlt' : decide (k < LF) = true := decide_eq_true hlt
      have hlti : (k : Int) < (LF : Int) := by omega
      have hkF : k < F.length := by rw [← HLF.out]; exact hlt
      obtain ⟨q, hqa, hql, hcell⟩ := HCL.out (by omega)
      subst hqa
      have c1 := ((hcell.kept HBr.out) k hkF).2
      simp only [Nat.zero_add] at c1
      obtain ⟨⟨ks, ko⟩, hb⟩ : ∃ b, b = F[k] := ⟨_, rfl⟩
      rw [← hb] at c1
      dsimp only at c1
      have HB := Lib.hid hb
      have HC := Lib.hid hcell
      clear hb hcell
      by_cases hko : (ko : Int) < x
      · have hd : decide (x ≤ (ko : Int)) = false := decide_eq_false (by omega)
        have HN := Lib.hid (HBE.out.skip hkF (by rw [← HB.out]; dsimp only; omega))
        clear hko
        go_wp2_with fail
        go_region
        go_wp2_with fail
        go_roundw
        case rel => exact ⟨k + 1, bi, hlt, by go_num, rfl, HN, by first | exact below_drewN HBr.out _ | exact HBr.out.drew⟩
        case measure => simp [RowKit.intOf]; omega
      · have hd : decide (x ≤ (ko : Int)) = true := decide_eq_true (by omega)
        have hok : x.toNat ≤ F[k].2 := by rw [← HB.out]; dsimp only; omega
        rcases HBE.out.bound with rfl | ⟨m, rfl, hmF, hmk⟩
        · have HN := Lib.hid (HBE.out.first hkF hok)
          clear hok hko
          go_wp2_with fail
          go_region
          go_wp2_with fail
          go_roundw
          case rel => exact ⟨k + 1, (k : Int), hlt, by go_num, rfl, HN, by first | exact below_drewN HBr.out _ | exact HBr.out.drew⟩
          case measure => simp [RowKit.intOf]; omega
        · have d1 := ((HC.out.kept HBr.out) m hmF).2
          simp only [Nat.zero_add] at d1
          obtain ⟨⟨ms, mo⟩, hbm⟩ : ∃ b, b = F[m] := ⟨_, rfl⟩
          rw [← hbm] at d1
          dsimp only at d1
          have HM := Lib.hid hbm
          have hmL : m < LF := by omega
          have hmi : (m : Int) < (LF : Int) := by omega
          have hm0 : decide ((m : Int) < 0) = false := decide_eq_false (by omega)
          have hmz : ¬ ((m : Int) < 0) := by omega
          clear hbm hko
          by_cases hlt2 : ko < mo
          · have hd2 : decide (ko < mo) = true := decide_eq_true hlt2
            have hd3 : (ko : Int) < (mo : Int) := by omega
            have HN := Lib.hid (HBE.out.better hkF hmF hok (by rw [← HB.out, ← HM.out]; exact hlt2))
            clear hok
            go_wp2_with fail
            go_region
            go_wp2_with fail
            go_roundw
            case rel => exact ⟨k + 1, (k : Int), hlt, by go_num, rfl, HN, by first | exact below_drewN HBr.out _ | exact HBr.out.drew⟩
            case measure => simp [RowKit.intOf]; omega
          · have hd2 : decide (ko < mo) = false := decide_eq_false hlt2
            have hd3 : ¬ ((ko : Int) < (mo : Int)) := by omega
            have HN := Lib.hid (HBE.out.worse hkF hmF (by rw [← HB.out, ← HM.out]; dsimp only; omega))
            clear hok hlt2
            go_wp2_with fail
            go_region
            go_wp2_with fail
            go_roundw
            case rel => exact ⟨k + 1, (m : Int), hlt, by go_num, rfl, HN, by first | exact below_drewN HBr.out _ | exact HBr.out.drew⟩
            case measure => simp [RowKit.intOf]; omega
    · have hlt' : decide (k < LF) = false := decide_eq_false hlt
      have hlti : ¬ ((k : Int) < (LF : Int)) := by omega
      obtain rfl : LF = k := by omega
      have HRr := Lib.hid (HR1.out.kept HBr.out)
      have r0 := HRr.out.cell 0
      have r1 := HRr.out.cell 1
      have f0 := HRr.out.free 0
      have f1 := HRr.out.free 1
      simp at r0 r1
      have HBF : Hid (BestR F x.toNat F.length bi) := by unfold Hid; rw [← HLF.out]; exact HBE.out
      have HEND : Hid (∀ u v, Below w.heap.size w ((wr.setCell ⟨gR, 0, none⟩ u).setCell ⟨gR, 1, none⟩ v)) := fun u v => ((HB1.out.trans (HBr.out.mono HB1.out.size)).setCell (by rw [HGR.out]; exact Nat.le_refl _) _).setCell (by rw [HGR.out]; exact Nat.le_refl _) _
      clear hlt
      rcases HBE.out.bound with rfl | ⟨m, rfl, hmF, hmk⟩
      · go_wp2_with fail
        have z0 := ((HRr.out.set 0 (.int .i64 0)).set 1 (.int .i64 0)).cell 0
        have z1 := ((HRr.out.set 0 (.int .i64 0)).set 1 (.int .i64 0)).cell 1
        simp at z0 z1
        refine bodyPost_ret (v := .tuple #[bkV (0, 0), .bool false]) (by simp [results, Try.results53, go_sem, z0, z1]) rfl ?_
        exact ⟨(0, 0), false, rfl, .no HBF.out, HEND.out _ _⟩
      · obtain ⟨q, hqa, hql, hcell⟩ := HCL.out (by omega)
        subst hqa
        obtain ⟨d0, d1⟩ := (hcell.kept HBr.out) m hmF
        simp only [Nat.zero_add] at d0 d1
        have HY := Lib.hid (BestO.yes (q := x) m hmF HBF.out)
        obtain ⟨⟨ms, mo⟩, hbm⟩ : ∃ b, b = F[m] := ⟨_, rfl⟩
        rw [← hbm] at d0 d1 HY
        dsimp only at d0 d1
        have hmi : (m : Int) < (LF : Int) := by omega
        have hm0 : decide ((m : Int) < 0) = false := decide_eq_false (by omega)
        have hmz : ¬ ((m : Int) < 0) := by omega
        clear hbm hcell
        go_wp2_with fail
        have z0 := ((HRr.out.set 0 (.int .i64 (ms : Int))).set 1 (.int .i64 (mo : Int))).cell 0
        have z1 := ((HRr.out.set 0 (.int .i64 (ms : Int))).set 1 (.int .i64 (mo : Int))).cell 1
        simp at z0 z1
        refine bodyPost_ret (v := .tuple #[bkV (ms, mo), .bool true]) (by simp [results, Try.results53, go_sem, z0, z1]) rfl ?_
        exact ⟨(ms, mo), true, rfl, HY.out, HEND.out _ _⟩

/-! Fits. -/
theorem BestO.fits {n : Nat} {op : Opn} {q : Int} {b : Bk} {f : Bool} (h : BestO (freeL n op) q b f) (h0 : 0 ≤ q) : f = true ↔ fitsB n op q := by
  cases h with
  | no h =>
    refine ⟨fun e => (by cases e), ?_⟩
    rintro ⟨o, k, h1, h2, h3, h4⟩
    rw [h1] at h
    exact absurd (h.full k (by simpa using h2) h3) h4
  | yes m hm h =>
    refine ⟨fun _ => ?_, fun _ => rfl⟩
    generalize hb : (m : Int) = bi at h
    cases h with
    | none h => omega
    | some m' hm' hk ho hle hlt =>
      have hF := freeL_mem.1 (List.getElem_mem hm')
      exact ⟨q.toNat, _, by omega, ho, hF.1, fun e => by have := frL_mem.2 hF; rw [e] at this; simp at this⟩
theorem fits_range {n : Nat} {op : Opn} {q : Int} (h : fitsB n op q) : 0 ≤ q ∧ q ≤ (n : Int) := by
  obtain ⟨o, k, h1, h2, h3, h4⟩ := h
  omega
theorem rFits_any (b n : Nat) (L : List Bk) (bad : List Bool) (q : Int) (w : World) (hk : ROk n L bad) (h : RR w b n L bad) :
    Calls Try.prog 28 #[.pointer (some ⟨b, 0, none⟩), .int .i64 q] w fun e w' => FitsPost n (fnL (openL n L bad)) q w e w' := by
  have BE := Lib.hid (best_any b n L bad q w hk h)
  obtain ⟨vL, vB, k0, _⟩ := h
  have K0 := Lib.hid k0
  have hn := hk.n10
  clear k0 hk
  generalize fnL (openL n L bad) = op at *
  go_enter Try.func28, Try.ntmps28
  go_wp2_with fail
  refine BE.out.mono ?_; rintro e w1 ⟨⟨bs, bo⟩, f, rfl, hO, b1⟩
  have HO := Lib.hid hO
  have HB1 := Lib.hid b1
  have k1 := cell_next b1 K0.out
  have hq1 : b < w1.heap.size := World.block_lt_of_cell? w1 _ k1
  unfold bkV
  clear hO b1
  cases f with
  | false =>
    have HF : Hid (¬ fitsB n op q) := fun h => by have := (HO.out.fits (fits_range h).1).2 h; cases this
    go_wp2_with fail
    go_ret
    exact ⟨false, rfl, ⟨fun h => by (cases h), fun h => absurd h HF.out⟩, HB1.out.alloc HB1.out.size _⟩
  | true =>
    by_cases h0 : 0 ≤ q
    · have d0 : decide (0 ≤ q) = true := decide_eq_true h0
      have HF : Hid (fitsB n op q) := (HO.out.fits h0).1 rfl
      have hqn := (fits_range HF.out).2
      have d1 : decide (q ≤ (n : Int)) = true := decide_eq_true hqn
      go_wp2_with fail
      go_ret
      exact ⟨true, rfl, ⟨fun _ => HF.out, fun _ => rfl⟩, HB1.out.alloc HB1.out.size _⟩
    · have d0 : decide (0 ≤ q) = false := decide_eq_false h0
      go_wp2_with fail
      go_ret
      exact ⟨false, rfl, ⟨fun h => by (cases h), fun h => by have := (fits_range h).1; omega⟩, HB1.out.alloc HB1.out.size _⟩
end

section
open Go Go.RowKit Go.Lib
def badL (bad : List Bool) (k : Nat) : List Nat := (List.range k).filter fun x => bad.getD x false
theorem badL_succ (bad : List Bool) (k : Nat) : badL bad (k + 1) = if bad.getD k false then badL bad k ++ [k] else badL bad k := by
  unfold badL; rw [List.range_succ, List.filter_append]
  cases h : bad.getD k false
  · simp only [List.getD_eq_getElem?_getD] at h; simp [h]
  · simp only [List.getD_eq_getElem?_getD] at h; simp [h]
theorem badL_len (bad : List Bool) (k : Nat) : (badL bad k).length ≤ k := by unfold badL; exact Nat.le_trans (List.length_filter_le _ _) (by simp)
set_option maxHeartbeats 2000000 in
theorem rFailed_any (b n : Nat) (L : List Bk) (bad : List Bool) (w : World) (hk : ROk n L bad) (h : RR w b n L bad) :
    Calls Try.prog 24 #[.pointer (some ⟨b, 0, none⟩)] w fun e w' => ∃ v, e = .returned v ∧ NOwn w' w.heap.size v (natI (badL bad bad.length)) ∧ Below w.heap.size w w' := by
  obtain ⟨vL, vB, k0, k1, k2, hL, g, c, rfl, hb0, hbc⟩ := h
  obtain ⟨i0, hi, hz0, hz1, hz2⟩ := info_parts Try.infoNum
  have hM := pow_1024 hk.n10
  rw [← hk.len] at hM
  obtain ⟨M, hMd⟩ : ∃ M, M = bad.length := ⟨_, rfl⟩
  rw [← hMd] at k2 hM hb0
  have HM := Lib.hid hMd
  have HBC := Lib.hid hbc
  have K2 := Lib.hid k2
  have h0 : Below w.heap.size w w := Below.refl _ _
  rw [← hMd]
  clear hMd hk hL hbc k0 k1 k2
  go_enter Try.func24, Try.ntmps24
  go_wp2_with fail
  go_loopw [3, 4] (fun sv i wr => ∃ (k N : Nat) (sa : Option Addr) (sc : Nat), k ≤ M ∧ i = .int .i64 k ∧ sv = .slice sa N sc ∧ Hid (N = (badL bad k).length) ∧ Hid (wr.ownsRow w.heap.size 3 1 (.slice sa N sc) N (natL (badL bad k))) ∧ Hid (Below w.heap.size w wr)) (fun _ i _ => M - (RowKit.intOf i).toNat)
  case atStart => exact ⟨0, 0, none, 0, Nat.zero_le _, rfl, rfl, rfl, World.ownsRow_nil _ _ _ _, h0⟩
  case round =>
    obtain ⟨k, N, sa, sc, hk, rfl, rfl, HN, HS, HB⟩ := hrel
    have c2 := cell_next HB.out K2.out
    by_cases hlt : k < M
    · have hd : decide (k < M) = true := decide_eq_true hlt
      have hki : (k : Int) < (M : Int) := by omega
      have cb := cell_next HB.out (HBC.out k (by rw [← HM.out]; exact hlt))
      have hsu := badL_succ bad k
      have hNk : N ≤ k := by rw [HN.out]; exact badL_len bad k
      obtain ⟨bk, hbk⟩ : ∃ bk, bk = bad.getD k false := ⟨_, rfl⟩
      rw [← hbk] at cb hsu
      have HSU := Lib.hid hsu
      clear hsu hbk
      cases bk with
      | false =>
        go_wp2_with fail
        go_roundw
        case rel => exact ⟨k + 1, N, sa, sc, hlt, by go_num, rfl, by rw [HSU.out]; exact HN, by rw [HSU.out]; exact HS, HB⟩
        case measure => simp [RowKit.intOf]; omega
      | true =>
        have HNEW : Hid (∀ q u, ([Value.int .i64 (k : Int)])[q]? = some u → (wr.alloc (.cells #[.int .i64 (k : Int)] 3)).cell? ((⟨wr.heap.size, 0, none⟩ : Addr).add q) = some u) := news_alloc wr [.int .i64 (k : Int)] 3
        have HOA := Lib.hid (HS.out.alloc (.cells #[.int .i64 (k : Int)] 3))
        go_wp2_with (at_builtin; refine wpList_append_own_at _ rfl _ _ 23 rfl w.heap.size 3 i0 _ 1 8 Try.underlying23 hi hz0 hz1 hz2 rfl (by decide) _ _ _ rfl HOA.out _ 1 1 [.int .i64 (k : Int)] rfl rfl HNEW.out (by intro u hu; simp at hu; subst hu; rfl) (by unfold maxLen; omega) (by omega) (by simp; exact Nat.le_succ_of_le HB.out.size) ?_; intro v5 w5 hown5 hgrow5 hnil5 hat5; obtain ⟨a5, c5, rfl⟩ := own_slice hown5)
        go_roundw
        case measure => simp [RowKit.intOf]; omega
        case rel =>
          refine ⟨k + 1, N + 1, a5, c5, hlt, by go_num, rfl, ?_, ?_, ?_⟩
          · unfold Hid; rw [HSU.out, if_pos rfl, List.length_append, ← HN.out]; rfl
          · unfold Hid; rw [HSU.out, if_pos rfl, natL_app]; exact hown5
          · exact (HB.out.alloc HB.out.size _).grown hgrow5 (by simp; exact Nat.le_succ_of_le HB.out.size) (fun g hg => (HS.out.lt g hg).1)
    · have hd : decide (k < M) = false := decide_eq_false hlt
      have hki : ¬ (k : Int) < (M : Int) := by omega
      obtain rfl : M = k := by omega
      have HF : Hid (NOwn wr w.heap.size (.slice sa N sc) (natI (badL bad M))) := by
        unfold Hid
        show wr.ownsRow w.heap.size _ 1 _ (natI (badL bad M)).length _
        rw [natI_len, ← HN.out]; exact HS.out
      clear hlt hk
      go_wp2_with fail
      go_ret
      exact ⟨_, rfl, HF.out, HB.out⟩

/-! All taken blocks. -/
def tkIJ (L : List Bk) (w i : Nat) : List Bk := takenL w L ++ (L.take i).filter fun b => decide (b.1 = w)
theorem tkIJ_zero (L : List Bk) (w : Nat) : tkIJ L w 0 = takenL w L := by simp [tkIJ]
theorem tkIJ_all (L : List Bk) (w : Nat) : tkIJ L w L.length = takenL (w + 1) L := by
  unfold tkIJ takenL; rw [List.take_length, List.range_succ, List.flatMap_append]; simp
theorem tkIJ_succ {L : List Bk} {w i : Nat} (h : i < L.length) : tkIJ L w (i + 1) = if (L[i]).1 = w then tkIJ L w i ++ [L[i]] else tkIJ L w i := by
  have e : L.take (i + 1) = L.take i ++ [L[i]] := by rw [List.take_add_one, List.getElem?_eq_getElem h]; rfl
  unfold tkIJ; rw [e, List.filter_append]
  by_cases hq : (L[i]).1 = w
  · rw [if_pos hq, List.append_assoc]; simp [hq]
  · rw [if_neg hq]; simp [hq]
theorem filter_sum_le (L : List Bk) : ∀ w, ((List.range w).flatMap fun x => L.filter fun b => decide (b.1 = x)).length + (L.filter fun b => decide (w ≤ b.1)).length ≤ L.length
  | 0 => by
    simp only [List.range_zero, List.flatMap_nil, List.length_nil, Nat.zero_add]
    exact List.length_filter_le _ _
  | w + 1 => by
    have ih := filter_sum_le L w
    rw [List.range_succ, List.flatMap_append, List.length_append]
    have e : (L.filter fun b => decide (w ≤ b.1)).length = (L.filter fun b => decide (b.1 = w)).length + (L.filter fun b => decide (w + 1 ≤ b.1)).length := by
      clear ih
      induction L with
      | nil => rfl
      | cons a r ih =>
        rcases (by omega : a.1 < w ∨ a.1 = w ∨ w + 1 ≤ a.1) with h | h | h
        · rw [List.filter_cons_of_neg (by simp; omega), List.filter_cons_of_neg (by simp; omega), List.filter_cons_of_neg (by simp; omega)]; exact ih
        · rw [List.filter_cons_of_pos (by simp; omega), List.filter_cons_of_pos (by simp; omega), List.filter_cons_of_neg (by simp; omega), List.length_cons, List.length_cons]; omega
        · rw [List.filter_cons_of_pos (by simp; omega), List.filter_cons_of_neg (by simp; omega), List.filter_cons_of_pos (by simp; omega), List.length_cons, List.length_cons]; omega
    simp only [List.flatMap_cons, List.flatMap_nil, List.append_nil]
    omega
theorem takenL_len (w : Nat) (L : List Bk) : (takenL w L).length ≤ L.length := by have := filter_sum_le L w; unfold takenL; omega
theorem tkIJ_len (L : List Bk) (w i : Nat) : (tkIJ L w i).length ≤ L.length + L.length := by
  unfold tkIJ; rw [List.length_append]
  have h1 := takenL_len w L
  have h2 : ((L.take i).filter fun b => decide (b.1 = w)).length ≤ L.length := Nat.le_trans (List.length_filter_le _ _) (by simp; omega)
  omega
set_option maxRecDepth 100000 in
set_option maxHeartbeats 4000000 in
theorem rTaken_any (b n : Nat) (L : List Bk) (bad : List Bool) (w : World) (hk : ROk n L bad) (h : RR w b n L bad) :
    Calls Try.prog 22 #[.pointer (some ⟨b, 0, none⟩)] w fun e w' => ∃ v, e = .returned v ∧ BOwn w' w.heap.size v (takenL bad.length L) ∧ Below w.heap.size w w' := by
  obtain ⟨vL, vB, k0, k1, k2, hL, g, c, rfl, hb0, hbc⟩ := h
  obtain ⟨i0, hi, hz0, hz1, hz2⟩ := info_parts Try.infoBk
  have hM := pow_1024 hk.n10
  have hfew := hk.few
  rw [← hk.len] at hM
  obtain ⟨M, hMd⟩ : ∃ M, M = bad.length := ⟨_, rfl⟩
  rw [← hMd] at k2 hM hb0
  obtain ⟨la, lc, rfl⟩ := hL.slice
  obtain ⟨LN, hLN⟩ : ∃ LN, LN = L.length := ⟨_, rfl⟩
  rw [← hLN] at k1 hfew
  have HLN := Lib.hid hLN
  have HL := Lib.hid hL
  have K1 := Lib.hid k1
  have K2 := Lib.hid k2
  have h0 : Below w.heap.size w w := Below.refl _ _
  rw [← hMd]
  clear hMd hk hL hbc k0 k1 k2 hLN
  go_enter Try.func22, Try.ntmps22
  go_wp2_with fail
  go_loopw [3, 4] (fun sv i wr => ∃ (k N : Nat) (sa : Option Addr) (sc : Nat), k ≤ M ∧ i = .int .i64 k ∧ sv = .slice sa N sc ∧ Hid (N = (takenL k L).length) ∧ Hid (BOwn wr w.heap.size (.slice sa N sc) (takenL k L)) ∧ Hid (Below w.heap.size w wr)) (fun _ i _ => M - (RowKit.intOf i).toNat)
  case atStart => exact ⟨0, 0, none, 0, Nat.zero_le _, rfl, rfl, rfl, World.ownsRow_nil _ _ _ _, h0⟩
  case round =>
    obtain ⟨k, N, sa, sc, hk, rfl, rfl, HN, HS, HB⟩ := hrel
    have c2 := cell_next HB.out K2.out
    by_cases hlt : k < M
    · have hd : decide (k < M) = true := decide_eq_true hlt
      have hki : (k : Int) < (M : Int) := by omega
      have HS0 : Hid (BOwn wr w.heap.size (.slice sa N sc) (tkIJ L k 0)) := by unfold Hid; rw [tkIJ_zero]; exact HS.out
      have HN0 : Hid (N = (tkIJ L k 0).length) := by unfold Hid; rw [tkIJ_zero]; exact HN.out
      go_wp2_with fail
      go_loopw [3, 5] (fun sv i wr => ∃ (j N : Nat) (sa : Option Addr) (sc : Nat), j ≤ LN ∧ i = .int .i64 j ∧ sv = .slice sa N sc ∧ Hid (N = (tkIJ L k j).length) ∧ Hid (BOwn wr w.heap.size (.slice sa N sc) (tkIJ L k j)) ∧ Hid (Below w.heap.size w wr)) (fun _ i _ => LN - (RowKit.intOf i).toNat)
      case atStart => exact ⟨0, N, sa, sc, Nat.zero_le _, rfl, rfl, HN0, HS0, HB⟩
      case round =>
        obtain ⟨j, N, sa, sc, hj, rfl, rfl, HN, HS, HB⟩ := hrel
        have c1 := cell_next HB.out K1.out
        by_cases hltj : j < LN
        · have hdj : decide (j < LN) = true := decide_eq_true hltj
          have hji : (j : Int) < (LN : Int) := by omega
          have hjL : j < L.length := by rw [← HLN.out]; exact hltj
          obtain ⟨q, off, cL, hqv, hq0, hcell⟩ := brow_at HL.out hjL
          have hqa : la = some ⟨q, off, none⟩ := by injection hqv
          subst hqa
          obtain ⟨d0, d1⟩ := (hcell.kept HB.out) j hjL
          have hsu := tkIJ_succ (w := k) hjL
          have hNl : N ≤ 8192 := by rw [HN.out]; have := tkIJ_len L k j; have := HLN.out; omega
          have hql : q < wr.heap.size := Nat.lt_of_lt_of_le hq0 HB.out.size
          obtain ⟨⟨bs, bo⟩, hbb⟩ : ∃ b', b' = L[j] := ⟨_, rfl⟩
          rw [← hbb] at d0 d1 hsu
          dsimp only at d0 d1 hsu
          have HSU := Lib.hid hsu
          clear hqv hcell hbb hsu
          by_cases he : bs = k
          · subst he
            have HNEW : Hid (∀ q u, (blkC (bs, bo))[q]? = some u → (wr.alloc (.cells #[.int .i64 (bs : Int), .int .i64 (bo : Int)] 45)).cell? ((⟨wr.heap.size, 0, none⟩ : Addr).add q) = some u) := news_alloc wr (blkC (bs, bo)) 45
            have HOA : Hid ((wr.alloc (.cells #[.int .i64 (bs : Int), .int .i64 (bo : Int)] 45)).ownsRow w.heap.size 45 2 (.slice sa N sc) N (blkL (tkIJ L bs j))) := by
              have := HS.out.alloc (.cells #[.int .i64 (bs : Int), .int .i64 (bo : Int)] 45)
              rw [← HN.out] at this; exact this
            go_wp2_with (at_builtin; refine wpList_append_own_at _ rfl _ _ 39 rfl w.heap.size 45 i0 _ 2 16 Try.underlying39 hi hz0 hz1 hz2 rfl (by decide) _ _ _ rfl HOA.out _ 1 1 (blkC (bs, bo)) rfl rfl HNEW.out (by intro u hu; simp [blkC] at hu; rcases hu with rfl | rfl <;> rfl) (by unfold maxLen; omega) (by omega) (by simp; exact Nat.le_succ_of_le HB.out.size) ?_; intro v5 w5 hown5 hgrow5 hnil5 hat5; obtain ⟨a5, c5, rfl⟩ := own_slice hown5)
            go_roundw
            case measure => simp [RowKit.intOf]; omega
            case rel =>
              refine ⟨j + 1, N + 1, a5, c5, hltj, by go_num, rfl, ?_, ?_, ?_⟩
              · unfold Hid; rw [HSU.out, if_pos rfl, List.length_append, ← HN.out]; rfl
              · unfold Hid BOwn; rw [HSU.out, if_pos rfl, blkL_snoc, List.length_append, ← HN.out]; exact hown5
              · exact (HB.out.alloc HB.out.size _).grown hgrow5 (by simp; exact Nat.le_succ_of_le HB.out.size) (fun g hg => (HOA.out.lt g hg).1)
          · have hne1 : ((bs : Int) == (k : Int)) = false := beq_eq_false_iff_ne.2 (by omega)
            have hne2 : (bs == k) = false := beq_eq_false_iff_ne.2 he
            have hne3 : ¬ (bs : Int) = (k : Int) := by omega
            have HSE : Hid (tkIJ L k (j + 1) = tkIJ L k j) := by unfold Hid; rw [HSU.out, if_neg he]
            clear he
            go_wp2_with fail
            go_roundw
            case rel => exact ⟨j + 1, N, sa, sc, hltj, by go_num, rfl, by rw [HSE.out]; exact HN, by rw [HSE.out]; exact HS, HB⟩
            case measure => simp [RowKit.intOf]; omega
        · have hdj : decide (j < LN) = false := decide_eq_false hltj
          have hji : ¬ (j : Int) < (LN : Int) := by omega
          have hall : tkIJ L k j = takenL (k + 1) L := by rw [← tkIJ_all]; congr 1; rw [← HLN.out]; omega
          have HALL := Lib.hid hall
          clear hall hltj hj
          go_wp2_with fail
          go_roundw
          case rel => exact ⟨k + 1, N, sa, sc, hlt, by go_num, rfl, by rw [← HALL.out]; exact HN, by rw [← HALL.out]; exact HS, HB⟩
          case measure => simp [RowKit.intOf]; omega
    · have hd : decide (k < M) = false := decide_eq_false hlt
      have hki : ¬ (k : Int) < (M : Int) := by omega
      obtain rfl : M = k := by omega
      clear hlt hk
      go_wp2_with fail
      go_ret
      exact ⟨_, rfl, HS.out, HB.out⟩
end

end Go.Proofs.Ytcdlfhheolbhaaa
