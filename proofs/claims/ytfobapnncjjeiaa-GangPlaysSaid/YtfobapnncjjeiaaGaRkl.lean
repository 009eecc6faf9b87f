/-
  The document's matrix: closing up.
  The document's matrix: Place at any arguments, New; the program's answer and the document's are one.
  The program's matrix beside the document's; a call on both.
-/
import Derived.Test.YtfobapnncjjeiaaGaRij
import Derived.Test.YtfobapnncjjeiaaGaY
import Derived.Test.YtfobapnncjjeiaaGaA
import Derived.Test.YtfobapnncjjeiaaGaKn
namespace Go.Proofs.Ytfobapnncjjeiaa
set_option linter.unusedVariables false

section
open Go Go.RowKit Go.Lib
theorem find_at {n : Nat} {l : List Ce} (h : OkG n l) {c : Ce} (hc : c ∈ l) : ∃ q, ∃ hq : q < l.length, l[q] = c ∧ IsFind l c.1 (some q) ∧ ∀ k (hk : k < l.length), (l[k].1 = c.1 ↔ k = q) := by
  obtain ⟨q, hq, rfl⟩ := List.getElem_of_mem hc
  have hk : ∀ k (hk : k < l.length), (l[k].1 = l[q].1 ↔ k = q) := fun k hk => ⟨fun e => (List.getElem_inj (ok_nodup h)).1 (ids_inj h (List.getElem_mem hk) (List.getElem_mem hq) e), fun e => by subst e; rfl⟩
  exact ⟨q, hq, rfl, .inr ⟨q, hq, rfl, rfl, fun j hj hjq e => by have := (hk j hj).1 e; omega⟩, hk⟩
set_option maxRecDepth 100000 in
set_option maxHeartbeats 8000000 in
theorem runify_any (rb n a : Nat) (lv : Value) (l : List Ce) (w : World) (h : RMt w rb n a lv l) (hok : OkG n l) (ha : a ≤ 16) :
    Calls Try.prog 34 #[.pointer (some ⟨rb, 0, none⟩)] w fun e w' => ∃ l' d lv', e = .returned (.int .i64 (d : Nat)) ∧ URun l l.length l' d ∧ RMt w' rb n (unifyA l' a) lv' (closeG l') ∧ (∀ g, lv'.ownBlock = some g → lv.ownBlock = some g ∨ w.heap.size ≤ g) ∧ Chg (One rb) w w' := by
  obtain ⟨i0, hi, hz0, hz1, hz2⟩ := info_parts Try.infoCe
  have HI := Lib.hid (And.intro hi (And.intro hz0 (And.intro hz1 hz2)))
  have HM := Lib.hid h
  have HOK := Lib.hid hok
  have hl := hok.len
  have c1 := h.c1
  obtain ⟨va, vc, hv⟩ := own_slice h.row
  obtain ⟨N, hN⟩ : ∃ N, N = l.length := ⟨_, rfl⟩
  have HN := Lib.hid hN
  rw [← hN] at hl hv
  subst hv
  have HCR : Hid (CRow w (.slice va N vc) l) := HM.out.cr
  have HROW0 : Hid (w.ownsRow 0 48 4 (.slice va N vc) N (l.flatMap ceV)) := by
    have := HM.out.row
    unfold Hid; rw [hN]; rw [hN] at this; exact this
  obtain ⟨B, hB⟩ : ∃ B, B = w.heap.size := ⟨_, rfl⟩
  have HBB := Lib.hid hB
  clear h hok hi hz0 hz1 hz2 hN hB
  go_enter Try.func34, Try.ntmps34
  go_wp2_with fail
  clear c1
  go_loopw [3, 4, 5] (fun mv nv iv wr => ∃ (i d : Nat) (na : Option Addr) (nc nn : Nat) (l' : List Ce), i ≤ N ∧ d ≤ i ∧ iv = .int .i64 (i : Nat) ∧ mv = .int .i64 (d : Nat) ∧ nv = .slice na nn nc ∧ Hid (nn = l'.length) ∧ Hid (URun l i l' d) ∧ Hid (wr.ownsRow 0 48 4 (.slice na nn nc) nn (l'.flatMap ceV)) ∧ Hid (Below w.heap.size w wr)) (fun _ _ iv _ => N - (RowKit.intOf iv).toNat)
  case atStart => exact ⟨0, 0, va, vc, N, l, Nat.zero_le _, Nat.le_refl _, rfl, rfl, rfl, HN.out, .zero, HROW0.out, Below.refl _ _⟩
  case round =>
    obtain ⟨i, d, na, nc, nn, l', hiN, hdi, rfl, rfl, rfl, HNN, HU, HO, HBr⟩ := hrel
    have c1 := (HM.out.kept HBr.out).c1
    by_cases hlt : i < N
    · have d1 : decide ((i : Int) < (N : Int)) = true := decide_eq_true (by omega)
      have d1' : decide (i < N) = true := decide_eq_true hlt
      have hiNi : (i : Int) < (N : Int) := by omega
      have hix : i < l.length := by rw [← HN.out]; exact hlt
      have HINV := Lib.hid (HU.out.inv HOK.out)
      have HSTEP : Hid (∀ l2 e, UStep l' l[i] l2 e → URun l (i + 1) l2 (d + e)) := fun l2 e hs => .succ i l' l2 d e hix HU.out hs
      have hcl' : l[i] ∈ l' := HINV.out.rest i hix (Nat.le_refl _)
      have hco := (HOK.out.ce _ (List.getElem_mem hix))
      have hcrow := hco.row
      have hcord := hco.ord
      have hce := hco.en
      have hn10 := HOK.out.n10
      have h2n : 2 ^ n ≤ 1024 := by have := Nat.pow_le_pow_right (n := 2) (by omega) hn10; simpa using this
      have hx2 : l[i].2.2.1 ≤ 4096 := by
        have h2 : l[i].2.2.1 ≤ l[i].en := Nat.le_of_succ_le (en_st _)
        omega
      have HFA := Lib.hid (find_at HINV.out.ok hcl')
      have hnl : nn ≤ 16384 := by rw [HNN.out]; exact HINV.out.ok.len
      cases va with
      | none => have := crow_none HCR.out; rw [this] at hix; simp at hix
      | some A =>
      obtain ⟨bb, off, rfl⟩ := crow_some HCR.out (by omega)
      obtain ⟨y0, y1, y2, y3⟩ := HCR.out.cells hix HBr.out
      obtain ⟨c, hc⟩ : ∃ c, c = l[i] := ⟨_, rfl⟩
      rw [← hc] at y0 y1 y2 y3 hcrow hcord hx2 HSTEP HFA
      clear hc hce hix hco hcl'
      obtain ⟨x0, x1, x2, x3⟩ := c
      dsimp only [Ce.ord, Ce.row] at y0 y1 y2 y3 hcrow hcord hx2 HFA
      have RN : Hid (CRow wr (.slice na nn nc) l') := by
        have : COwn wr 0 (.slice na nn nc) l' := by show wr.ownsRow 0 48 4 _ l'.length _; rw [← HNN.out]; exact HO.out
        have := crow_of_own this
        exact this
      have HON : Hid (COwn wr 0 (.slice na nn nc) l') := by unfold Hid; show wr.ownsRow 0 48 4 _ l'.length _; rw [← HNN.out]; exact HO.out
      obtain ⟨gc, hgc⟩ : ∃ g, g = wr.heap.size := ⟨_, rfl⟩
      obtain ⟨Xc, hXc⟩ : ∃ x, x = wr.alloc (.cells #[.int .u32 (x0 : Nat), .int .i64 (x1 : Nat), .int .i64 (x2 : Nat), .int .i64 (x3 : Nat)] 48) := ⟨_, rfl⟩
      have hbc : Below wr.heap.size wr Xc := by rw [hXc]; exact (Below.refl _ _).alloc (Nat.le_refl _) _
      have HBXc : Hid (Below w.heap.size w Xc) := below_next hbc HBr.out
      have HGC : Hid (w.heap.size ≤ gc) := by unfold Hid; rw [hgc]; exact HBr.out.size
      have HC : Hid (Blk Xc gc #[.int .u32 (x0 : Nat), .int .i64 (x1 : Nat), .int .i64 (x2 : Nat), .int .i64 (x3 : Nat)] 48) := by unfold Hid; rw [hXc, hgc]; exact Blk.new wr _ _
      have HONX : Hid (COwn Xc 0 (.slice na nn nc) l') := own_older HON.out hbc
      have HNG : Hid (∀ g, (Value.slice na nn nc).ownBlock = some g → g < gc) := fun g hg => by rw [hgc]; exact (HON.out.lt g hg).2
      have RNX : Hid (CRow Xc (.slice na nn nc) l') := crow_of_own HONX.out
      have FR : Hid (∀ r, r < 16 → ∀ wq, Below Xc.heap.size Xc wq → Calls Try.prog 46 #[.slice na nn nc, .int .i64 (r : Nat), .agg #[.int .i64 (x2 : Nat), .int .i64 (x3 : Nat)]] wq fun e w'' => ∃ f : Bool, e = .returned (.bool f) ∧ BIs f (FreeG l' r x2 x3) ∧ Below wq.heap.size wq w'') := fun r hr wq hq => by
        have := rfree_any n r x2 x3 (.slice na nn nc) l' wq (RowG.kept RNX.out hq) HINV.out.ok hr (by omega) (by omega)
        exact this
      go_upto_region 7 with fail
      rw [← hgc, ← hXc]
      clear hgc hXc hbc HO RN HON y0 y1 y2 y3 c1
      go_wp2_with fail
      go_loopw [3, 4, 7] (fun mv nv rv wr => ∃ r : Nat, r ≤ x1 ∧ rv = .int .i64 (r : Nat) ∧ mv = .int .i64 (d : Nat) ∧ nv = .slice na nn nc ∧ Hid (∀ r', r' < r → ¬ FreeG l' r' x2 x3) ∧ Hid (Below Xc.heap.size Xc wr)) (fun _ _ rv _ => x1 - (RowKit.intOf rv).toNat)
      case atStart => exact ⟨0, Nat.zero_le _, rfl, rfl, rfl, fun r' h => absurd h (Nat.not_lt_zero _), Below.refl _ _⟩
      case round =>
        clear HBr
        obtain ⟨r, hr, rfl, rfl, rfl, HNF, HBr⟩ := hrel
        obtain ⟨b0, b1, b2, b3, _, _, _, _⟩ := c4_of (HC.out.kept HBr.out)
        by_cases hlr : r < x1
        · have e1 : decide ((r : Int) < (x1 : Int)) = true := decide_eq_true (by omega)
          have e1' : decide (r < x1) = true := decide_eq_true hlr
          have FRC := Lib.hid (FR.out r (by omega) wr HBr.out)
          go_wp2_with fail
          refine FRC.out.mono ?_; rintro e wf ⟨f, rfl, hf, b5⟩
          have HBf := Lib.hid (below_next b5 HBr.out)
          have HF := Lib.hid hf
          clear hf b5 FRC b0 b1 b2 b3
          cases f with
          | false =>
            have HNF2 : Hid (∀ r', r' < r + 1 → ¬ FreeG l' r' x2 x3) := fun r' h => by
              rcases Nat.lt_or_ge r' r with h1 | h1
              · exact HNF.out r' h1
              · obtain rfl : r' = r := by omega
                exact HF.out.f
            clear HF HNF
            go_wp2_with fail
            go_roundw
            case rel => exact ⟨r + 1, hlr, by go_num, rfl, rfl, HNF2, HBf⟩
            case measure => simp [RowKit.intOf]; omega
          | true =>
            obtain ⟨q, hq, hqc, hqf, hqk⟩ := HFA.out
            have HQF := Lib.hid hqf
            have HQK := Lib.hid hqk
            have hqn : q < nn := by rw [HNN.out]; exact hq
            have HUS : Hid (UStep l' (x0, x1, x2, x3) (insG (l'.eraseIdx q) (x0, r, x2, x3)) 1) := .inr ⟨rfl, r, q, hlr, HF.out.t, HNF.out, HQF.out, rfl⟩
            obtain ⟨B3, hB3⟩ : ∃ b, b = wf.heap.size := ⟨_, rfl⟩
            have HB3 := Lib.hid hB3
            clear hq hqc hqf hqk HF HNF hB3
            go_wp2_with fail
            go_loopw [8, 9] (fun pv kv wr => ∃ (k m : Nat) (pa : Option Addr) (pc : Nat), k ≤ nn ∧ m ≤ k ∧ kv = .int .i64 (k : Nat) ∧ pv = .slice pa m pc ∧ Hid (m = ((l'.take k).eraseIdx q).length) ∧ Hid (wr.ownsRow B3 48 4 (.slice pa m pc) m (((l'.take k).eraseIdx q).flatMap ceV)) ∧ Hid (Below wf.heap.size wf wr)) (fun _ kv _ => nn - (RowKit.intOf kv).toNat)
            case atStart => exact ⟨0, 0, none, 0, Nat.zero_le _, Nat.le_refl _, rfl, rfl, by simp [Hid], World.ownsRow_nil _ _ _ _, Below.refl _ _⟩
            case round =>
              clear HBr
              obtain ⟨k, m, pa, pc, hk, hmk, rfl, rfl, HMk, HP, HBr⟩ := hrel
              have HBall : Hid (Below Xc.heap.size Xc wr) := below_next HBr.out HBf.out
              obtain ⟨b0, b1, b2, b3, f0, f1, f2, f3⟩ := c4_of (HC.out.kept HBall.out)
              by_cases hkn : k < nn
              · have e2 : decide ((k : Int) < (nn : Int)) = true := decide_eq_true (by omega)
                have e2' : decide (k < nn) = true := decide_eq_true hkn
                have hkni : (k : Int) < (nn : Int) := by omega
                have hkx : k < l'.length := by rw [← HNN.out]; exact hkn
                have HEI : Hid ((l'.take (k + 1)).eraseIdx q = (l'.take k).eraseIdx q ++ if k = q then [] else [l'[k]]) := er_take hkx
                have HKQ := Lib.hid (HQK.out k hkx)
                cases na with
                | none => have := crow_none RNX.out; rw [this] at hkx; simp at hkx
                | some U =>
                obtain ⟨ub, uo, rfl⟩ := crow_some RNX.out (by omega)
                obtain ⟨z0, z1, z2, z3⟩ := RNX.out.cells hkx HBall.out
                obtain ⟨p, hp⟩ : ∃ p, p = l'[k] := ⟨_, rfl⟩
                rw [← hp] at z0 z1 z2 z3 HEI HKQ
                obtain ⟨p0, p1, p2, p3⟩ := p
                dsimp only at z0 z1 z2 z3 HKQ
                clear hp hkx b1 b2 b3 f0 f1 f2 f3
                by_cases hkq : k = q
                · have hpe : p0 = x0 := HKQ.out.2 hkq
                  have q0 : ((p0 : Int) == (x0 : Int)) = true := by simp; omega
                  have q0' : (p0 == x0) = true := by simp; omega
                  have HM2 : Hid (m = ((l'.take (k + 1)).eraseIdx q).length) := by unfold Hid; rw [HEI.out, if_pos hkq, List.append_nil]; exact HMk.out
                  have HP2 : Hid (wr.ownsRow B3 48 4 (.slice pa m pc) m (((l'.take (k + 1)).eraseIdx q).flatMap ceV)) := by unfold Hid; rw [HEI.out, if_pos hkq, List.append_nil]; exact HP.out
                  have HPE := Lib.hid hpe
                  have HKE := Lib.hid hkq
                  clear hpe hkq HEI HKQ HMk HP
                  go_wp2_with fail
                  go_quiet (fail)
                  obtain ⟨W, hW⟩ : ∃ W, W = wr.drewN nq := ⟨_, rfl⟩
                  have HPW : Hid (W.ownsRow B3 48 4 (.slice pa m pc) m (((l'.take (k + 1)).eraseIdx q).flatMap ceV)) := by unfold Hid; rw [hW]; exact own_older HP2.out (below_drewN (Below.refl _ _) nq)
                  have HBW : Hid (Below wf.heap.size wf W) := by unfold Hid; rw [hW]; exact below_drewN HBr.out nq
                  rw [← hW]
                  clear hW HP2
                  go_wp2_with fail
                  go_roundw
                  case rel => exact ⟨k + 1, m, pa, pc, hkn, by omega, by go_num, rfl, HM2, HPW, HBW⟩
                  case measure => simp [RowKit.intOf]; omega
                · have hpe : p0 ≠ x0 := fun e => hkq (HKQ.out.1 e)
                  have q0 : ((p0 : Int) == (x0 : Int)) = false := by simp; omega
                  have q0' : (p0 == x0) = false := by simp; omega
                  have HM2 : Hid (m + 1 = ((l'.take (k + 1)).eraseIdx q).length) := by unfold Hid; rw [HEI.out, if_neg hkq, List.length_append, ← HMk.out]; rfl
                  have HFL : Hid (((l'.take (k + 1)).eraseIdx q).flatMap ceV = ((l'.take k).eraseIdx q).flatMap ceV ++ ceV (p0, p1, p2, p3)) := by
                    unfold Hid; rw [HEI.out, if_neg hkq, List.flatMap_append]; simp
                  clear HEI HKQ HMk hpe
                  go_wp2_with fail
                  go_quiet (fail)
                  obtain ⟨W, hW⟩ : ∃ W, W = wr.drewN nq := ⟨_, rfl⟩
                  have HPW : Hid (W.ownsRow B3 48 4 (.slice pa m pc) m (((l'.take k).eraseIdx q).flatMap ceV)) := by unfold Hid; rw [hW]; exact own_older HP.out (below_drewN (Below.refl _ _) nq)
                  have HBW : Hid (Below wf.heap.size wf W) := by unfold Hid; rw [hW]; exact below_drewN HBr.out nq
                  obtain ⟨g0, g1, g2, g3⟩ : W.cell? ⟨ub, uo + k * 4, none⟩ = some (.int .u32 (p0 : Int)) ∧ W.cell? ⟨ub, uo + k * 4 + 1, none⟩ = some (.int .i64 (p1 : Int)) ∧ W.cell? ⟨ub, uo + k * 4 + 2, none⟩ = some (.int .i64 (p2 : Int)) ∧ W.cell? ⟨ub, uo + k * 4 + 3, none⟩ = some (.int .i64 (p3 : Int)) := by rw [hW]; exact ⟨z0, z1, z2, z3⟩
                  rw [← hW]
                  clear hW HP z0 z1 z2 z3 HBr HBall
                  have HBS : Hid (B3 ≤ W.heap.size) := by unfold Hid; rw [HB3.out]; exact HBW.out.size
                  have HNX : Hid (∀ v8 w8 o, w8.ownsRow B3 48 4 v8 (m + 1) (((l'.take k).eraseIdx q).flatMap ceV ++ ceV (p0, p1, p2, p3)) → (W.alloc o).grownBy w8 (Value.slice pa m pc).ownBlock → Hid (w8.ownsRow B3 48 4 v8 (m + 1) (((l'.take (k + 1)).eraseIdx q).flatMap ceV)) ∧ Hid (Below wf.heap.size wf w8)) := fun v8 w8 o h1 h2 => by
                    refine ⟨by unfold Hid; rw [HFL.out]; exact h1, ?_⟩
                    have g1 : Below wf.heap.size wf (W.alloc o) := HBW.out.alloc (HBW.out.size) _
                    refine g1.trans ((Chg.of_grown (own := fun g => (Value.slice pa m pc).ownBlock = some g) h2 fun g e => e).to_below g1.size fun g hg e => ?_)
                    have := (HPW.out.lt g e).1
                    have := HB3.out
                    omega
                  clear HFL
                  obtain ⟨hi, hz0, hz1, hz2⟩ := HI.out
                  go_wp2_with (first | (at_builtin; refine wpList_app rfl _ _ 35 rfl B3 48 i0 _ 4 32 Try.underlying35 hi hz0 hz1 hz2 rfl (by decide) _ m (((l'.take k).eraseIdx q).flatMap ceV) rfl (HPW.out.alloc _) _ 1 (ceV (p0, p1, p2, p3)) rfl (src_ce (x := (p0, p1, p2, p3)) (Blk.new _ _ _)) (ceV_one1 _) (by unfold maxLen; omega) (by omega) (by have := HBS.out; simp; omega) ?_; intro v8 w8 hown8 hgrow8 hat8; obtain ⟨HO8, HB8⟩ := HNX.out v8 w8 _ hown8 hgrow8; clear hown8 hgrow8 hat8; obtain ⟨a8, c8, rfl⟩ := own_slice HO8.out))
                  go_roundw
                  case rel => exact ⟨k + 1, m + 1, a8, c8, hkn, by omega, by go_num, rfl, HM2, HO8, HB8⟩
                  case measure => simp [RowKit.intOf]; omega
              · have e2 : decide ((k : Int) < (nn : Int)) = false := decide_eq_false (by omega)
                have e2' : decide (k < nn) = false := decide_eq_false hkn
                have hlk : l'.take k = l' := List.take_of_length_le (by have := HNN.out; omega)
                rw [hlk] at HMk HP
                have HOL : Hid (COwn wr B3 (.slice pa m pc) (l'.eraseIdx q)) := by unfold Hid; show wr.ownsRow B3 48 4 _ (l'.eraseIdx q).length _; rw [← HMk.out]; exact HP.out
                have hml : (l'.eraseIdx q).length ≤ 16384 := by rw [← HMk.out]; omega
                have HNGL : Hid (∀ g, (Value.slice pa m pc).ownBlock = some g → g ≠ gc) := fun g hg e => by
                  have h1 := (HOL.out.lt g hg).1
                  have h2 := HC.out.lt
                  have h3 := HBf.out.size
                  have := HB3.out
                  omega
                obtain ⟨W, hW⟩ : ∃ W, W = wr.setCell ⟨gc, 1, none⟩ (.int .i64 (r : Nat)) := ⟨_, rfl⟩
                have HCW : Hid (Blk W gc #[.int .u32 (x0 : Nat), .int .i64 (r : Nat), .int .i64 (x2 : Nat), .int .i64 (x3 : Nat)] 48) := by
                  unfold Hid; rw [hW]; have := (HC.out.kept HBall.out).set 1 (.int .i64 (r : Nat)); simpa using this
                have HOW : Hid (COwn W B3 (.slice pa m pc) (l'.eraseIdx q)) := by unfold Hid; rw [hW]; exact ownsRow_setCell_other HOL.out (fun e => HNGL.out gc e rfl) _
                have HBW : Hid (Below w.heap.size w W) := by
                  unfold Hid; rw [hW]
                  have g1 : Below w.heap.size w wr := below_next HBall.out HBXc.out
                  exact ((Chg.of_below (own := fun _ => False) g1).newCell HGC.out 1 _).to_below (Nat.le_refl _) (fun _ _ h => h)
                have LY := Lib.hid (rlay_any B3 (.slice pa m pc) (l'.eraseIdx q) (x0, r, x2, x3) W HOW.out hml)
                have HU2 := Lib.hid (HSTEP.out _ 1 HUS.out)
                have hinl := insG_len (l'.eraseIdx q) (x0, r, x2, x3)
                obtain ⟨IL, hIL⟩ : ∃ n, n = (insG (l'.eraseIdx q) (x0, r, x2, x3)).length := ⟨_, rfl⟩
                have HIL := Lib.hid hIL
                clear hlk HMk HP HOL HOW hinl hIL hml b0 b2 b3 f0 f2 f3
                unfold ceA at LY
                dsimp only at LY
                go_upto_region 18 with fail
                rw [← hW]
                clear hW b1 f1
                obtain ⟨b0, b1, b2, b3, _, _, _, _⟩ := c4_of HCW.out
                go_wp2_with fail
                refine LY.out.mono ?_; rintro e w9 ⟨⟨v', rfl, ho'⟩, hb'⟩
                obtain ⟨ia, ic, rfl⟩ := own_slice ho'
                rw [← HIL.out] at ho'
                have HO9 : Hid (w9.ownsRow 0 48 4 (.slice ia IL ic) IL ((insG (l'.eraseIdx q) (x0, r, x2, x3)).flatMap ceV)) := by
                  have := own_zero ho'
                  unfold Hid
                  have e : w9.ownsRow 0 48 4 (.slice ia IL ic) (insG (l'.eraseIdx q) (x0, r, x2, x3)).length ((insG (l'.eraseIdx q) (x0, r, x2, x3)).flatMap ceV) := this
                  rw [← HIL.out] at e; exact e
                have HB9 : Hid (Below w.heap.size w w9) := below_next hb' HBW.out
                rw [← HIL.out]
                clear ho' hb' LY b0 b1 b2 b3
                go_wp2_with fail
                go_roundw
                case rel => exact ⟨i + 1, d + 1, ia, ic, IL, _, hlt, by omega, by go_num, by go_num, rfl, HIL, HU2, HO9, HB9⟩
                case measure => simp [RowKit.intOf]; omega
        · have e1 : decide ((r : Int) < (x1 : Int)) = false := decide_eq_false (by omega)
          have e1' : decide (r < x1) = false := decide_eq_false hlr
          obtain rfl : r = x1 := by omega
          have HU2 : Hid (URun l (i + 1) l' (d + 0)) := HSTEP.out l' 0 (.inl ⟨rfl, rfl, HNF.out⟩)
          have HO2 : Hid (wr.ownsRow 0 48 4 (.slice na nn nc) nn (l'.flatMap ceV)) := by
            have := own_older HONX.out HBr.out
            unfold Hid; rw [HNN.out]; rw [HNN.out] at this; exact this
          have HB2 : Hid (Below w.heap.size w wr) := below_next HBr.out HBXc.out
          clear HNF b0 b2 b3 HBr
          go_wp2_with fail
          go_roundw
          case rel => exact ⟨i + 1, d, na, nc, nn, l', hlt, by omega, by go_num, rfl, rfl, HNN, HU2, HO2, HB2⟩
          case measure => simp [RowKit.intOf]; omega
    · have d1 : decide ((i : Int) < (N : Int)) = false := decide_eq_false (by omega)
      have d1' : decide (i < N) = false := decide_eq_false hlt
      have HUR : Hid (URun l l.length l' d) := by have := HU.out; rw [show i = l.length by rw [← HN.out]; omega] at this; exact this
      have HINV := Lib.hid (HU.out.inv HOK.out)
      have hnl : nn ≤ 16384 := by rw [HNN.out]; exact HINV.out.ok.len
      have RNw : Hid (CRow wr (.slice na nn nc) l') := by
        have : COwn wr 0 (.slice na nn nc) l' := by show wr.ownsRow 0 48 4 _ l'.length _; rw [← HNN.out]; exact HO.out
        have := crow_of_own this
        exact this
      obtain ⟨Y, hY⟩ : ∃ y, y = wr := ⟨_, rfl⟩
      subst hY
      obtain ⟨B2, hB2⟩ : ∃ b, b = Y.heap.size := ⟨_, rfl⟩
      have HB2 := Lib.hid hB2
      have HBY := HBr
      have hdN : d ≤ N := by omega
      clear hB2 HO HU HBr hdi hiN hlt
      go_wp2_with fail
      clear c1
      go_loopw [10, 11, 12] (fun ov av iv wr => ∃ (i A : Nat) (oa : Option Addr) (oc : Nat), i ≤ nn ∧ A ≤ 16 ∧ iv = .int .i64 (i : Nat) ∧ av = .int .i64 (A : Nat) ∧ ov = .slice oa i oc ∧ Hid (A = if hasR (l'.take i) a then num l' a else 0) ∧ Hid (wr.ownsRow B2 48 4 (.slice oa i oc) i (((l'.take i).map (closeC l')).flatMap ceV)) ∧ Hid (Below Y.heap.size Y wr)) (fun _ _ iv _ => nn - (RowKit.intOf iv).toNat)
      case atStart => exact ⟨0, 0, none, 0, Nat.zero_le _, Nat.zero_le _, rfl, rfl, rfl, by simp [Hid, hasR], World.ownsRow_nil _ _ _ _, Below.refl _ _⟩
      case round =>
        obtain ⟨i, A, oa, oc, hin, hA, rfl, rfl, rfl, HA, HO, HBr⟩ := hrel
        by_cases hlt : i < nn
        · have e1 : decide ((i : Int) < (nn : Int)) = true := decide_eq_true (by omega)
          have e1' : decide (i < nn) = true := decide_eq_true hlt
          have hini : (i : Int) < (nn : Int) := by omega
          have hix : i < l'.length := by rw [← HNN.out]; exact hlt
          have hcrow := (HINV.out.ok.ce _ (List.getElem_mem hix)).row
          have HTK : Hid (((l'.take (i + 1)).map (closeC l')).flatMap ceV = ((l'.take i).map (closeC l')).flatMap ceV ++ ceV (closeC l' l'[i])) := by
            unfold Hid; rw [List.take_add_one, List.getElem?_eq_getElem hix, List.map_append, List.flatMap_append]; simp
          have HHR : Hid (hasR (l'.take (i + 1)) a = (hasR (l'.take i) a || decide (l'[i].2.1 = a))) := by
            unfold Hid hasR; rw [List.take_add_one, List.getElem?_eq_getElem hix, List.any_append]; simp
          cases na with
          | none => have := crow_none RNw.out; rw [this] at hix; simp at hix
          | some U =>
          obtain ⟨ub, uo, rfl⟩ := crow_some RNw.out (by omega)
          have HCA : Hid (∀ w', Below Y.heap.size Y w' → w'.cell? ⟨ub, uo + i * 4, none⟩ = some (.int .u32 (l'[i].1 : Int)) ∧ w'.cell? ⟨ub, uo + i * 4 + 1, none⟩ = some (.int .i64 (l'[i].2.1 : Int)) ∧ w'.cell? ⟨ub, uo + i * 4 + 2, none⟩ = some (.int .i64 (l'[i].2.2.1 : Int)) ∧ w'.cell? ⟨ub, uo + i * 4 + 3, none⟩ = some (.int .i64 (l'[i].2.2.2 : Int))) := fun w' hb => RNw.out.cells hix hb
          obtain ⟨c, hc⟩ : ∃ c, c = l'[i] := ⟨_, rfl⟩
          rw [← hc] at HCA HTK HHR hcrow
          clear hc hix
          obtain ⟨x0, x1, x2, x3⟩ := c
          dsimp only [Ce.row] at HCA HHR hcrow
          obtain ⟨V, hV⟩ : ∃ z, z = wr := ⟨_, rfl⟩
          subst hV
          have HBi := HBr
          clear HBr
          go_wp2_with fail
          go_loopw [13, 14] (fun sv rv wr => ∃ r s : Nat, r ≤ x1 ∧ s ≤ r ∧ rv = .int .i64 (r : Nat) ∧ sv = .int .i64 (s : Nat) ∧ Hid (s = num l' r) ∧ Hid (Below V.heap.size V wr)) (fun _ rv _ => x1 - (RowKit.intOf rv).toNat)
          case atStart => exact ⟨0, 0, Nat.zero_le _, Nat.le_refl _, rfl, rfl, rfl, Below.refl _ _⟩
          case round =>
            obtain ⟨r, s, hr, hsr, rfl, rfl, HS, HBr⟩ := hrel
            have y1 := (HCA.out _ (below_next HBr.out HBi.out)).2.1
            by_cases hlr : r < x1
            · have e2 : decide ((r : Int) < (x1 : Int)) = true := decide_eq_true (by omega)
              have e2' : decide (r < x1) = true := decide_eq_true hlr
              go_wp2_with fail
              clear y1
              go_loopw [15, 16] (fun bv kv wr => ∃ (k : Nat) (β : Bool), k ≤ nn ∧ kv = .int .i64 (k : Nat) ∧ bv = .bool β ∧ Hid (β = hasR (l'.take k) r) ∧ Hid (Below V.heap.size V wr)) (fun _ kv _ => nn - (RowKit.intOf kv).toNat)
              case atStart => exact ⟨0, false, Nat.zero_le _, rfl, rfl, by simp [Hid, hasR], HBr.out⟩
              case round =>
                clear HBr
                obtain ⟨k, β, hk, rfl, rfl, HF, HBr⟩ := hrel
                by_cases hkn : k < nn
                · have e3 : decide ((k : Int) < (nn : Int)) = true := decide_eq_true (by omega)
                  have e3' : decide (k < nn) = true := decide_eq_true hkn
                  have hkni : (k : Int) < (nn : Int) := by omega
                  have hkx : k < l'.length := by rw [← HNN.out]; exact hkn
                  have HH2 : Hid (hasR (l'.take (k + 1)) r = (hasR (l'.take k) r || decide (l'[k].2.1 = r))) := by
                    unfold Hid hasR; rw [List.take_add_one, List.getElem?_eq_getElem hkx, List.any_append]; simp
                  have z1 := (RNw.out.cells hkx (below_next HBr.out HBi.out)).2.1
                  obtain ⟨z, hz⟩ : ∃ z, z = l'[k].2.1 := ⟨_, rfl⟩
                  rw [← hz] at z1 HH2
                  clear hz hkx
                  cases β with
                  | true =>
                    have HF2 : Hid (true = hasR (l'.take (k + 1)) r) := by unfold Hid; rw [HH2.out, ← HF.out]; rfl
                    clear HF HH2 z1
                    go_wp2_with fail
                    go_roundw
                    case rel => exact ⟨k + 1, true, hkn, by go_num, rfl, HF2, HBr⟩
                    case measure => simp [RowKit.intOf]; omega
                  | false =>
                    by_cases hzr : z = r
                    · have q0 : ((z : Int) == (r : Int)) = true := by simp; omega
                      have q0' : (z == r) = true := by simp; omega
                      have HF2 : Hid (true = hasR (l'.take (k + 1)) r) := by unfold Hid; rw [HH2.out, ← HF.out, decide_eq_true hzr]; rfl
                      have HZR := Lib.hid hzr
                      clear HF HH2 hzr
                      go_wp2_with fail
                      go_roundw
                      case rel => exact ⟨k + 1, true, hkn, by go_num, rfl, HF2, HBr⟩
                      case measure => simp [RowKit.intOf]; omega
                    · have q0 : ((z : Int) == (r : Int)) = false := by simp; omega
                      have q0' : (z == r) = false := by simp; omega
                      have HF2 : Hid (false = hasR (l'.take (k + 1)) r) := by unfold Hid; rw [HH2.out, ← HF.out, decide_eq_false hzr]; rfl
                      clear HF HH2 hzr
                      go_wp2_with fail
                      go_roundw
                      case rel => exact ⟨k + 1, false, hkn, by go_num, rfl, HF2, HBr⟩
                      case measure => simp [RowKit.intOf]; omega
                · have e3 : decide ((k : Int) < (nn : Int)) = false := decide_eq_false (by omega)
                  have e3' : decide (k < nn) = false := decide_eq_false hkn
                  have HFA : Hid (β = hasR l' r) := by unfold Hid; rw [HF.out, List.take_of_length_le (by have := HNN.out; omega)]
                  have HNS : Hid (num l' (r + 1) = s + if hasR l' r then 1 else 0) := by unfold Hid; rw [HS.out]; rfl
                  cases β with
                  | true =>
                    have HS2 : Hid (s + 1 = num l' (r + 1)) := by unfold Hid; rw [HNS.out, ← HFA.out]; rfl
                    clear HF HFA HNS HS
                    go_wp2_with fail
                    go_roundw
                    case rel => exact ⟨r + 1, s + 1, hlr, by omega, by go_num, by go_num, HS2, HBr⟩
                    case measure => simp [RowKit.intOf]; omega
                  | false =>
                    have HS2 : Hid (s = num l' (r + 1)) := by unfold Hid; rw [HNS.out, ← HFA.out]; rfl
                    clear HF HFA HNS HS
                    go_wp2_with fail
                    go_roundw
                    case rel => exact ⟨r + 1, s, hlr, by omega, by go_num, rfl, HS2, HBr⟩
                    case measure => simp [RowKit.intOf]; omega
            · have e2 : decide ((r : Int) < (x1 : Int)) = false := decide_eq_false (by omega)
              have e2' : decide (r < x1) = false := decide_eq_false hlr
              obtain rfl : r = x1 := by omega
              have hs16 : s ≤ 16 := by omega
              have m2 := (HM.out.kept (below_next (below_next HBr.out HBi.out) HBY.out)).c2
              obtain ⟨A', hA'⟩ : ∃ A', A' = if hasR (l'.take (i + 1)) a then num l' a else 0 := ⟨_, rfl⟩
              have HA' := Lib.hid hA'
              have HAA : Hid (A' = if r = a then s else A) := by
                unfold Hid
                rw [hA', HHR.out]
                by_cases hra : r = a
                · rw [if_pos hra, decide_eq_true hra, Bool.or_true, if_pos rfl, HS.out, hra]
                · rw [if_neg hra, decide_eq_false hra, Bool.or_false, HA.out]
              have hA'16 : A' ≤ 16 := by rw [HAA.out]; split <;> omega
              clear hA' HHR HA
              go_upto_region 36 with fail
              go_quiet (fail)
              obtain ⟨wd, hwd⟩ : ∃ z, z = wr.drewN nq := ⟨_, rfl⟩
              have HWD := Lib.hid hwd
              rw [← hwd]
              clear hwd
              go_upto_if 120 with fail
              go_cut [11] (fun av wx => av = .int .i64 (A' : Nat) ∧ Hid (wx = wd))
              case first =>
                by_cases hra : r = a
                · have q0 : ((r : Int) == (a : Int)) = true := by simp; omega
                  have q0' : (r == a) = true := by simp; omega
                  have HE : Hid (A' = s) := by unfold Hid; rw [HAA.out, if_pos hra]
                  have HRA := Lib.hid hra
                  clear hra HAA
                  go_wp2_with fail
                  go_meet
                  exact ⟨by rw [HE.out], rfl⟩
                · have q0 : ((r : Int) == (a : Int)) = false := by simp; omega
                  have q0' : (r == a) = false := by simp; omega
                  have HE : Hid (A' = A) := by unfold Hid; rw [HAA.out, if_neg hra]
                  clear hra HAA
                  go_wp2_with fail
                  go_meet
                  exact ⟨by rw [HE.out], rfl⟩
              case rest =>
                obtain ⟨rfl, hw⟩ := hcut
                obtain ⟨q, hq⟩ : ∃ q, wc = wr.drewN q := ⟨_, hw.out.trans HWD.out⟩
                have HBc : Hid (Below V.heap.size V wc) := by unfold Hid; rw [hq]; exact below_drewN HBr.out q
                clear hw hq HBr y1 m2 HAA HWD
                obtain ⟨y0, y1, y2, y3⟩ := HCA.out _ (below_next HBc.out HBi.out)
                have HOc : Hid (wc.ownsRow B2 48 4 (.slice oa i oc) i (((l'.take i).map (closeC l')).flatMap ceV)) := own_older HO.out HBc.out
                have HCL : Hid (closeC l' (x0, r, x2, x3) = (x0, s, x2, x3)) := by unfold Hid closeC; rw [HS.out]
                rw [HCL.out] at HTK
                obtain ⟨gD, hgD⟩ : ∃ g, g = wc.heap.size := ⟨_, rfl⟩
                obtain ⟨XD, hXD⟩ : ∃ x, x = wc.alloc (.cells #[.int .u32 (x0 : Nat), .int .i64 (r : Nat), .int .i64 (x2 : Nat), .int .i64 (x3 : Nat)] 48) := ⟨_, rfl⟩
                have hbD : Below wc.heap.size wc XD := by rw [hXD]; exact (Below.refl _ _).alloc (Nat.le_refl _) _
                have HCD : Hid (Blk XD gD #[.int .u32 (x0 : Nat), .int .i64 (r : Nat), .int .i64 (x2 : Nat), .int .i64 (x3 : Nat)] 48) := by unfold Hid; rw [hXD, hgD]; exact Blk.new wc _ _
                have HBD : Hid (Below Y.heap.size Y XD) := below_next (below_next hbD HBc.out) HBi.out
                have hYD : Y.heap.size ≤ gD := by rw [hgD]; exact (below_next HBc.out HBi.out).size
                have HOD : Hid (XD.ownsRow B2 48 4 (.slice oa i oc) i (((l'.take i).map (closeC l')).flatMap ceV)) := own_older HOc.out hbD
                have HNGD : Hid (∀ g, (Value.slice oa i oc).ownBlock = some g → g ≠ gD) := fun g hg => by rw [hgD]; have := (HOc.out.lt g hg).2; omega
                obtain ⟨b0, b1, b2, b3, f0, f1, f2, f3⟩ := c4_of HCD.out
                obtain ⟨W, hW⟩ : ∃ W, W = XD.setCell ⟨gD, 1, none⟩ (.int .i64 (s : Nat)) := ⟨_, rfl⟩
                have HCW : Hid (Blk W gD #[.int .u32 (x0 : Nat), .int .i64 (s : Nat), .int .i64 (x2 : Nat), .int .i64 (x3 : Nat)] 48) := by
                  unfold Hid; rw [hW]; have := HCD.out.set 1 (.int .i64 (s : Nat)); simpa using this
                have HOW : Hid (W.ownsRow B2 48 4 (.slice oa i oc) i (((l'.take i).map (closeC l')).flatMap ceV)) := by unfold Hid; rw [hW]; exact ownsRow_setCell_other HOD.out (fun e => HNGD.out gD e rfl) _
                have HBW : Hid (Below Y.heap.size Y W) := by
                  unfold Hid; rw [hW]
                  exact ((Chg.of_below (own := fun _ => False) HBD.out).newCell hYD 1 _).to_below (Nat.le_refl _) (fun _ _ h => h)
                have HBS : Hid (B2 ≤ W.heap.size) := by unfold Hid; rw [HB2.out]; exact HBW.out.size
                have HNX : Hid (∀ v8 w8 o, w8.ownsRow B2 48 4 v8 (i + 1) (((l'.take i).map (closeC l')).flatMap ceV ++ ceV (x0, s, x2, x3)) → (W.alloc o).grownBy w8 (Value.slice oa i oc).ownBlock → Hid (w8.ownsRow B2 48 4 v8 (i + 1) (((l'.take (i + 1)).map (closeC l')).flatMap ceV)) ∧ Hid (Below Y.heap.size Y w8)) := fun v8 w8 o h1 h2 => by
                  refine ⟨by unfold Hid; rw [HTK.out]; exact h1, ?_⟩
                  have g1 : Below Y.heap.size Y (W.alloc o) := HBW.out.alloc (HBW.out.size) _
                  refine g1.trans ((Chg.of_grown (own := fun g => (Value.slice oa i oc).ownBlock = some g) h2 fun g e => e).to_below g1.size fun g hg e => ?_)
                  have := (HOW.out.lt g e).1
                  have := HB2.out
                  omega
                obtain ⟨hi, hz0, hz1, hz2⟩ := HI.out
                go_upto_region 39 with fail
                rw [← hgD, ← hXD]
                clear hgD hXD hbD
                go_upto_region 40 with fail
                rw [← hW]
                clear hW b0 b1 b2 b3 f0 f1 f2 f3 HCL HTK
                obtain ⟨b0, b1, b2, b3, _, _, _, _⟩ := c4_of HCW.out
                go_wp2_with (first | (at_builtin; refine wpList_app rfl _ _ 35 rfl B2 48 i0 _ 4 32 Try.underlying35 hi hz0 hz1 hz2 rfl (by decide) _ i (((l'.take i).map (closeC l')).flatMap ceV) rfl (HOW.out.alloc _) _ 1 (ceV (x0, s, x2, x3)) rfl (src_ce (x := (x0, s, x2, x3)) (Blk.new _ _ _)) (ceV_one1 _) (by unfold maxLen; omega) (by omega) (by have := HBS.out; simp; omega) ?_; intro v8 w8 hown8 hgrow8 hat8; obtain ⟨HO8, HB8⟩ := HNX.out v8 w8 _ hown8 hgrow8; clear hown8 hgrow8 hat8; obtain ⟨a8, c8, rfl⟩ := own_slice HO8.out))
                go_roundw
                case rel => exact ⟨i + 1, A', a8, c8, hlt, hA'16, by go_num, rfl, rfl, HA', HO8, HB8⟩
                case measure => simp [RowKit.intOf]; omega
        · have e1 : decide ((i : Int) < (nn : Int)) = false := decide_eq_false (by omega)
          have e1' : decide (i < nn) = false := decide_eq_false hlt
          have hil : l'.take i = l' := List.take_of_length_le (by have := HNN.out; omega)
          have HO2 : Hid (COwn wr 0 (.slice oa i oc) (closeG l')) := by
            have : COwn wr B2 (.slice oa i oc) (closeG l') := by
              show wr.ownsRow B2 48 4 _ (closeG l').length _
              have e : (closeG l').length = i := by unfold closeG; rw [List.length_map]; have := HNN.out; omega
              rw [e]
              have := HO.out
              rw [hil] at this
              exact this
            exact own_zero this
          have HAU : Hid (A = unifyA l' a) := by unfold Hid unifyA; rw [HA.out, hil]
          have hlt2 : ∀ g, (Value.slice oa i oc).ownBlock = some g → Y.heap.size ≤ g := fun g hg => by rw [← HB2.out]; exact (HO.out.lt g hg).1
          have hrbY : rb < Y.heap.size := (HM.out.kept HBY.out).blk.lt
          have hm := HM.out.kept (below_next HBr.out HBY.out)
          have HM1 := Lib.hid (hm.setL HO2.out (fun e => by have := hlt2 rb e; omega))
          have HM2 := Lib.hid (HM1.out.setA A)
          have m1 := hm.c1
          have mf1 := hm.f 1
          have m2 := HM1.out.c2
          have mf2 := HM1.out.f 2
          have HCH : Hid (Chg (One rb) w ((wr.setCell ⟨rb, 1, none⟩ (.slice oa i oc)).setCell ⟨rb, 2, none⟩ (.int .i64 (A : Nat)))) :=
            ((Chg.of_below (below_next HBr.out HBY.out) : Chg (One rb) _ _).trans (Chg.setCell 1 _ rfl)).trans (Chg.setCell 2 _ rfl)
          have HNB : Hid (∀ g, (Value.slice oa i oc).ownBlock = some g → w.heap.size ≤ g) := fun g hg => Nat.le_trans HBY.out.size (hlt2 g hg)
          clear hil hm
          go_wp2_with fail
          go_ret
          exact ⟨l', d, _, rfl, HUR.out, by rw [← HAU.out]; exact HM2.out, fun g hg => .inr (HNB.out g hg), HCH.out⟩
end

section
open Go Go.RowKit Go.Lib
theorem rplace_any (rb n a id : Nat) (O : Int) (lv : Value) (l : List Ce) (w : World) (h : RMt w rb n a lv l) (hok : OkG n l) (hid2 : id < 4294967296) :
    Calls Try.prog 31 #[.pointer (some ⟨rb, 0, none⟩), .int .u32 (id : Nat), .int .i64 O] w (RPlacePost rb n a id O lv l w) := by
  by_cases ha : id = 0 ∨ O < 0 ∨ (n : Int) < O
  · exact rplace_arg rb n a id O lv l w h hok ha
  · obtain ⟨o, rfl⟩ := Int.eq_ofNat_of_zero_le (show 0 ≤ O by omega)
    exact rplace_ord rb n a id o lv l w h hok (by omega) hid2 (by omega)
theorem new_rmt (n : Nat) (w : World) : RMt (w.alloc (.cells #[.int .i64 (n : Int), .slice none 0 0, .int .i64 0] 41)) w.heap.size n 0 (.slice none 0 0) [] :=
  ⟨Blk.new w _ _, ⟨rfl, .inl ⟨rfl, rfl⟩⟩, fun e => by cases e⟩
theorem rnew_ok (n : Nat) (w : World) (hn : n ≤ 10) :
    Calls Try.prog 12 #[.int .i64 (n : Nat)] w fun e w' => (∃ m, e = .returned (.tuple #[.pointer (some ⟨m, 0, none⟩), .int .i64 0]) ∧ w.heap.size ≤ m ∧ RMt w' m n 0 (.slice none 0 0) []) ∧ Below w.heap.size w w' := by
  have H := Lib.hid (new_rmt n w)
  have d1 : decide ((n : Int) < 0) = false := decide_eq_false (by omega)
  have d2 : decide ((n : Int) > 10) = false := decide_eq_false (by omega)
  have d3 : decide ((10 : Int) < (n : Int)) = false := decide_eq_false (by omega)
  have d4 : decide (10 < n) = false := decide_eq_false (by omega)
  go_enter Try.func12, Try.ntmps12
  go_wp2_with fail
  go_ret2
  exact ⟨⟨_, rfl, Nat.le_refl _, H.out⟩, (Below.refl _ _).alloc (Nat.le_refl _) _⟩
theorem rnew_no (N : Int) (w : World) (h : ¬ (0 ≤ N ∧ N ≤ 10)) :
    Calls Try.prog 12 #[.int .i64 N] w fun e w' => e = .returned (.tuple #[.pointer none, .int .i64 2]) ∧ Below w.heap.size w w' := by
  by_cases h1 : N < 0
  · have d1 : decide (N < 0) = true := decide_eq_true h1
    go_enter Try.func12, Try.ntmps12
    go_wp2_with fail
    go_returns
    exact ⟨rfl, Below.refl _ _⟩
  · have d1 : decide (N < 0) = false := decide_eq_false h1
    have d2 : decide (N > 10) = true := decide_eq_true (by omega)
    have d3 : decide ((10 : Int) < N) = true := decide_eq_true (by omega)
    go_enter Try.func12, Try.ntmps12
    go_wp2_with fail
    go_returns
    exact ⟨rfl, Below.refl _ _⟩
theorem PlaceR.det {n : Nat} {l : List Ce} {id : Nat} {O : Int} {c c' : Ce} {er er' : Int} {l1 l2 : List Ce} (h : PlaceR n l id O c er l1) (k : PlaceR n l id O c' er' l2) : c = c' ∧ er = er' ∧ l1 = l2 := by
  cases h with
  | arg h =>
    cases k with
    | arg => exact ⟨rfl, rfl, rfl⟩
    | twice k => exact absurd h k
    | full o h0 h1 h2 => omega
    | ok o h0 h1 h2 => omega
  | twice h d hd h2 =>
    cases k with
    | arg k => exact absurd k h
    | twice k => exact ⟨rfl, rfl, rfl⟩
    | full o _ _ _ k3 => exact absurd h2 (k3 d hd)
    | ok o _ _ _ k3 => exact absurd h2 (k3 d hd)
  | full o h0 h1 h2 h3 h4 =>
    cases k with
    | arg k => omega
    | twice k d hd k2 => exact absurd k2 (h3 d hd)
    | full o' => exact ⟨rfl, rfl, rfl⟩
    | ok o' k0 k1 k2 k3 c k4 =>
      obtain rfl : o = o' := by omega
      have := h4.det k4; cases this
  | ok o h0 h1 h2 h3 c h4 =>
    cases k with
    | arg k => omega
    | twice k d hd k2 => exact absurd k2 (h3 d hd)
    | full o' k0 k1 k2 k3 k4 =>
      obtain rfl : o = o' := by omega
      have := h4.det k4; cases this
    | ok o' k0 k1 k2 k3 c k4 =>
      obtain rfl : o = o' := by omega
      have := h4.det k4; cases this; exact ⟨rfl, rfl, rfl⟩
theorem RemR.det {l : List Ce} {a id : Nat} {er er' : Int} {a1 a2 : Nat} {l1 l2 : List Ce} (h : RemR l a id er a1 l1) (k : RemR l a id er' a2 l2) : er = er' ∧ a1 = a2 ∧ l1 = l2 := by
  cases h with
  | no h =>
    cases k with
    | no k => exact ⟨rfl, rfl, rfl⟩
    | yes i k => have := h.det k; cases this
  | yes j h =>
    cases k with
    | no k => have := h.det k; cases this
    | yes i k => have := h.det k; cases this; exact ⟨rfl, rfl, rfl⟩
theorem UStep.det {l : List Ce} {c : Ce} {l1 l2 : List Ce} {d d' : Nat} (h : UStep l c l1 d) (k : UStep l c l2 d') : l1 = l2 ∧ d = d' := by
  rcases h with ⟨rfl, rfl, h⟩ | ⟨rfl, r, j, hr, hf, hn, hj, rfl⟩ <;> rcases k with ⟨rfl, rfl, k⟩ | ⟨rfl, r', j', kr, kf, kn, kj, rfl⟩
  · exact ⟨rfl, rfl⟩
  · exact absurd kf (h r' kr)
  · exact absurd hf (k r hr)
  · rcases Nat.lt_trichotomy r r' with e | e | e
    · exact absurd hf (kn r e)
    · subst e
      have := hj.det kj; cases this
      exact ⟨rfl, rfl⟩
    · exact absurd kf (hn r' e)
theorem URun.det {l0 : List Ce} {k : Nat} {l : List Ce} {d : Nat} (h : URun l0 k l d) : ∀ {l' : List Ce} {d' : Nat}, URun l0 k l' d' → l = l' ∧ d = d' := by
  induction h with
  | zero => intro l' d' g; cases g; exact ⟨rfl, rfl⟩
  | succ k l l1 d e hk h hs ih =>
    intro l' d' g
    cases g with
    | succ _ l2 _ d2 e2 _ g gs =>
      obtain ⟨rfl, rfl⟩ := ih g
      obtain ⟨rfl, rfl⟩ := hs.det gs
      exact ⟨rfl, rfl⟩
end

section
open Go Go.ChangeShapes Go.WideShapes Go.ChangeAt Go.RowKit Go.Lib Go.Deep
/-- Both matrices hold the same; what lies from lo up to hi belongs to neither. -/
def BSt (w0 : World) (m rb n a : Nat) (l : List Ce) (lo hi : Nat) (w : World) : Prop :=
  ∃ (own : Nat → Prop) (lv : Value), GM w m own n a l ∧ RMt w rb n a lv l ∧ ¬ own rb ∧ (∀ g, lv.ownBlock = some g → ¬ own g) ∧ (∀ k, own k → w0.heap.size ≤ k) ∧ w0.heap.size ≤ rb ∧
    (∀ g, lo ≤ g → g < hi → ¬ own g ∧ g ≠ rb ∧ lv.ownBlock ≠ some g) ∧ hi ≤ w.heap.size ∧ Below w0.heap.size w0 w
theorem GM.apart {w w' : World} {m n a : Nat} {own P : Nat → Prop} {l : List Ce} (h : GM w m own n a l) (hc : Chg P w w') (hP : ∀ k, own k → k < w.heap.size → ¬ P k) {lo : Nat} (hlo : w.heap.size ≤ lo) : GM w' m (fun k => own k ∧ ¬ (lo ≤ k ∧ k < w'.heap.size)) n a l := by
  obtain ⟨v, W, q1, q2⟩ := h
  have q := q1.far hc hP
  have hlt := q1.gb.lt
  refine ⟨v, W, ⟨q.gb, q.row, ⟨q.bown, by omega⟩, fun k hk => ⟨q.new k hk, by omega⟩, fun k hk => ⟨⟨(q.ob k hk).1, by have := (q1.row.lt k hk).2; omega⟩, (q.ob k hk).2⟩⟩, q2⟩
section
variable {w0 w w' w1 w2 : World} {m rb n a a' lo hi : Nat} {l l' : List Ce} {lv lv' : Value} {own : Nat → Prop}
theorem BSt.kept (h : BSt w0 m rb n a l lo hi w) (hb : Below w.heap.size w w') : BSt w0 m rb n a l lo hi w' := by
  obtain ⟨own, lv, h1, h2, h3, h4, h5, h6, h7, h8, h9⟩ := h
  exact ⟨own, lv, h1.kept hb, h2.kept hb, h3, h4, h5, h6, h7, Nat.le_trans h8 hb.size, below_next hb h9⟩
theorem BSt.made (h : BSt w0 m rb n a l lo hi w) (hb : Below w.heap.size w w') : BSt w0 m rb n a l w.heap.size w'.heap.size w' := by
  obtain ⟨own, lv, h1, h2, h3, h4, h5, h6, h7, h8, h9⟩ := h
  have hr := h2.blk.lt
  refine ⟨_, lv, h1.apart (P := fun _ => False) (Chg.of_below hb) (fun _ _ _ e => e) (Nat.le_refl _), h2.kept hb, fun e => h3 e.1, fun g hg e => h4 g hg e.1, fun k hk => h5 k hk.1, h6, fun g hg1 hg2 => ⟨fun e => e.2 ⟨hg1, hg2⟩, by omega, fun e => ?_⟩, Nat.le_refl _, below_next hb h9⟩
  have := (h2.row.lt g e).2
  omega
theorem BSt.chg {P : Nat → Prop} (h : BSt w0 m rb n a l lo hi w) (hc : Chg P w w') (hP : ∀ k, P k → w0.heap.size ≤ k ∧ lo ≤ k ∧ k < hi) : BSt w0 m rb n a l lo hi w' := by
  obtain ⟨own, lv, h1, h2, h3, h4, h5, h6, h7, h8, h9⟩ := h
  have hz : ∀ k, own k → k < w.heap.size → ¬ P k := fun k hk _ e => (h7 k (hP k e).2.1 (hP k e).2.2).1 hk
  obtain ⟨v, W, q1, q2⟩ := h1
  refine ⟨own, lv, ⟨v, W, q1.far hc hz, q2⟩, h2.chg hc (fun e => (h7 rb (hP _ e).2.1 (hP _ e).2.2).2.1 rfl) (fun g hg e => (h7 g (hP _ e).2.1 (hP _ e).2.2).2.2 hg), h3, h4, h5, h6, h7, Nat.le_trans h8 hc.size, h9.trans (hc.to_below h9.size (fun k hk e => by have := (hP k e).1; omega))⟩
theorem BSt.step (hG : GM w m own n a' l') (hR : RMt w rb n a lv l) (h3 : ¬ own rb) (h4 : ∀ g, lv.ownBlock = some g → ¬ own g) (h5 : ∀ k, own k → w0.heap.size ≤ k) (h6 : w0.heap.size ≤ rb) (h9 : Below w0.heap.size w0 w)
    (hR2 : RMt w' rb n a' lv' l') (hlv : ∀ g, lv'.ownBlock = some g → lv.ownBlock = some g ∨ w.heap.size ≤ g) (hc : Chg (One rb) w w') : BSt w0 m rb n a' l' 0 0 w' := by
  refine ⟨_, lv', hG.apart hc (fun k hk _ e => h3 (by have : k = rb := e; rwa [← this])) (Nat.le_refl _), hR2, fun e => h3 e.1, fun g hg e => ?_, fun k hk => h5 k hk.1, h6, fun g _ h => absurd h (Nat.not_lt_zero _), Nat.zero_le _, h9.trans (hc.to_below h9.size (fun k hk e => by have : k = rb := e; omega))⟩
  rcases hlv g hg with h | h
  · exact h4 g h e.1
  · exact e.2 ⟨h, (hR2.row.lt g hg).2⟩
end
theorem BSt.free {w0 w : World} {m rb n a lo hi : Nat} {l : List Ce} (h : BSt w0 m rb n a l lo hi w) : BSt w0 m rb n a l 0 0 w := by
  obtain ⟨own, lv, h1, h2, h3, h4, h5, h6, h7, h8, h9⟩ := h
  exact ⟨own, lv, h1, h2, h3, h4, h5, h6, fun g _ h => absurd h (Nat.not_lt_zero _), Nat.zero_le _, h9⟩
theorem BSt.bel {w0 w : World} {m rb n a lo hi : Nat} {l : List Ce} (h : BSt w0 m rb n a l lo hi w) : Below w0.heap.size w0 w := by
  obtain ⟨own, lv, h1, h2, h3, h4, h5, h6, h7, h8, h9⟩ := h; exact h9
theorem BSt.start {w0 w1 w2 : World} {m rb n a : Nat} {l : List Ce} {own : Nat → Prop} (hG : GM w1 m own n a l) (h5 : ∀ k, own k → w0.heap.size ≤ k) (h9 : Below w0.heap.size w0 w1) (hb : Below w1.heap.size w1 w2) (hR : RMt w2 rb n a (.slice none 0 0) l) (hlo : w1.heap.size ≤ rb) : BSt w0 m rb n a l 0 0 w2 := by
  have hr := hR.blk.lt
  refine ⟨_, _, hG.apart (P := fun _ => False) (Chg.of_below hb) (fun _ _ _ e => e) (Nat.le_refl _), hR, fun e => e.2 ⟨hlo, hr⟩, fun g hg => ?_, fun k hk => h5 k hk.1, Nat.le_trans h9.size hlo, fun g _ h => absurd h (Nat.not_lt_zero _), Nat.zero_le _, below_next hb h9⟩
  cases hg
theorem perm_sorted_eq : ∀ {xs ys : List Nat}, xs.Perm ys → xs.Pairwise (· ≤ ·) → ys.Pairwise (· ≤ ·) → xs = ys
  | [], ys, p, _, _ => by cases ys with
    | nil => rfl
    | cons y ys => have := p.length_eq; simp at this
  | x :: xs, [], p, _, _ => by have := p.length_eq; simp at this
  | x :: xs, y :: ys, p, hx, hy => by
    have h1 : x ≤ y := by
      rcases List.mem_cons.1 (p.mem_iff.2 (List.mem_cons_self (a := y) (l := ys))) with h | h
      · omega
      · exact (List.pairwise_cons.1 hx).1 y h
    have h2 : y ≤ x := by
      rcases List.mem_cons.1 (p.mem_iff.1 (List.mem_cons_self (a := x) (l := xs))) with h | h
      · omega
      · exact (List.pairwise_cons.1 hy).1 x h
    obtain rfl : x = y := by omega
    rw [perm_sorted_eq (List.Perm.cons_inv p) (List.pairwise_cons.1 hx).2 (List.pairwise_cons.1 hy).2]
theorem owns_put16 {w : World} {base g n cap s j : Nat} {e : TypeId} {xs : List Value} (h : w.ownsRow base e s (.slice (some ⟨g, 0, none⟩) n cap) n xs) (hj : j < n * s) (u : Value) :
    (∃ c, w.cell? ⟨g, j, none⟩ = some c) ∧ w.frozen? ⟨g, j, none⟩ = false ∧ (w.setCell ⟨g, j, none⟩ u).ownsRow base e s (.slice (some ⟨g, 0, none⟩) n cap) n (xs.set j u) ∧ Chg (fun k => k = g) w (w.setCell ⟨g, j, none⟩ u) := by
  have hl : xs.length = n * s := h.1
  have hx : xs[j]? = some (xs[j]'(by omega)) := List.getElem?_eq_getElem _
  have h1 := h.cells (g := g) rfl j _ hx
  rw [Addr.add_lit, Nat.zero_add] at h1
  refine ⟨⟨_, h1⟩, ?_, (h.stored j u).1, Chg.setCell j u rfl⟩
  rcases h.2 with ⟨e, _⟩ | ⟨g', cap', cur, e, _, hg, _⟩
  · cases e
  · injection e with e1
    injection e1 with e1
    injection e1 with e1
    subst e1
    simp [World.frozen?, hg]
theorem row_addr16 {w : World} {base n c : Nat} {a : Option Addr} {xs : List Value} {e : TypeId} {s : Nat} (h : w.ownsRow base e s (.slice a n c) n xs) (hn : 0 < n) : ∃ g, a = some ⟨g, 0, none⟩ := by
  rcases h.2 with ⟨e, h0⟩ | ⟨g, cap, cur, e, hb, hg, _⟩
  · omega
  · exact ⟨g, by injection e⟩
/-- What stands ahead of a call. -/
structure BOp (w0 : World) (m rb n a : Nat) (l : List Ce) (own : Nat → Prop) (lv : Value) (w : World) : Prop where
  gm : GM w m own n a l
  rm : RMt w rb n a lv l
  nr : ¬ own rb
  nl : ∀ g, lv.ownBlock = some g → ¬ own g
  ob : ∀ k, own k → w0.heap.size ≤ k
  rl : w0.heap.size ≤ rb
  bel : Below w0.heap.size w0 w
theorem BSt.op {w0 w : World} {m rb n a lo hi : Nat} {l : List Ce} (h : BSt w0 m rb n a l lo hi w) : ∃ own lv, BOp w0 m rb n a l own lv w := by
  obtain ⟨own, lv, h1, h2, h3, h4, h5, h6, h7, h8, h9⟩ := h
  exact ⟨own, lv, h1, h2, h3, h4, h5, h6, h9⟩
/-- The program has answered, the document hasn't. -/
structure BMid (w0 : World) (m rb n a : Nat) (l : List Ce) (a' : Nat) (l' : List Ce) (own : Nat → Prop) (lv : Value) (w : World) : Prop where
  gm : GM w m own n a' l'
  rm : RMt w rb n a lv l
  nr : ¬ own rb
  nl : ∀ g, lv.ownBlock = some g → ¬ own g
  ob : ∀ k, own k → w0.heap.size ≤ k
  rl : w0.heap.size ≤ rb
  bel : Below w0.heap.size w0 w
section
variable {w0 w w' : World} {m rb n a a' : Nat} {l l' : List Ce} {lv lv' : Value} {own : Nat → Prop}
theorem BOp.kept (h : BOp w0 m rb n a l own lv w) (hb : Below w.heap.size w w') : BOp w0 m rb n a l own lv w' :=
  ⟨h.gm.kept hb, h.rm.kept hb, h.nr, h.nl, h.ob, h.rl, below_next hb h.bel⟩
theorem BOp.mid (h : BOp w0 m rb n a l own lv w) (hg : GM w' m own n a' l') (hc : Chg own w w') : BMid w0 m rb n a l a' l' own lv w' :=
  ⟨hg, h.rm.chg hc h.nr h.nl, h.nr, h.nl, h.ob, h.rl, h.bel.trans (hc.to_below h.bel.size (fun k hk e => by have := h.ob k e; omega))⟩
theorem BMid.kept (h : BMid w0 m rb n a l a' l' own lv w) (hb : Below w.heap.size w w') : BMid w0 m rb n a l a' l' own lv w' :=
  ⟨h.gm.kept hb, h.rm.kept hb, h.nr, h.nl, h.ob, h.rl, below_next hb h.bel⟩
theorem BMid.step (h : BMid w0 m rb n a l a' l' own lv w) (hR2 : RMt w' rb n a' lv' l') (hlv : ∀ g, lv'.ownBlock = some g → lv.ownBlock = some g ∨ w.heap.size ≤ g) (hc : Chg (One rb) w w') : BSt w0 m rb n a' l' 0 0 w' :=
  BSt.step h.gm h.rm h.nr h.nl h.ob h.rl h.bel hR2 hlv hc
end
def BothPost (w0 : World) (m rb n : Nat) (e : Ending) (w' : World) : Prop := e = .returned (.bool true) ∧ ∃ a' l', BSt w0 m rb n a' l' 0 0 w'
theorem BothPost.of {w0 w w' : World} {m rb n a : Nat} {l : List Ce} (h : BSt w0 m rb n a l 0 0 w) (hb : Below w.heap.size w w') : BothPost w0 m rb n (.returned (.bool true)) w' := ⟨rfl, a, l, h.kept hb⟩
theorem eqC_self (a b c d : Int) : eqC a b c d a b c d = true := by simp [eqC]
/-- The world in which the call's own copy of the act lies. -/
theorem act_box {w0 w : World} {m rb n a lo hi : Nat} {l : List Ce} (h : BSt w0 m rb n a l lo hi w) (cs : Array Value) (t : TypeId) :
    ∃ own lv, BOp w0 m rb n a l own lv (w.alloc (.cells cs t)) ∧ Blk (w.alloc (.cells cs t)) w.heap.size cs t ∧ ¬ own w.heap.size ∧ rb ≠ w.heap.size := by
  obtain ⟨own, lv, h1, h2, h3, h4, h5, h6, h7, h8, h9⟩ := h
  have hb : Below w.heap.size w (w.alloc (.cells cs t)) := (Below.refl _ _).alloc (Nat.le_refl _) _
  exact ⟨_, lv, ⟨h1.boxed _, h2.kept hb, fun e => h3 e.1, fun g hg e => h4 g hg e.1, fun k hk => h5 k hk.1, h6, below_next hb h9⟩, Blk.new w _ _, fun e => e.2 rfl, by have := h2.blk.lt; omega⟩
attribute [local go_sem ↓] ce_eql ce_grd
set_option maxRecDepth 100000 in
set_option maxHeartbeats 8000000 in
theorem both_place (w0 : World) (m rb n a id lo hi : Nat) (K O : Int) (l : List Ce) (w : World) (h : BSt w0 m rb n a l lo hi w) (hid2 : id < 4294967296) (hK : K = 0 ∨ K = 1 ∨ K = 2) :
    Calls Try.prog 13 #[.pointer (some ⟨m, 0, none⟩), .pointer (some ⟨rb, 0, none⟩), .agg #[.int .i64 K, .int .u32 (id : Nat), .int .i64 O]] w (BothPost w0 m rb n) := by
  obtain ⟨own, lv, HOP, HBX, hng, hrg⟩ := act_box h #[.int .i64 K, .int .u32 (id : Nat), .int .i64 O] 34
  obtain ⟨gx, hgx⟩ : ∃ g, g = w.heap.size := ⟨_, rfl⟩
  obtain ⟨X, hX⟩ : ∃ X, X = w.alloc (.cells #[.int .i64 K, .int .u32 (id : Nat), .int .i64 O] 34) := ⟨_, rfl⟩
  rw [← hX] at HOP
  rw [← hX, ← hgx] at HBX
  rw [← hgx] at hng hrg
  have HOPx := Lib.hid HOP
  have HXB := Lib.hid HBX
  have HNG := Lib.hid hng
  have HRG := Lib.hid hrg
  have y0 := HBX.cell 0
  have y1 := HBX.cell 1
  have y2 := HBX.cell 2
  simp at y0 y1 y2
  have PL := Lib.hid (gplace_any m n a id O own l X HOP.gm hid2)
  have HOK := Lib.hid HOP.gm.ok
  have HI2 := Lib.hid hid2
  clear HOP HBX h hng hrg hid2
  rcases hK with rfl | rfl | rfl
  all_goals
    go_enter Try.func13, Try.ntmps13
    go_upto_region 1 with fail
    rw [← hgx, ← hX]
    clear hgx hX
    go_wp2_with fail
    refine PL.out.mono ?_; rintro e w1 ⟨c, er, l', rfl, hp, hg, hc⟩
    have HP := Lib.hid hp
    have HM1 := Lib.hid (HOPx.out.mid hg hc)
    have HXB1 := Lib.hid (HXB.out.chgC hc HNG.out)
    clear hp hg hc y0 y1 y2 HOPx PL HXB
    obtain ⟨c0, c1, c2, c3⟩ := c
    dsimp only [ceA]
    go_upto_region 6 with fail
    obtain ⟨g2, hg2⟩ : ∃ g, g = w1.heap.size := ⟨_, rfl⟩
    obtain ⟨X2, hX2⟩ : ∃ x, x = w1.alloc (.cells #[.int .u32 (c0 : Nat), .int .i64 (c1 : Nat), .int .i64 (c2 : Nat), .int .i64 (c3 : Nat)] 48) := ⟨_, rfl⟩
    have hb : Below w1.heap.size w1 X2 := by rw [hX2]; exact (Below.refl _ _).alloc (Nat.le_refl _) _
    have HM2 := Lib.hid (HM1.out.kept hb)
    have HXB2 := Lib.hid (HXB1.out.kept hb)
    have HG2 : Hid (Blk X2 g2 #[.int .u32 (c0 : Nat), .int .i64 (c1 : Nat), .int .i64 (c2 : Nat), .int .i64 (c3 : Nat)] 48) := by unfold Hid; rw [hX2, hg2]; exact Blk.new _ _ _
    have HR2 : Hid (rb ≠ g2) := by unfold Hid; rw [hg2]; exact Nat.ne_of_lt HM1.out.rm.blk.lt
    rw [← hg2, ← hX2]
    clear hg2 hX2 hb HM1 HXB1
    have RP := Lib.hid (rplace_any rb n a id O lv l X2 HM2.out.rm HOK.out HI2.out)
    have y1 := HXB2.out.cell 1
    have y2 := HXB2.out.cell 2
    simp at y1 y2
    go_wp2_with fail
    refine RP.out.mono ?_; rintro e w3 ⟨c', er', l'', lv', rfl, hp', hr', hlv, hc'⟩
    obtain ⟨rfl, rfl, rfl⟩ := PlaceR.det HP.out hp'
    have HS3 := Lib.hid (HM2.out.step hr' hlv hc')
    have HG3 := Lib.hid (HG2.out.chgC hc' (fun e => HR2.out e.symm))
    clear hp' hr' hlv hc' RP HM2 HG2 y1 y2 HP HXB2
    dsimp only [ceA]
    go_upto_region 7 with fail
    obtain ⟨g4, hg4⟩ : ∃ g, g = w3.heap.size := ⟨_, rfl⟩
    obtain ⟨X4, hX4⟩ : ∃ x, x = w3.alloc (.cells #[.int .u32 (c0 : Nat), .int .i64 (c1 : Nat), .int .i64 (c2 : Nat), .int .i64 (c3 : Nat)] 48) := ⟨_, rfl⟩
    have hb : Below w3.heap.size w3 X4 := by rw [hX4]; exact (Below.refl _ _).alloc (Nat.le_refl _) _
    have HS4 := Lib.hid (HS3.out.kept hb)
    have HG4 := Lib.hid (HG3.out.kept hb)
    have HH4 : Hid (Blk X4 g4 #[.int .u32 (c0 : Nat), .int .i64 (c1 : Nat), .int .i64 (c2 : Nat), .int .i64 (c3 : Nat)] 48) := by unfold Hid; rw [hX4, hg4]; exact Blk.new _ _ _
    rw [← hg4, ← hX4]
    clear hg4 hX4 hb HS3 HG3
    have u0 := HG4.out.cell 0
    have u1 := HG4.out.cell 1
    have u2 := HG4.out.cell 2
    have u3 := HG4.out.cell 3
    have v0 := HH4.out.cell 0
    have v1 := HH4.out.cell 1
    have v2 := HH4.out.cell 2
    have v3 := HH4.out.cell 3
    simp at u0 u1 u2 u3 v0 v1 v2 v3
    have t1 := eqC_self (c0 : Nat) (c1 : Nat) (c2 : Nat) (c3 : Nat)
    have t2 : (er == er) = true := by simp
    go_wp2_with fail
    go_ret
    exact BothPost.of HS4.out (Below.refl _ _)
set_option maxRecDepth 100000 in
set_option maxHeartbeats 8000000 in
theorem both_remove (w0 : World) (m rb n a id lo hi : Nat) (K O : Int) (l : List Ce) (w : World) (h : BSt w0 m rb n a l lo hi w) (hid2 : id < 4294967296) (hK : K = 3 ∨ K = 4) :
    Calls Try.prog 13 #[.pointer (some ⟨m, 0, none⟩), .pointer (some ⟨rb, 0, none⟩), .agg #[.int .i64 K, .int .u32 (id : Nat), .int .i64 O]] w (BothPost w0 m rb n) := by
  obtain ⟨own, lv, HOP, HBX, hng, hrg⟩ := act_box h #[.int .i64 K, .int .u32 (id : Nat), .int .i64 O] 34
  obtain ⟨gx, hgx⟩ : ∃ g, g = w.heap.size := ⟨_, rfl⟩
  obtain ⟨X, hX⟩ : ∃ X, X = w.alloc (.cells #[.int .i64 K, .int .u32 (id : Nat), .int .i64 O] 34) := ⟨_, rfl⟩
  rw [← hX] at HOP
  rw [← hX, ← hgx] at HBX
  rw [← hgx] at hng hrg
  have HOPx := Lib.hid HOP
  have HXB := Lib.hid HBX
  have HNG := Lib.hid hng
  have y0 := HBX.cell 0
  have y1 := HBX.cell 1
  have y2 := HBX.cell 2
  simp at y0 y1 y2
  have PL := Lib.hid (gremove_any m n a id own l X HOP.gm)
  have HOK := Lib.hid HOP.gm.ok
  have HA16 := Lib.hid HOP.gm.a16
  clear HOP HBX h hng hrg hid2
  rcases hK with rfl | rfl
  all_goals
    go_enter Try.func13, Try.ntmps13
    go_upto_region 1 with fail
    rw [← hgx, ← hX]
    clear hgx hX
    go_wp2_with fail
    refine PL.out.mono ?_; rintro e w1 ⟨er, a', l', rfl, hp, hg, hc⟩
    have HP := Lib.hid hp
    have HM1 := Lib.hid (HOPx.out.mid hg hc)
    have HXB1 := HXB.out.chgC hc HNG.out
    have z1 := HXB1.cell 1
    simp at z1
    have RP := Lib.hid (rremove_any rb n a id lv l w1 HM1.out.rm HOK.out (Nat.le_succ_of_le HA16.out))
    clear hp hg hc y0 y1 y2 HOPx PL HXB HXB1
    go_wp2_with fail
    refine RP.out.mono ?_; rintro e w3 ⟨er', a'', l'', lv', rfl, hp', hr', hlv, hc'⟩
    obtain ⟨rfl, rfl, rfl⟩ := RemR.det HP.out hp'
    have HS3 := Lib.hid (HM1.out.step hr' hlv hc')
    clear hp' hr' hlv hc' RP HM1 HP
    have t2 : (er == er) = true := by simp
    go_wp2_with fail
    go_ret
    exact BothPost.of HS3.out (Below.refl _ _)
set_option maxRecDepth 100000 in
set_option maxHeartbeats 8000000 in
theorem both_turn (w0 : World) (m rb n a id lo hi : Nat) (K O : Int) (l : List Ce) (w : World) (h : BSt w0 m rb n a l lo hi w) (hK : K = 5) :
    Calls Try.prog 13 #[.pointer (some ⟨m, 0, none⟩), .pointer (some ⟨rb, 0, none⟩), .agg #[.int .i64 K, .int .u32 (id : Nat), .int .i64 O]] w (BothPost w0 m rb n) := by
  obtain ⟨own, lv, HOP, HBX, hng, hrg⟩ := act_box h #[.int .i64 K, .int .u32 (id : Nat), .int .i64 O] 34
  obtain ⟨gx, hgx⟩ : ∃ g, g = w.heap.size := ⟨_, rfl⟩
  obtain ⟨X, hX⟩ : ∃ X, X = w.alloc (.cells #[.int .i64 K, .int .u32 (id : Nat), .int .i64 O] 34) := ⟨_, rfl⟩
  rw [← hX] at HOP
  rw [← hX, ← hgx] at HBX
  have HOPx := Lib.hid HOP
  have y0 := HBX.cell 0
  simp at y0
  have PL := Lib.hid (turn_any m n a own l X HOP.gm)
  have HOK := Lib.hid HOP.gm.ok
  have HA16 := Lib.hid HOP.gm.a16
  clear HOP HBX h hng hrg
  subst hK
  go_enter Try.func13, Try.ntmps13
  go_upto_region 1 with fail
  rw [← hgx, ← hX]
  clear hgx hX
  go_wp2_with fail
  refine PL.out.mono ?_; rintro e w1 ⟨rfl, hg, hc⟩
  have HM1 := Lib.hid (HOPx.out.mid hg hc)
  have RP := Lib.hid (rturn_any rb n a n lv l w1 HM1.out.rm HOK.out (Nat.le_succ_of_le HA16.out))
  clear hg hc y0 HOPx PL
  go_wp2_with fail
  refine RP.out.mono ?_; rintro e w3 ⟨rfl, hr', hc'⟩
  have HS3 := Lib.hid (HM1.out.step hr' (fun g h => .inl h) hc')
  clear hr' hc' RP HM1
  go_wp2_with fail
  go_ret
  exact BothPost.of HS3.out (Below.refl _ _)
set_option maxRecDepth 100000 in
set_option maxHeartbeats 8000000 in
theorem both_unify (w0 : World) (m rb n a id lo hi : Nat) (K O : Int) (l : List Ce) (w : World) (h : BSt w0 m rb n a l lo hi w) (k0 : ¬ K = 0) (k1 : ¬ K = 1) (k2 : ¬ K = 2) (k3 : ¬ K = 3) (k4 : ¬ K = 4) (k5 : ¬ K = 5) :
    Calls Try.prog 13 #[.pointer (some ⟨m, 0, none⟩), .pointer (some ⟨rb, 0, none⟩), .agg #[.int .i64 K, .int .u32 (id : Nat), .int .i64 O]] w (BothPost w0 m rb n) := by
  obtain ⟨own, lv, HOP, HBX, hng, hrg⟩ := act_box h #[.int .i64 K, .int .u32 (id : Nat), .int .i64 O] 34
  obtain ⟨gx, hgx⟩ : ∃ g, g = w.heap.size := ⟨_, rfl⟩
  obtain ⟨X, hX⟩ : ∃ X, X = w.alloc (.cells #[.int .i64 K, .int .u32 (id : Nat), .int .i64 O] 34) := ⟨_, rfl⟩
  rw [← hX] at HOP
  rw [← hX, ← hgx] at HBX
  have HOPx := Lib.hid HOP
  have y0 := HBX.cell 0
  simp at y0
  have PL := Lib.hid (unify_any m n a own l X HOP.gm)
  have HOK := Lib.hid HOP.gm.ok
  have HA16 := Lib.hid HOP.gm.a16
  have e0 : (K == 0) = false := by simpa using k0
  have e1 : (K == 1) = false := by simpa using k1
  have e2 : (K == 2) = false := by simpa using k2
  have e3 : (K == 3) = false := by simpa using k3
  have e4 : (K == 4) = false := by simpa using k4
  have e5 : (K == 5) = false := by simpa using k5
  clear HOP HBX h hng hrg
  go_enter Try.func13, Try.ntmps13
  go_upto_region 1 with fail
  rw [← hgx, ← hX]
  clear hgx hX
  go_wp2_with fail
  refine PL.out.mono ?_; rintro e w1 ⟨l', d, rfl, hp, hg, hc⟩
  have HP := Lib.hid hp
  have HM1 := Lib.hid (HOPx.out.mid hg hc)
  have RP := Lib.hid (runify_any rb n a lv l w1 HM1.out.rm HOK.out (Nat.le_succ_of_le HA16.out))
  clear hp hg hc y0 HOPx PL
  go_wp2_with fail
  refine RP.out.mono ?_; rintro e w3 ⟨l'', d', lv', rfl, hp', hr', hlv, hc'⟩
  obtain ⟨rfl, rfl⟩ := URun.det HP.out hp'
  have HS3 := Lib.hid (HM1.out.step hr' hlv hc')
  clear hp' hr' hlv hc' RP HM1 HP
  have t2 : ((d : Int) == (d : Int)) = true := by simp
  go_wp2_with fail
  go_ret
  exact BothPost.of HS3.out (Below.refl _ _)
theorem both_any (w0 : World) (m rb n a id lo hi : Nat) (K O : Int) (l : List Ce) (w : World) (h : BSt w0 m rb n a l lo hi w) (hid2 : id < 4294967296) :
    Calls Try.prog 13 #[.pointer (some ⟨m, 0, none⟩), .pointer (some ⟨rb, 0, none⟩), .agg #[.int .i64 K, .int .u32 (id : Nat), .int .i64 O]] w fun e w' => e = .returned (.bool true) ∧ ∃ a' l', BSt w0 m rb n a' l' 0 0 w' := by
  by_cases h1 : K = 0 ∨ K = 1 ∨ K = 2
  · exact both_place w0 m rb n a id lo hi K O l w h hid2 h1
  · by_cases h2 : K = 3 ∨ K = 4
    · exact both_remove w0 m rb n a id lo hi K O l w h hid2 h2
    · by_cases h3 : K = 5
      · exact both_turn w0 m rb n a id lo hi K O l w h h3
      · exact both_unify w0 m rb n a id lo hi K O l w h (by omega) (by omega) (by omega) (by omega) (by omega) h3
end

end Go.Proofs.Ytfobapnncjjeiaa
