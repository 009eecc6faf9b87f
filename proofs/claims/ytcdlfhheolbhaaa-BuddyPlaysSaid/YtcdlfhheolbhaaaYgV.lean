/-
  The document's yard, owned; a block goes back.
  The document's yard: Take, TakeAt.
  The document's yard: Mark, Give, Would.
  The program's yard beside the document's: each act leaves them alike.
  Two yards in one memory; rows that are spoilt.
-/
import Derived.Test.YtcdlfhheolbhaaaYgU
import Derived.Deep.AppendLies
namespace Go.Proofs.Ytcdlfhheolbhaaa
set_option linter.unusedVariables false

section
open Go Go.RowKit Go.Lib
/-- The document's yard in block b, with the rows that it owns. -/
structure RMp (w : World) (b : Nat) (own : Nat → Prop) (n : Nat) (L : List Bk) (bad : List Bool) (vL vB : Value) : Prop where
  blk : Blk w b #[.int .i64 (n : Int), vL, vB] 69
  bown : own b
  new : ∀ k, w.heap.size ≤ k → own k
  rl : BOwn w 0 vL L
  rb : BoOwn w 0 vB bad
  ol : ∀ g, vL.ownBlock = some g → own g ∧ g ≠ b
  ob : ∀ g, vB.ownBlock = some g → own g ∧ g ≠ b
  ap : ∀ g, vL.ownBlock = some g → vB.ownBlock ≠ some g
def RM (w : World) (b : Nat) (own : Nat → Prop) (n : Nat) (L : List Bk) (bad : List Bool) : Prop := ROk n L bad ∧ ∃ vL vB, RMp w b own n L bad vL vB
theorem RMp.kept {w w' : World} {b n : Nat} {own : Nat → Prop} {L : List Bk} {bad : List Bool} {vL vB : Value} (h : RMp w b own n L bad vL vB) (hb : Below w.heap.size w w') : RMp w' b own n L bad vL vB :=
  ⟨h.blk.kept hb, h.bown, fun k hk => h.new k (Nat.le_trans hb.size hk), own_older h.rl hb, own_older h.rb hb, h.ol, h.ob, h.ap⟩
theorem RM.kept {w w' : World} {b n : Nat} {own : Nat → Prop} {L : List Bk} {bad : List Bool} (h : RM w b own n L bad) (hb : Below w.heap.size w w') : RM w' b own n L bad := by
  obtain ⟨h0, vL, vB, h1⟩ := h; exact ⟨h0, vL, vB, h1.kept hb⟩
theorem RMp.rr {w : World} {b n : Nat} {own : Nat → Prop} {L : List Bk} {bad : List Bool} {vL vB : Value} (h : RMp w b own n L bad vL vB) (h0 : 0 < bad.length) : RR w b n L bad :=
  ⟨vL, vB, h.blk.cell 0, h.blk.cell 1, h.blk.cell 2, brow_of_own h.rl, borow_of_own h.rb h0⟩
theorem ROk.pos {n : Nat} {L : List Bk} {bad : List Bool} (h : ROk n L bad) : 0 < bad.length := by rw [h.len]; exact two_pos n
theorem RM.rr {w : World} {b n : Nat} {own : Nat → Prop} {L : List Bk} {bad : List Bool} (h : RM w b own n L bad) : RR w b n L bad := by
  obtain ⟨h0, vL, vB, h1⟩ := h; exact h1.rr h0.pos
theorem RM.lt {w : World} {b n : Nat} {own : Nat → Prop} {L : List Bk} {bad : List Bool} (h : RM w b own n L bad) : b < w.heap.size := by
  obtain ⟨h0, vL, vB, h1⟩ := h; exact h1.blk.lt
/-- The row of taken blocks is written anew, and stored. -/
theorem RMp.put {w w4 : World} {b n : Nat} {own : Nat → Prop} {L L' : List Bk} {bad : List Bool} {vL vB v4 : Value} (h : RMp w b own n L bad vL vB) (hc : Chg (fun k => vL.ownBlock = some k) w w4) (ho : BOwn w4 0 v4 L')
    (hat : ∀ k, v4.ownBlock = some k → vL.ownBlock = some k ∨ w.heap.size ≤ k) :
    Blk w4 b #[.int .i64 (n : Int), vL, vB] 69 ∧ RMp (w4.setCell ⟨b, 1, none⟩ v4) b own n L' bad v4 vB ∧ Chg own w (w4.setCell ⟨b, 1, none⟩ v4) := by
  have hb4 : Blk w4 b #[.int .i64 (n : Int), vL, vB] 69 := by
    have := h.blk
    unfold Blk at *
    rw [hc.block b h.blk.lt (fun e => (h.ol b e).2 rfl)]; exact this
  have hlt := h.blk.lt
  have h4 : ∀ g, v4.ownBlock = some g → own g ∧ g ≠ b := fun g hg => by
    rcases hat g hg with e | e
    · exact h.ol g e
    · exact ⟨h.new g e, by omega⟩
  refine ⟨hb4, ⟨hb4.set 1 v4, h.bown, fun k hk => h.new k (Nat.le_trans hc.size (by simpa using hk)), ownsRow_setCell_other ho (fun e => (h4 b e).2 rfl) v4, ?_, h4, h.ob, fun g hg e => ?_⟩, ?_⟩
  · refine ownsRow_setCell_other (own_chg h.rb hc fun k e e2 => h.ap k e2 e) (fun e => (h.ob b e).2 rfl) v4
  · rcases hat g hg with e1 | e1
    · exact h.ap g e1 e
    · have := (h.rb.lt g e).2; omega
  · exact (hc.wider fun k _ e => (h.ol k e).1).trans (Chg.setCell 1 v4 h.bown)

/-! New. -/
def RNewPost (q : Int) (w : World) (e : Ending) (w' : World) : Prop :=
  (∃ n g : Nat, q = n ∧ n ≤ 10 ∧ e = .returned (.tuple #[.pointer (some ⟨g, 0, none⟩), .int .i64 0]) ∧ RM w' g (fun k => w.heap.size ≤ k) n [] (List.replicate (2 ^ n) false) ∧ Below w.heap.size w w') ∨
  (¬ (0 ≤ q ∧ q ≤ 10) ∧ e = .returned (.tuple #[.pointer none, .int .i64 2]) ∧ w' = w)
set_option maxRecDepth 100000 in
set_option maxHeartbeats 2000000 in
theorem rNew_any (q : Int) (w : World) : Calls Try.prog 13 #[.int .i64 q] w fun e w' => RNewPost q w e w' := by
  obtain ⟨i1, hj, hy0, hy1, hy2⟩ := info_parts Try.infoBo
  by_cases h1 : q < 0
  · have d1 : decide (q < 0) = true := decide_eq_true h1
    go_enter Try.func13, Try.ntmps13
    go_wp2_with fail
    go_returns
    exact .inr ⟨by omega, rfl, rfl⟩
  · have d1 : decide (q < 0) = false := decide_eq_false h1
    by_cases h2 : 10 < q
    · have d2 : decide (10 < q) = true := decide_eq_true h2
      go_enter Try.func13, Try.ntmps13
      go_wp2_with fail
      go_returns
      exact .inr ⟨by omega, rfl, rfl⟩
    · have d2 : decide (10 < q) = false := decide_eq_false h2
      obtain ⟨n, hn⟩ : ∃ n : Nat, q = n := ⟨q.toNat, by omega⟩
      subst hn
      have hn10 : n ≤ 10 := by omega
      have SZ := Lib.hid (rSize_any n hn10 w)
      have hM := pow_1024 hn10
      have hM0 := two_pos n
      have HRK : Hid (ROk n [] (List.replicate (2 ^ n) false)) := ⟨hn10, by simp, by simp, fun b h => by simp at h⟩
      obtain ⟨M, hMd⟩ : ∃ M, M = 2 ^ n := ⟨_, rfl⟩
      rw [← hMd] at SZ hM hM0
      have HM := Lib.hid hMd
      clear hMd
      go_enter Try.func13, Try.ntmps13
      go_wp2_with fail
      refine SZ.out.mono ?_; rintro e w2 ⟨rfl, hw⟩; replace hw := hw.symm; subst hw
      go_wp2_with (refine wpList_make_full _ rfl _ _ 66 rfl w.heap.size 4 i1 _ 1 Try.underlying66 hj hy0 hy1 .i64 .i64 M M M rfl rfl rfl rfl (by rw [hy2]; omega) (by unfold maxLen; omega) (Nat.le_refl _) ?_; intro w1 hmk1 hgr1)
      have hcells : (madeCells (Value.bool false).cells (M * 1)).toList = boolL (List.replicate M false) := by
        rw [show (Value.bool false).cells = #[Value.bool false] from rfl, toList_madeCells_one, Nat.mul_one]
        simp [boolL]
      rw [hcells] at hmk1
      have hb1 : Below w.heap.size w w1 := ⟨hgr1.os, hgr1.tape, hgr1.output, hgr1.size, fun k hk => hgr1.block k hk (by simp)⟩
      have hg1 : w.heap.size < w1.heap.size := by
        obtain ⟨g', e, _, h2⟩ := bo_addr hmk1 hM0
        injection e with e
        injection e with e
        omega
      go_returns
      refine .inl ⟨n, w1.heap.size, rfl, hn10, rfl, ⟨HRK.out, .slice none 0 0, .slice (some ⟨w.heap.size, 0, none⟩) M M, ⟨Blk.new _ _ _, hb1.size, fun k hk => ?_, World.ownsRow_nil _ _ _ _, ?_, fun g h => (by cases h), fun g h => ?_, fun g h => (by cases h)⟩⟩, hb1.alloc hb1.size _⟩
      · have : w1.heap.size + 1 ≤ k := by simpa using hk
        have := hb1.size; show w.heap.size ≤ k; omega
      · show World.ownsRow _ 0 _ 1 _ (List.replicate (2 ^ n) false).length _
        rw [List.length_replicate, ← HM.out]
        exact (hmk1.alloc _).mono (Nat.zero_le _)
      · have e : g = w.heap.size := by injection h with h; exact h.symm
        rw [e]; exact ⟨Nat.le_refl _, by omega⟩

/-! Give. -/
def giveL (L : List Bk) (q : Int) : List Bk := L.filter fun b => decide ((b.1 : Int) ≠ q)
theorem giveL_succ {L : List Bk} {i : Nat} {q : Int} (h : i < L.length) : giveL (L.take (i + 1)) q = if ((L[i]).1 : Int) = q then giveL (L.take i) q else giveL (L.take i) q ++ [L[i]] := by
  have e : L.take (i + 1) = L.take i ++ [L[i]] := by rw [List.take_add_one, List.getElem?_eq_getElem h]; rfl
  unfold giveL; rw [e, List.filter_append]
  by_cases hq : ((L[i]).1 : Int) = q
  · rw [if_pos hq]; simp [hq]
  · rw [if_neg hq]; simp [hq]
theorem giveL_len (L : List Bk) (q : Int) : (giveL L q).length ≤ L.length := List.length_filter_le _ _
/-- What Give leaves: nothing turned, or a new row stored. -/
def RGivePost (b n : Nat) (L : List Bk) (q : Int) (w : World) (e : Ending) (w' : World) : Prop :=
  ((giveL L q).length = L.length ∧ e = .returned (.int .i64 4) ∧ Below w.heap.size w w') ∨
  ∃ W v', (giveL L q).length ≠ L.length ∧ e = .returned (.int .i64 0) ∧ Below w.heap.size w W ∧ BOwn W w.heap.size v' (giveL L q) ∧ w' = W.setCell ⟨b, 1, none⟩ v'
set_option maxRecDepth 100000 in
set_option maxHeartbeats 4000000 in
theorem rGive_any (b n : Nat) (L : List Bk) (q : Int) (vL vB : Value) (w : World) (hfew : L.length ≤ 4096) (hB : Blk w b #[.int .i64 (n : Int), vL, vB] 69) (hL : BRow w vL L) :
    Calls Try.prog 40 #[.pointer (some ⟨b, 0, none⟩), .int .i64 q] w fun e w' => RGivePost b n L q w e w' := by
  obtain ⟨i0, hi, hz0, hz1, hz2⟩ := info_parts Try.infoBk
  have k1 := hB.cell 1
  simp at k1
  obtain ⟨la, lc, rfl⟩ := hL.slice
  obtain ⟨LN, hLN⟩ : ∃ LN, LN = L.length := ⟨_, rfl⟩
  rw [← hLN] at k1 hfew
  have HLN := Lib.hid hLN
  have HL := Lib.hid hL
  have K1 := Lib.hid k1
  have HBK := Lib.hid hB
  have h0 : Below w.heap.size w w := Below.refl _ _
  clear hL k1 hLN hB
  go_enter Try.func40, Try.ntmps40
  go_wp2_with fail
  go_loopw [5, 6] (fun sv i wr => ∃ (k N : Nat) (sa : Option Addr) (sc : Nat), k ≤ LN ∧ i = .int .i64 k ∧ sv = .slice sa N sc ∧ Hid (N = (giveL (L.take k) q).length) ∧ Hid (BOwn wr w.heap.size (.slice sa N sc) (giveL (L.take k) q)) ∧ Hid (Below w.heap.size w wr)) (fun _ i _ => LN - (RowKit.intOf i).toNat)
  case atStart => exact ⟨0, 0, none, 0, Nat.zero_le _, rfl, rfl, rfl, World.ownsRow_nil _ _ _ _, h0⟩
  case round =>
    obtain ⟨j, N, sa, sc, hj, rfl, rfl, HN, HS, HB⟩ := hrel
    have c1 := cell_next HB.out K1.out
    by_cases hltj : j < LN
    · have hdj : decide (j < LN) = true := decide_eq_true hltj
      have hji : (j : Int) < (LN : Int) := by omega
      have hjL : j < L.length := by rw [← HLN.out]; exact hltj
      obtain ⟨g, off, cL, hqv, hq0, hcell⟩ := brow_at HL.out hjL
      have hqa : la = some ⟨g, off, none⟩ := by injection hqv
      subst hqa
      obtain ⟨d0, d1⟩ := (hcell.kept HB.out) j hjL
      have hsu := giveL_succ (q := q) hjL
      have hNl : N ≤ 4096 := by rw [HN.out]; have := giveL_len (L.take j) q; have : (L.take j).length ≤ j := List.length_take_le _ _; omega
      have hql : g < wr.heap.size := Nat.lt_of_lt_of_le hq0 HB.out.size
      obtain ⟨⟨bs, bo⟩, hbb⟩ : ∃ b', b' = L[j] := ⟨_, rfl⟩
      rw [← hbb] at d0 d1 hsu
      dsimp only at d0 d1 hsu
      have HSU := Lib.hid hsu
      clear hqv hcell hbb hsu
      by_cases he : (bs : Int) = q
      · have hne1 : ((bs : Int) != q) = false := by rw [he]; simp
        have HSE : Hid (giveL (L.take (j + 1)) q = giveL (L.take j) q) := by unfold Hid; rw [HSU.out, if_pos he]
        have HE := Lib.hid he
        clear he
        go_wp2_with fail
        go_roundw
        case rel => exact ⟨j + 1, N, sa, sc, hltj, by go_num, rfl, by rw [HSE.out]; exact HN, by rw [HSE.out]; exact HS, HB⟩
        case measure => simp [RowKit.intOf]; omega
      · have hne1 : ((bs : Int) != q) = true := bne_iff_ne.2 he
        have HSE : Hid (giveL (L.take (j + 1)) q = giveL (L.take j) q ++ [(bs, bo)]) := by unfold Hid; rw [HSU.out, if_neg he]
        have HNEW : Hid (∀ q u, (blkC (bs, bo))[q]? = some u → (wr.alloc (.cells #[.int .i64 (bs : Int), .int .i64 (bo : Int)] 45)).cell? ((⟨wr.heap.size, 0, none⟩ : Addr).add q) = some u) := news_alloc wr (blkC (bs, bo)) 45
        have HOA : Hid ((wr.alloc (.cells #[.int .i64 (bs : Int), .int .i64 (bo : Int)] 45)).ownsRow w.heap.size 45 2 (.slice sa N sc) N (blkL (giveL (L.take j) q))) := by
          have := HS.out.alloc (.cells #[.int .i64 (bs : Int), .int .i64 (bo : Int)] 45)
          rw [← HN.out] at this; exact this
        clear he
        go_wp2_with (at_builtin; refine wpList_append_own_at _ rfl _ _ 39 rfl w.heap.size 45 i0 _ 2 16 Try.underlying39 hi hz0 hz1 hz2 rfl (by decide) _ _ _ rfl HOA.out _ 1 1 (blkC (bs, bo)) rfl rfl HNEW.out (by intro u hu; simp [blkC] at hu; rcases hu with rfl | rfl <;> rfl) (by unfold maxLen; omega) (by omega) (by simp; exact Nat.le_succ_of_le HB.out.size) ?_; intro v5 w5 hown5 hgrow5 hnil5 hat5; obtain ⟨a5, c5, rfl⟩ := own_slice hown5)
        go_roundw
        case measure => simp [RowKit.intOf]; omega
        case rel =>
          refine ⟨j + 1, N + 1, a5, c5, hltj, by go_num, rfl, ?_, ?_, ?_⟩
          · unfold Hid; rw [HSE.out, List.length_append, ← HN.out]; rfl
          · unfold Hid BOwn; rw [HSE.out, blkL_snoc, List.length_append, ← HN.out]; exact hown5
          · exact (HB.out.alloc HB.out.size _).grown hgrow5 (by simp; exact Nat.le_succ_of_le HB.out.size) (fun g hg => (HOA.out.lt g hg).1)
    · have hdj : decide (j < LN) = false := decide_eq_false hltj
      have hji : ¬ (j : Int) < (LN : Int) := by omega
      have htk : L.take j = L := List.take_of_length_le (by rw [← HLN.out]; omega)
      rw [htk] at HN HS
      have hNl : N ≤ LN := by have := giveL_len L q; have := HN.out; have := HLN.out; omega
      have f1 := (HBK.out.kept HB.out).free 1
      clear htk hltj hj
      by_cases hN : N = LN
      · have hn1 : ((N : Int) == (LN : Int)) = true := by rw [hN]; simp
        have hn2 : (N == LN) = true := by rw [hN]; simp
        have HEQ : Hid ((giveL L q).length = L.length) := by unfold Hid; rw [← HN.out, ← HLN.out]; exact hN
        have hni : (N : Int) = (LN : Int) := by omega
        clear hN
        go_wp2_with fail
        go_ret
        exact .inl ⟨HEQ.out, rfl, HB.out⟩
      · have hn1 : ((N : Int) == (LN : Int)) = false := beq_eq_false_iff_ne.2 (by omega)
        have hn2 : (N == LN) = false := beq_eq_false_iff_ne.2 hN
        have HEQ : Hid ((giveL L q).length ≠ L.length) := by unfold Hid; rw [← HN.out, ← HLN.out]; exact hN
        have hni : ¬ (N : Int) = (LN : Int) := by omega
        clear hN
        go_wp2_with fail
        go_ret
        exact .inr ⟨wr, .slice sa N sc, HEQ.out, rfl, HB.out, HS.out, rfl⟩
end

section
open Go Go.RowKit Go.Lib
theorem blkC_one (b : Bk) : ∀ u ∈ blkC b, u.oneCell' = true := by intro u hu; simp [blkC] at hu; rcases hu with rfl | rfl <;> rfl
/-- What an append to the taken blocks leaves, behind its store. -/
theorem RMp.app {wA : World} {b n s o : Nat} {own : Nat → Prop} {L : List Bk} {bad : List Bool} {vL vB : Value} (h : RMp wA b own n L bad vL vB) :
    ∀ (w4 : World) (g4 cap4 : Nat), w4.ownsRow 0 45 2 (.slice (some ⟨g4, 0, none⟩) (L.length + 1) cap4) (L.length + 1) (blkL L ++ blkC (s, o)) → (wA.drew.alloc (.cells #[.int .i64 (s : Int), .int .i64 (o : Int)] 45)).grownBy w4 vL.ownBlock →
      (vL.ownBlock = some g4 ∨ g4 = wA.heap.size + 1) → (w4.cell? ⟨b, 1, none⟩ = some vL ∧ w4.frozen? ⟨b, 1, none⟩ = false) ∧
        RMp (w4.setCell ⟨b, 1, none⟩ (.slice (some ⟨g4, 0, none⟩) (L.length + 1) cap4)) b own n (L ++ [(s, o)]) bad (.slice (some ⟨g4, 0, none⟩) (L.length + 1) cap4) vB ∧ Chg own wA (w4.setCell ⟨b, 1, none⟩ (.slice (some ⟨g4, 0, none⟩) (L.length + 1) cap4)) := by
  intro w4 g4 cap4 ho hg hat
  have hb : Below wA.heap.size wA (wA.drew.alloc (.cells #[.int .i64 (s : Int), .int .i64 (o : Int)] 45)) := ((Below.refl _ _).drew).alloc (Nat.le_refl _) _
  have h2 := h.kept hb
  have ho' : BOwn w4 0 (.slice (some ⟨g4, 0, none⟩) (L.length + 1) cap4) (L ++ [(s, o)]) := by
    unfold BOwn; rw [blkL_snoc, List.length_append]; exact ho
  obtain ⟨p1, p2, p3⟩ := h2.put (Chg.of_grown hg fun g e => e) ho' (fun k hk => by
    have e : k = g4 := by injection hk with hk; exact hk.symm
    rw [e]
    rcases hat with h | h
    · exact .inl h
    · exact .inr (by rw [h]; show (wA.heap.push _).size ≤ _; simp))
  exact ⟨⟨by rw [p1.cell]; rfl, p1.free 1⟩, p2, (Chg.of_below hb).trans p3⟩

theorem BestO.get {F : List Bk} {q : Int} {b : Bk} {f : Bool} (h : BestO F q b f) (hf : f = true) : ∃ m, ∃ hm : m < F.length, F[m] = b ∧ BestR F q.toNat F.length (m : Int) := by
  cases h with
  | no h => cases hf
  | yes m hm h => exact ⟨m, hm, rfl, h⟩
theorem BestO.none_get {F : List Bk} {q : Int} {b : Bk} {f : Bool} (h : BestO F q b f) (hf : f = false) : BestR F q.toNat F.length (-1) := by
  cases h with
  | no h => exact h
  | yes m hm h => cases hf
inductive RTakeR (F : List Bk) (n : Nat) (L : List Bk) (q : Int) : Int → Int → List Bk → Prop
  | arg (h : ¬ (0 ≤ q ∧ q ≤ (n : Int))) : RTakeR F n L q 0 2 L
  | full (h0 : 0 ≤ q) (h1 : q ≤ (n : Int)) (h : BestR F q.toNat F.length (-1)) : RTakeR F n L q 0 5 L
  | ok (h0 : 0 ≤ q) (h1 : q ≤ (n : Int)) (m : Nat) (hm : m < F.length) (h : BestR F q.toNat F.length (m : Int)) : RTakeR F n L q (F[m].1 : Int) 0 (L ++ [(F[m].1, q.toNat)])
def RTakePost (b : Nat) (own : Nat → Prop) (n : Nat) (L : List Bk) (bad : List Bool) (q : Int) (w : World) (e : Ending) (w' : World) : Prop :=
  ∃ r er L', e = .returned (.tuple #[.int .i64 r, .int .i64 er]) ∧ RTakeR (freeL n (fnL (openL n L bad))) n L q r er L' ∧ RM w' b own n L' bad ∧ Chg own w w'
theorem rok_take {n : Nat} {op : Opn} {L : List Bk} {bad : List Bool} {q : Int} {m : Nat} (hk : ROk n L bad) (hl : L.length ≤ 4000) (h0 : 0 ≤ q) (hm : m < (freeL n op).length) (h : BestR (freeL n op) q.toNat (freeL n op).length (m : Int)) : ROk n (L ++ [((freeL n op)[m].1, q.toNat)]) bad := by
  refine ⟨hk.n10, hk.len, by rw [List.length_append]; simp; omega, fun b hb => ?_⟩
  rcases List.mem_append.1 hb with h1 | h1
  · exact hk.bk b h1
  · rw [List.mem_singleton.1 h1]
    generalize hbi : (m : Int) = bi at h
    cases h with
    | none h => omega
    | some m' hm' hk' ho hle hlt =>
      obtain rfl : m = m' := by omega
      have hF := freeL_mem.1 (List.getElem_mem hm')
      have := isF_begin hF ho
      exact ⟨this.1, this.2.2.1⟩
set_option maxRecDepth 100000 in
set_option maxHeartbeats 4000000 in
theorem rTake_any (b : Nat) (own : Nat → Prop) (n : Nat) (L : List Bk) (bad : List Bool) (q : Int) (w : World) (hl : L.length ≤ 4000) (h : RM w b own n L bad) :
    Calls Try.prog 38 #[.pointer (some ⟨b, 0, none⟩), .int .i64 q] w fun e w' => RTakePost b own n L bad q w e w' := by
  obtain ⟨i0, hi, hz0, hz1, hz2⟩ := info_parts Try.infoBk
  obtain ⟨vL0, vB0, hm0⟩ := h.2
  have k0 := hm0.blk.cell 0
  simp at k0
  have HM := Lib.hid h
  have hn := h.1.n10
  by_cases h1 : q < 0
  · have d1 : decide (q < 0) = true := decide_eq_true h1
    have HR := Lib.hid (RTakeR.arg (F := freeL n (fnL (openL n L bad))) (n := n) (L := L) (q := q) (by omega))
    clear h1 hm0 h
    go_enter Try.func38, Try.ntmps38
    go_wp2_with fail
    go_returns
    exact ⟨0, 2, L, rfl, HR.out, HM.out, Chg.refl _ _⟩
  · have d1 : decide (q < 0) = false := decide_eq_false h1
    by_cases h2 : (n : Int) < q
    · have d2 : decide ((n : Int) < q) = true := decide_eq_true h2
      have HR := Lib.hid (RTakeR.arg (F := freeL n (fnL (openL n L bad))) (n := n) (L := L) (q := q) (by omega))
      clear h1 h2 hm0 h
      go_enter Try.func38, Try.ntmps38
      go_wp2_with fail
      go_returns
      exact ⟨0, 2, L, rfl, HR.out, HM.out, Chg.refl _ _⟩
    · have d2 : decide ((n : Int) < q) = false := decide_eq_false h2
      obtain ⟨o, hqo⟩ : ∃ o : Nat, q = o := ⟨q.toNat, by omega⟩
      subst hqo
      have ho : o ≤ n := by omega
      have BE := Lib.hid (best_any b n L bad (o : Int) w h.1 h.rr)
      clear hm0 h h1 h2
      go_enter Try.func38, Try.ntmps38
      go_wp2_with fail
      refine BE.out.mono ?_; rintro e w1 ⟨⟨s, bo⟩, f, rfl, hO, b1⟩
      have HO := Lib.hid hO
      unfold bkV
      obtain ⟨wA, hwA⟩ : ∃ wA, wA = w1.alloc (.cells #[.int .i64 (s : Int), .int .i64 (bo : Int)] 45) := ⟨_, rfl⟩
      have hbA : Below w1.heap.size w1 wA := by rw [hwA]; exact (Below.refl _ _).alloc (Nat.le_refl _) _
      have HWA := Lib.hid (b1.trans (hbA.mono b1.size))
      obtain ⟨gX, hgX⟩ : ∃ gX, gX = w1.heap.size := ⟨_, rfl⟩
      have HX : Hid (Blk wA gX #[.int .i64 (s : Int), .int .i64 (bo : Int)] 45) := by unfold Hid; rw [hwA, hgX]; exact Blk.new _ _ _
      have HXl : Hid (w.heap.size ≤ gX) := by unfold Hid; rw [hgX]; exact b1.size
      have HMA := Lib.hid (HM.out.kept HWA.out)
      clear hbA b1 BE hO k0
      cases f with
      | false =>
        have HR : Hid (RTakeR (freeL n (fnL (openL n L bad))) n L (o : Int) 0 5 L) := by
          exact .full (by omega) (by omega) (HO.out.none_get rfl)
        go_wp2_with fail
        rw [← hwA]
        clear hwA hgX
        go_returns
        exact ⟨0, 5, L, rfl, HR.out, HMA.out, Chg.of_below HWA.out⟩
      | true =>
        have HR : Hid (RTakeR (freeL n (fnL (openL n L bad))) n L (o : Int) (s : Int) 0 (L ++ [(s, o)]) ∧ ROk n (L ++ [(s, o)]) bad) := by
          obtain ⟨m, hm, e0, h⟩ := HO.out.get rfl
          have e : (freeL n (fnL (openL n L bad)))[m].1 = s := by rw [e0]
          refine ⟨?_, ?_⟩
          · rw [← e]; exact .ok (by omega) (by omega) m hm h
          · have := rok_take HM.out.1 hl (by omega) hm h
            rw [e] at this; exact this
        obtain ⟨vL, vB, hm0⟩ := HM.out.2
        have hmA := hm0.kept HWA.out
        have hown := hmA.rl
        obtain ⟨la, lc, rfl⟩ := own_slice hown
        have PUT := Lib.hid (hmA.app (s := s) (o := o))
        have c1 := hmA.blk.cell 1
        simp at c1
        have x0 := HX.out.cell 0
        have x1 := HX.out.cell 1
        simp at x0 x1
        have hbl := hmA.blk.lt
        have hXA := HX.out.lt
        have hne : gX ≠ b := by have := HM.out.lt; have := HXl.out; omega
        have XC : Hid (∀ w4, (wA.drew.alloc (.cells #[.int .i64 (s : Int), .int .i64 (o : Int)] 45)).grownBy w4 (Value.slice la L.length lc).ownBlock → w4.cell? ⟨gX, 0, none⟩ = some (.int .i64 (s : Int))) := fun w4 hg => by
          have h1 : Blk (wA.drew.alloc (.cells #[.int .i64 (s : Int), .int .i64 (o : Int)] 45)) gX #[.int .i64 (s : Int), .int .i64 (bo : Int)] 45 := (HX.out.drew).old _
          have h2 := h1.grown hg (fun e => by have := (hm0.rl.lt gX e).2; have := HXl.out; omega)
          have := h2.cell 0
          simpa using this
        have HOW : Hid (wA.drew.ownsRow 0 45 2 (.slice la L.length lc) L.length (blkL L)) := hown
        go_wp2_with fail
        rw [← hwA, ← hgX]
        clear hwA hgX hmA hown hm0
        go_region_law (refine step_append_lies _ (by rfl) _ _ 39 (by rfl) 0 45 i0 _ 2 16 Try.underlying39 hi hz0 hz1 hz2 rfl (by decide) _ L.length (blkL L) (by rfl) (World.ownsRow.alloc HOW.out _) ⟨wA.heap.size, 0, none⟩ 1 1 (blkC (s, o)) (by rfl) (by rfl) (news_alloc wA.drew (blkC (s, o)) _) (blkC_one _) (by decide) (by unfold maxLen; omega) (by omega) (Nat.zero_le _) (wA.heap.size + 1) (by simp) ?_; intro g4 cap4 w4 hown4 hgrow4 hat4 _; obtain ⟨⟨x4, f4⟩, p4, p5⟩ := PUT.out w4 g4 cap4 hown4 hgrow4 hat4; have x5 := XC.out w4 hgrow4; have P4 := Lib.hid p4; have P5 := Lib.hid p5; clear p4 p5)
        all_goals
          go_wp2_with fail
          go_returns
          exact ⟨s, 0, _, rfl, HR.out.1, ⟨HR.out.2, _, _, P4.out⟩, (Chg.of_below HWA.out).trans P5.out⟩

/-! TakeAt. -/
inductive RTakeAtR (n : Nat) (op : Opn) (L : List Bk) (S O : Int) : Int → List Bk → Prop
  | arg (h : ¬ ∃ s o : Nat, S = s ∧ O = o ∧ o ≤ n ∧ s < 2 ^ n ∧ s % 2 ^ o = 0) : RTakeAtR n op L S O 2 L
  | full (s o : Nat) (hs : S = s) (ho : O = o) (h1 : o ≤ n) (h2 : s % 2 ^ o = 0) (h3 : s + 2 ^ o ≤ 2 ^ n) (h : ¬ allB op o s) : RTakeAtR n op L S O 5 L
  | ok (s o : Nat) (hs : S = s) (ho : O = o) (h1 : o ≤ n) (h2 : s % 2 ^ o = 0) (h3 : s + 2 ^ o ≤ 2 ^ n) (h : allB op o s) : RTakeAtR n op L S O 0 (L ++ [(s, o)])
def RTakeAtPost (b : Nat) (own : Nat → Prop) (n : Nat) (L : List Bk) (bad : List Bool) (S O : Int) (w : World) (e : Ending) (w' : World) : Prop :=
  ∃ er L', e = .returned (.int .i64 er) ∧ RTakeAtR n (fnL (openL n L bad)) L S O er L' ∧ RM w' b own n L' bad ∧ Chg own w w'
theorem pickB (P : Prop) : ∃ t : Bool, t = true ↔ P := by
  by_cases h : P
  · exact ⟨true, by simp [h]⟩
  · exact ⟨false, by simp [h]⟩
theorem pickB_no {P : Prop} {b : Bool} (h : b = true ↔ P) (hn : ¬ P) : b = false := by
  cases b
  · rfl
  · exact absurd (h.1 rfl) hn
set_option maxRecDepth 100000 in
set_option maxHeartbeats 4000000 in
theorem rTakeAt_any (b : Nat) (own : Nat → Prop) (n : Nat) (L : List Bk) (bad : List Bool) (S O : Int) (w : World) (hl : L.length ≤ 4000) (h : RM w b own n L bad) :
    Calls Try.prog 39 #[.pointer (some ⟨b, 0, none⟩), .agg #[.int .i64 S, .int .i64 O]] w fun e w' => RTakeAtPost b own n L bad S O w e w' := by
  obtain ⟨i0, hi, hz0, hz1, hz2⟩ := info_parts Try.infoBk
  have HM := Lib.hid h
  have hn := h.1.n10
  have hMl := pow_1024 hn
  obtain ⟨vL, vB, hm0⟩ := h.2
  have hbad := hm0.rb
  obtain ⟨ba, bc, rfl⟩ := own_slice hbad
  obtain ⟨M, hMd⟩ : ∃ M, M = bad.length := ⟨_, rfl⟩
  have hMn : M = 2 ^ n := by rw [hMd]; exact h.1.len
  have HMN := Lib.hid hMn
  obtain ⟨wA, hwA⟩ : ∃ wA, wA = w.alloc (.cells #[.int .i64 S, .int .i64 O] 45) := ⟨_, rfl⟩
  obtain ⟨gX, hgX⟩ : ∃ gX, gX = w.heap.size := ⟨_, rfl⟩
  have hbA : Below w.heap.size w wA := by rw [hwA]; exact (Below.refl _ _).alloc (Nat.le_refl _) _
  have HX : Hid (Blk wA gX #[.int .i64 S, .int .i64 O] 45) := by unfold Hid; rw [hwA, hgX]; exact Blk.new _ _ _
  have HWA := Lib.hid hbA
  have HMA := Lib.hid (HM.out.kept hbA)
  have hmA := hm0.kept hbA
  have HMP := Lib.hid hmA
  have HM0 := Lib.hid hm0
  have c0 := hmA.blk.cell 0
  have c2 := hmA.blk.cell 2
  simp at c0 c2
  rw [← hMd] at c2
  have x0 := HX.out.cell 0
  have x1 := HX.out.cell 1
  simp at x0 x1
  have C2 := Lib.hid c2
  have hM2 : M ≤ 1024 := by omega
  obtain ⟨t, ht⟩ := pickB (¬ ∃ s o : Nat, S = s ∧ O = o ∧ o ≤ n ∧ s < 2 ^ n ∧ s % 2 ^ o = 0)
  have HT := Lib.hid ht
  have HGX := Lib.hid hgX
  clear hbA hmA hm0 hbad hMd hMn ht h hMl
  go_enter Try.func39, Try.ntmps39
  go_upto_region 1 with fail
  rw [← hwA, ← hgX]
  clear hwA hgX
  go_cut [40] (fun sl wx => sl = .bool t ∧ Hid (Below wA.heap.size wA wx))
  case first =>
    clear HMP HM0 HMA
    by_cases o1 : O < 0
    · have d1 : decide (O < 0) = true := decide_eq_true o1
      have HTT : Hid (t = true) := HT.out.2 (by rintro ⟨s, o, h1, h2, h3, h4, h5⟩; omega)
      go_region
      go_wp2_with fail
      go_meet
      exact ⟨by rw [HTT.out], by first | exact below_drewN (Below.refl _ _) _ | exact (Below.refl _ _).drew⟩
    · have d1 : decide (O < 0) = false := decide_eq_false o1
      obtain ⟨o, rfl⟩ : ∃ o : Nat, O = o := ⟨O.toNat, by omega⟩
      by_cases o2 : n < o
      · have d2 : decide (n < o) = true := decide_eq_true o2
        have d2' : (n : Int) < (o : Int) := by omega
        have HTT : Hid (t = true) := HT.out.2 (by rintro ⟨s, o, h1, h2, h3, h4, h5⟩; omega)
        go_region
        go_wp2_with fail
        go_meet
        exact ⟨by rw [HTT.out], by first | exact below_drewN (Below.refl _ _) _ | exact (Below.refl _ _).drew⟩
      · have d2 : decide (n < o) = false := decide_eq_false o2
        have d2' : ¬ (n : Int) < (o : Int) := by omega
        by_cases s1 : S < 0
        · have d3 : decide (S < 0) = true := decide_eq_true s1
          have HTT : Hid (t = true) := HT.out.2 (by rintro ⟨s, o, h1, h2, h3, h4, h5⟩; omega)
          go_region
          go_wp2_with fail
          go_meet
          exact ⟨by rw [HTT.out], by first | exact below_drewN (Below.refl _ _) _ | exact (Below.refl _ _).drew⟩
        · have d3 : decide (S < 0) = false := decide_eq_false s1
          obtain ⟨s, rfl⟩ : ∃ s : Nat, S = s := ⟨S.toNat, by omega⟩
          by_cases s2 : M ≤ s
          · have d4 : decide (M ≤ s) = true := decide_eq_true s2
            have d4' : (M : Int) ≤ (s : Int) := by omega
            have HTT : Hid (t = true) := HT.out.2 (by rintro ⟨s', o, h1, h2, h3, h4, h5⟩; have := HMN.out; omega)
            go_region
            go_wp2_with fail
            go_meet
            exact ⟨by rw [HTT.out], by first | exact below_drewN (Below.refl _ _) _ | exact (Below.refl _ _).drew⟩
          · have d4 : decide (M ≤ s) = false := decide_eq_false s2
            have d4' : ¬ (M : Int) ≤ (s : Int) := by omega
            have SZ : Hid (∀ w, Calls Try.prog 37 #[.int .i64 (o : Int)] w fun e w' => e = .returned (.int .i64 ((2 ^ o : Nat) : Int)) ∧ w' = w) := fun w => rSize_any o (by omega) w
            have hP0 := two_pos o
            have hmm : t = true ↔ ¬ s % 2 ^ o = 0 := by
              rw [HT.out]
              constructor
              · exact fun h hz => h ⟨s, o, rfl, rfl, by omega, by have := HMN.out; omega, hz⟩
              · rintro h ⟨s', o', h1, h2, h3, h4, h5⟩
                obtain rfl : s = s' := by omega
                obtain rfl : o = o' := by omega
                exact h h5
            obtain ⟨P, hP⟩ : ∃ P, P = 2 ^ o := ⟨_, rfl⟩
            rw [← hP] at SZ hmm hP0
            have hPn : ¬ (P : Int) = 0 := by omega
            clear hP
            by_cases hz : s % P = 0
            · have hzz1 : (s : Int) % (P : Int) = 0 := by
                have : ((s % P : Nat) : Int) = 0 := by rw [hz]; rfl
                simpa using this
              have HTT : Hid (t = false) := pickB_no hmm (fun h => h hz)
              clear hmm hz
              go_quiet (first | (go_at_call 37; exact Calls.quiet_of_same (SZ.out _)))
              go_wp2_with fail
              go_meet
              exact ⟨by rw [HTT.out], below_drewN (Below.refl _ _) _⟩
            · have HTT : Hid (t = true) := hmm.2 hz
              obtain ⟨R, hR⟩ : ∃ R : Nat, R = s % P := ⟨_, rfl⟩
              have hzz1 : (s : Int) % (P : Int) = (R : Int) := by rw [hR]; simp
              have hzz2 : ¬ (R : Int) = 0 := by omega
              have hzz3 : ((R : Int) != 0) = true := bne_iff_ne.2 hzz2
              clear hmm hz hR
              go_quiet (first | (go_at_call 37; exact Calls.quiet_of_same (SZ.out _)))
              go_wp2_with fail
              go_meet
              exact ⟨by rw [HTT.out], below_drewN (Below.refl _ _) _⟩
  case rest =>
    obtain ⟨rfl, HBx⟩ := hcut
    obtain ⟨wX, hwX⟩ : ∃ wX, wX = wc := ⟨_, rfl⟩
    subst hwX
    have HMX := Lib.hid (HMA.out.kept HBx.out)
    have HWX := Lib.hid (HWA.out.trans (HBx.out.mono HWA.out.size))
    cases t with
    | true =>
      have HR : Hid (RTakeAtR n (fnL (openL n L bad)) L S O 2 L) := .arg (HT.out.1 rfl)
      go_wp2_with fail
      go_returns
      exact ⟨2, L, rfl, HR.out, HMX.out, Chg.of_below HWX.out⟩
    | false =>
      have hex : ∃ s o : Nat, S = s ∧ O = o ∧ o ≤ n ∧ s < 2 ^ n ∧ s % 2 ^ o = 0 := Classical.byContradiction fun h => by
        have := HT.out.2 h; cases this
      obtain ⟨s, o, hS, hO, ho, hs, hsm⟩ := hex
      subst hS
      subst hO
      have hfit : s + 2 ^ o ≤ 2 ^ n := fits_in ho hs hsm
      have OP : Hid (∀ w', Below wX.heap.size wX w' → Calls Try.prog 47 #[.pointer (some ⟨b, 0, none⟩)] w' fun e w'' => OpenPost n L bad w' e w'') := fun w' hb => open_any b n L bad w' HM.out.1 ((HMX.out.kept hb).rr)
      have SZ : Hid (∀ w, Calls Try.prog 37 #[.int .i64 (o : Int)] w fun e w' => e = .returned (.int .i64 ((2 ^ o : Nat) : Int)) ∧ w' = w) := fun w => rSize_any o (by omega) w
      have AL : Hid (∀ v w', BoRow w' v (openL n L bad) → Calls Try.prog 48 #[v, .int .i64 (s : Int), .int .i64 ((2 ^ o : Nat) : Int)] w' fun e w'' => AllPost (openL n L bad) s (2 ^ o) w' e w'') := fun v w' h => all_any v _ s _ w' h (by rw [openL_len]; exact hfit) (by rw [openL_len]; have := HMN.out; omega)
      have HFIT := Lib.hid hfit
      have HSM := Lib.hid hsm
      have hol := openL_len n L bad
      have HOLN : Hid (0 < (openL n L bad).length) := by unfold Hid; rw [hol]; exact two_pos n
      obtain ⟨rb, hrb⟩ := pickB (allB (fnL (openL n L bad)) o s)
      have HRB := Lib.hid hrb
      have hrb2 : ∀ r : Bool, (r = true ↔ ∀ x, s ≤ x → x < s + 2 ^ o → (openL n L bad).getD x false = true) → r = rb := fun r hr => by
        rw [Bool.eq_iff_iff, hr, hrb]
        unfold allB inB
        exact ⟨fun h x hx => h x hx.1 hx.2, fun h x h1 h2 => h x ⟨h1, h2⟩⟩
      have HRB2 := Lib.hid hrb2
      obtain ⟨P, hP⟩ : ∃ P, P = 2 ^ o := ⟨_, rfl⟩
      rw [← hP] at SZ AL HRB2
      have HP := Lib.hid hP
      unfold OpenPost at OP
      obtain ⟨OL, hOL⟩ : ∃ OL, OL = openL n L bad := ⟨_, rfl⟩
      rw [← hOL] at OP AL HOLN HRB HRB2 hol hrb hrb2
      have HOLD : Hid (openL n L bad = OL) := hOL.symm
      clear hOL
      have HXX := Lib.hid (HX.out.kept HBx.out)
      have y0 := HXX.out.cell 0
      have y1 := HXX.out.cell 1
      simp at y0 y1
      have hXX := HXX.out.lt
      have OPS : Hid (∀ w', (w'.cell? ⟨gX, 0, none⟩ = some (.int .i64 (s : Int)) ∧ w'.cell? ⟨gX, 1, none⟩ = some (.int .i64 (o : Int)) ∧ Below wX.heap.size wX w') → Calls Try.prog 47 #[.pointer (some ⟨b, 0, none⟩)] w' fun e w'' => ∃ v, e = .returned v ∧ BoRow w'' v OL ∧
          (w''.cell? ⟨gX, 0, none⟩ = some (.int .i64 (s : Int)) ∧ w''.cell? ⟨gX, 1, none⟩ = some (.int .i64 (o : Int)) ∧ Below wX.heap.size wX w'')) := fun w' hs => (OP.out w' hs.2.2).mono fun e w'' ⟨v, h1, h2, h3⟩ => ⟨v, h1, borow_of_own h2 HOLN.out, cell_next h3 hs.1, cell_next h3 hs.2.1, below_next h3 hs.2.2⟩
      clear x0 x1 c0 c2 hfit hsm hol hrb hrb2 hP
      go_upto_region 3 with fail
      go_cut [49] (fun sl wx => sl = .bool (!rb) ∧ Hid (Below wX.heap.size wX wx))
      case first =>
        go_region_held3 (fun w' => w'.cell? ⟨gX, 0, none⟩ = some (.int .i64 (s : Int)) ∧ w'.cell? ⟨gX, 1, none⟩ = some (.int .i64 (o : Int)) ∧ Below wX.heap.size wX w')
          (first
            | assumption
            | exact ⟨y0, y1, Below.refl _ _⟩
            | exact ⟨y0, y1, (Below.refl _ _).drew⟩
            | (rcases ‹_ ∧ _ ∧ Below wX.heap.size _ _› with ⟨s0, s1, s3⟩; exact ⟨s0, s1, s3.drew⟩))
          (first
            | (go_at_call 47; ((with_reducible refine (OPS.out _ (by assumption)).mono ?_); rintro e wo ⟨vo, rfl, ho, hSo⟩))
            | (go_at_call 37; ((with_reducible refine (SZ.out _).mono ?_); rintro e wz ⟨rfl, hw⟩; replace hw := hw.symm; subst hw))
            | (go_at_call 48; ((refine (AL.out _ _ (by assumption)).mono ?_); rintro e wl ⟨r, rfl, hr, hw⟩; replace hw := hw.symm; subst hw; have HRR := Lib.hid (HRB2.out r hr); clear hr)))
        all_goals
          go_wp2_with fail
          go_meet
          exact ⟨by rw [HRR.out], (‹_ ∧ _ ∧ Below wX.heap.size wX _›).2.2⟩
      case rest =>
        obtain ⟨rfl, HBy⟩ := hcut
        have HMY := Lib.hid (HMX.out.kept HBy.out)
        have HWY := Lib.hid (HWX.out.trans (HBy.out.mono HWX.out.size))
        have HSMP := HSM.out
        cases rb with
        | false =>
          have HR : Hid (RTakeAtR n (fnL OL) L (s : Int) (o : Int) 5 L) := .full s o rfl rfl ho HSM.out HFIT.out (fun h => by have := HRB.out.2 h; cases this)
          clear HSMP
          go_wp2_with fail
          go_returns
          exact ⟨5, L, rfl, by rw [HOLD.out]; exact HR.out, HMY.out, Chg.of_below HWY.out⟩
        | true =>
          have HR : Hid (RTakeAtR n (fnL OL) L (s : Int) (o : Int) 0 (L ++ [(s, o)])) := .ok s o rfl rfl ho HSM.out HFIT.out (HRB.out.1 rfl)
          have HROK : Hid (ROk n (L ++ [(s, o)]) bad) := by
            refine ⟨hn, HM.out.1.len, by rw [List.length_append]; simp; omega, fun b hb => ?_⟩
            rcases List.mem_append.1 hb with h1 | h1
            · exact HM.out.1.bk b h1
            · rw [List.mem_singleton.1 h1]; exact ⟨ho, HFIT.out⟩
          obtain ⟨wY, hwY⟩ : ∃ wY, wY = wc := ⟨_, rfl⟩
          subst hwY
          have hmY := HM0.out.kept HWY.out
          have hown := hmY.rl
          obtain ⟨la, lc, rfl⟩ := own_slice hown
          have PUT := Lib.hid (hmY.app (s := s) (o := o))
          have c1 := hmY.blk.cell 1
          simp at c1
          have HYX := Lib.hid (HXX.out.kept HBy.out)
          have z0 := HYX.out.cell 0
          have z1 := HYX.out.cell 1
          simp at z0 z1
          have hbl := hmY.blk.lt
          have hXA := HYX.out.lt
          have HOW : Hid (wY.drew.ownsRow 0 45 2 (.slice la L.length lc) L.length (blkL L)) := hown
          clear hmY hown HSMP y0 y1
          go_wp2_with fail
          go_region_law (refine step_append_lies _ (by rfl) _ _ 39 (by rfl) 0 45 i0 _ 2 16 Try.underlying39 hi hz0 hz1 hz2 rfl (by decide) _ L.length (blkL L) (by rfl) (World.ownsRow.alloc HOW.out _) ⟨wY.heap.size, 0, none⟩ 1 1 (blkC (s, o)) (by rfl) (by rfl) (news_alloc wY.drew (blkC (s, o)) _) (blkC_one _) (by decide) (by unfold maxLen; omega) (by omega) (Nat.zero_le _) (wY.heap.size + 1) (by simp) ?_; intro g4 cap4 w4 hown4 hgrow4 hat4 _; obtain ⟨⟨x4, f4⟩, p4, p5⟩ := PUT.out w4 g4 cap4 hown4 hgrow4 hat4; have P4 := Lib.hid p4; have P5 := Lib.hid p5; clear p4 p5)
          all_goals
            go_wp2_with fail
            go_returns
            exact ⟨0, _, rfl, by rw [HOLD.out]; exact HR.out, ⟨HROK.out, _, _, P4.out⟩, (Chg.of_below HWY.out).trans P5.out⟩
end

section
open Go Go.RowKit Go.Lib
/-! Mark. -/
inductive RMarkR (bad : List Bool) (q : Int) (v : Bool) : Int → List Bool → Prop
  | arg (h : ¬ (0 ≤ q ∧ q < (bad.length : Int))) : RMarkR bad q v 2 bad
  | same (x : Nat) (hq : q = x) (hx : x < bad.length) (h : bad.getD x false = v) (er : Int) (he : er = if v then 30 else 4) : RMarkR bad q v er bad
  | ok (x : Nat) (hq : q = x) (hx : x < bad.length) (h : bad.getD x false = !v) : RMarkR bad q v 0 (bad.set x v)
def RMarkPost (b : Nat) (own : Nat → Prop) (n : Nat) (L : List Bk) (bad : List Bool) (q : Int) (v : Bool) (w : World) (e : Ending) (w' : World) : Prop :=
  ∃ er bad', e = .returned (.int .i64 er) ∧ RMarkR bad q v er bad' ∧ RM w' b own n L bad' ∧ Chg own w w'
theorem RMp.mark {w : World} {b n x g c : Nat} {own : Nat → Prop} {L : List Bk} {bad : List Bool} {vL : Value} {v : Bool} (h : RMp w b own n L bad vL (.slice (some ⟨g, 0, none⟩) bad.length c)) :
    RMp (w.setCell ⟨g, x, none⟩ (.bool v)) b own n L (bad.set x v) vL (.slice (some ⟨g, 0, none⟩) bad.length c) ∧ Chg own w (w.setCell ⟨g, x, none⟩ (.bool v)) := by
  have hg := h.ob g rfl
  refine ⟨⟨h.blk.other (a := ⟨g, x, none⟩) (fun e => hg.2 e.symm) _, h.bown, fun k hk => h.new k (by simpa using hk), ownsRow_setCell_other h.rl (fun e => h.ap g e rfl) _, ?_, h.ol, h.ob, h.ap⟩, Chg.setCell x _ hg.1⟩
  show World.ownsRow _ 0 _ 1 _ (bad.set x v).length _
  rw [List.length_set, ← boolL_set]
  exact (h.rb.stored x (.bool v)).1
set_option maxHeartbeats 2000000 in
theorem rMark_any (b : Nat) (own : Nat → Prop) (n : Nat) (L : List Bk) (bad : List Bool) (q : Int) (v : Bool) (w : World) (h : RM w b own n L bad) :
    Calls Try.prog 41 #[.pointer (some ⟨b, 0, none⟩), .int .i64 q, .bool v] w fun e w' => RMarkPost b own n L bad q v w e w' := by
  have HM := Lib.hid h
  have hpos := h.1.pos
  obtain ⟨vL, vB, hm⟩ := h.2
  have hbad := hm.rb
  obtain ⟨ba, bc, rfl⟩ := own_slice hbad
  obtain ⟨g, hg, _, hgl⟩ := bo_addr hbad hpos
  subst hg
  have c2 := hm.blk.cell 2
  simp at c2
  have hMl : bad.length ≤ 1024 := by rw [h.1.len]; exact pow_1024 h.1.n10
  have HMP := Lib.hid hm
  have HBA := Lib.hid hbad
  obtain ⟨M, hMd⟩ : ∃ M, M = bad.length := ⟨_, rfl⟩
  rw [← hMd] at c2 hMl
  have HMD := Lib.hid hMd
  clear hm hbad h hMd
  by_cases h1 : q < 0
  · have d1 : decide (q < 0) = true := decide_eq_true h1
    have HR := Lib.hid (RMarkR.arg (bad := bad) (q := q) (v := v) (by omega))
    clear h1
    go_enter Try.func41, Try.ntmps41
    go_wp2_with fail
    go_returns
    exact ⟨2, bad, rfl, HR.out, HM.out, Chg.refl _ _⟩
  · have d1 : decide (q < 0) = false := decide_eq_false h1
    obtain ⟨x, rfl⟩ : ∃ x : Nat, q = x := ⟨q.toNat, by omega⟩
    by_cases h2 : M ≤ x
    · have d2 : decide (M ≤ x) = true := decide_eq_true h2
      have d3 : (M : Int) ≤ (x : Int) := by omega
      have HR := Lib.hid (RMarkR.arg (bad := bad) (q := (x : Int)) (v := v) (by have := HMD.out; omega))
      clear h1 h2
      go_enter Try.func41, Try.ntmps41
      go_wp2_with fail
      go_returns
      exact ⟨2, bad, rfl, HR.out, HM.out, Chg.refl _ _⟩
    · have d2 : decide (M ≤ x) = false := decide_eq_false h2
      have d3 : ¬ (M : Int) ≤ (x : Int) := by omega
      have hxi : (x : Int) < (M : Int) := by omega
      have hxl : x < bad.length := by have := HMD.out; omega
      have c0 := bo_cells HBA.out hxl
      have f0 := bo_free HBA.out x
      have hxM : x < M := by omega
      obtain ⟨u, hu⟩ : ∃ u, u = bad.getD x false := ⟨_, rfl⟩
      rw [← hu] at c0
      have HU := Lib.hid hu
      have PUT := Lib.hid (HMP.out.mark (x := x) (v := v))
      have HROK : Hid (ROk n L (bad.set x v)) := ⟨HM.out.1.n10, by rw [List.length_set]; exact HM.out.1.len, HM.out.1.few, HM.out.1.bk⟩
      have HS4 : Hid (u = v → v = false → RMarkR bad (x : Int) v 4 bad) := fun e e2 => .same x rfl hxl (by rw [← HU.out]; exact e) _ (by rw [e2]; rfl)
      have HS30 : Hid (u = v → v = true → RMarkR bad (x : Int) v 30 bad) := fun e e2 => .same x rfl hxl (by rw [← HU.out]; exact e) _ (by rw [e2]; rfl)
      have HO : Hid (u = (!v) → RMarkR bad (x : Int) v 0 (bad.set x v)) := fun e => .ok x rfl hxl (by rw [← HU.out]; exact e)
      clear h1 h2 hu hxl hpos
      cases v <;> cases u <;>
      · go_enter Try.func41, Try.ntmps41
        go_wp2_with fail
        go_returns
        first
          | exact ⟨4, bad, rfl, (by first | exact HS4.out rfl rfl | exact HS4.out trivial trivial | exact HS4.out), HM.out, Chg.refl _ _⟩
          | exact ⟨30, bad, rfl, (by first | exact HS30.out rfl rfl | exact HS30.out trivial trivial | exact HS30.out), HM.out, Chg.refl _ _⟩
          | exact ⟨0, _, rfl, (by first | exact HO.out rfl | exact HO.out trivial | exact HO.out), ⟨HROK.out, _, _, PUT.out.1⟩, PUT.out.2⟩

/-! Give, at a yard that is owned. -/
inductive RGiveR (L : List Bk) (q : Int) : Int → List Bk → Prop
  | none (h : ∀ b ∈ L, (b.1 : Int) ≠ q) : RGiveR L q 4 L
  | ok (h : ∃ b ∈ L, (b.1 : Int) = q) : RGiveR L q 0 (giveL L q)
def RGivePost2 (b : Nat) (own : Nat → Prop) (n : Nat) (L : List Bk) (bad : List Bool) (q : Int) (w : World) (e : Ending) (w' : World) : Prop :=
  ∃ er L', e = .returned (.int .i64 er) ∧ RGiveR L q er L' ∧ RM w' b own n L' bad ∧ Chg own w w'
theorem giveL_same {L : List Bk} {q : Int} (h : (giveL L q).length = L.length) : ∀ b ∈ L, (b.1 : Int) ≠ q := by
  unfold giveL at h
  have := List.length_filter_eq_length_iff.1 h
  exact fun b hb => of_decide_eq_true (this b hb)
theorem giveL_less {L : List Bk} {q : Int} (h : (giveL L q).length ≠ L.length) : ∃ b ∈ L, (b.1 : Int) = q := by
  apply Classical.byContradiction
  intro hn
  refine h ?_
  unfold giveL
  refine List.length_filter_eq_length_iff.2 fun b hb => decide_eq_true fun e => hn ⟨b, hb, e⟩
theorem rok_give {n : Nat} {L : List Bk} {bad : List Bool} (q : Int) (h : ROk n L bad) : ROk n (giveL L q) bad :=
  ⟨h.n10, h.len, Nat.le_trans (giveL_len L q) h.few, fun b hb => h.bk b (List.mem_filter.1 hb).1⟩
theorem rGive_own (b : Nat) (own : Nat → Prop) (n : Nat) (L : List Bk) (bad : List Bool) (q : Int) (w : World) (h : RM w b own n L bad) :
    Calls Try.prog 40 #[.pointer (some ⟨b, 0, none⟩), .int .i64 q] w fun e w' => RGivePost2 b own n L bad q w e w' := by
  obtain ⟨vL, vB, hm⟩ := h.2
  refine (rGive_any b n L q vL vB w h.1.few hm.blk (brow_of_own hm.rl)).mono ?_
  rintro e w' (⟨h1, rfl, h2⟩ | ⟨W, v', h1, rfl, h2, h3, rfl⟩)
  · exact ⟨4, L, rfl, .none (giveL_same h1), h.kept h2, Chg.of_below h2⟩
  · obtain ⟨p1, p2, p3⟩ := hm.put (Chg.of_below h2) (h3.mono (Nat.zero_le _)) (fun k hk => .inr (h3.lt k hk).1)
    exact ⟨0, _, rfl, .ok (giveL_less h1), ⟨rok_give q h.1, _, _, p2⟩, p3⟩

/-! Would. -/
def RWouldPost (n : Nat) (L : List Bk) (bad : List Bool) (gs : List Int) (q : Int) (w : World) (e : Ending) (w' : World) : Prop :=
  ∃ r : Bool, e = .returned (.bool r) ∧ (r = true ↔ fitsB n (fnL (openL n (gs.foldl giveL L) bad)) q) ∧ Below w.heap.size w w'
theorem rok_fold {n : Nat} {bad : List Bool} : ∀ (gs : List Int) {L : List Bk}, ROk n L bad → ROk n (gs.foldl giveL L) bad
  | [], _, h => h
  | g :: r, _, h => rok_fold r (rok_give g h)
theorem borow_set {w : World} {v : Value} {bad : List Bool} {g o B : Nat} (h : BoRow w v bad) (u : Value) (hv : ∀ k, v.ownBlock = some k → k < B) (hg : B ≤ g) : BoRow (w.setCell ⟨g, o, none⟩ u) v bad := by
  obtain ⟨q, c, rfl, h1, h2⟩ := h
  have hq := hv q rfl
  refine ⟨q, c, rfl, h1, fun x hx => ?_⟩
  have := h2 x hx
  rw [← this]
  exact World.cell?_of_block (Below.heap_setCell w ⟨g, o, none⟩ u q (by show q ≠ g; omega))
set_option maxHeartbeats 4000000 in
theorem rWould_any (b n : Nat) (L : List Bk) (bad : List Bool) (q : Int) (gv : Value) (gs : List Int) (w : World) (hlen : gs.length ≤ 1048576) (hg : GRow w gv gs) (hk : ROk n L bad) (h : RR w b n L bad) :
    Calls Try.prog 30 #[.pointer (some ⟨b, 0, none⟩), .int .i64 q, gv] w fun e w' => RWouldPost n L bad gs q w e w' := by
  obtain ⟨vL, vB, k0, k1, k2, hL, hB⟩ := h
  obtain ⟨ga, gc, rfl⟩ := hg.slice
  have hBv : ∀ k, vB.ownBlock = some k → k < w.heap.size := fun k hk' => by
    obtain ⟨g, c, rfl, h1, h2⟩ := hB
    have e : k = g := by injection hk' with e; exact e.symm
    rw [e]; exact World.block_lt_of_cell? w _ (h2 0 h1)
  have hbl : b < w.heap.size := World.block_lt_of_cell? w _ k0
  obtain ⟨la, lc, rfl⟩ := hL.slice
  obtain ⟨ba, bn, bc, rfl⟩ : ∃ a n c, vB = .slice a n c := by
    obtain ⟨g, c, e, _⟩ := hB; exact ⟨_, _, _, e⟩
  obtain ⟨vL, hvL⟩ : ∃ v, v = Value.slice la L.length lc := ⟨_, rfl⟩
  obtain ⟨vB, hvB⟩ : ∃ v, v = Value.slice ba bn bc := ⟨_, rfl⟩
  have HG := Lib.hid hg
  rw [← hvL] at hL
  rw [← hvB] at hB hBv
  have HVL := Lib.hid hvL
  have HVB := Lib.hid hvB
  clear hvL hvB
  have HL := Lib.hid hL
  have HB := Lib.hid hB
  have HBV := Lib.hid hBv
  have HK := Lib.hid hk
  clear hg hL hB hBv hk
  go_enter Try.func30, Try.ntmps30
  go_upto_region 1 with fail
  go_cut [7] (fun p wx => ∃ gz : Nat, p = .pointer (some ⟨gz, 0, none⟩) ∧ Hid (Blk wx gz #[.int .i64 (n : Int), vL, vB] 69) ∧ Hid (w.heap.size ≤ gz) ∧ Hid (Below w.heap.size w wx))
  case first =>
    go_region
    go_wp2_with fail
    go_meet
    exact ⟨_, rfl, by rw [HVL.out, HVB.out]; exact Blk.new _ _ _, Nat.le_refl _, ((Below.refl _ _).drew).alloc (Nat.le_refl _) _⟩
  case rest =>
    obtain ⟨gz, rfl, HZ, HGZ, HBx⟩ := hcut
    have HL0 : Hid (BRow wc vL ((gs.take 0).foldl giveL L)) := HL.out.kept HBx.out
    have HB0 := Lib.hid (HB.out.kept HBx.out)
    clear k0 k1 k2
    go_wp2_with fail
    go_loopw [8] (fun i wr => ∃ (k : Nat) (vK : Value), k ≤ gs.length ∧ i = .int .i64 k ∧ Hid (Blk wr gz #[.int .i64 (n : Int), vK, vB] 69) ∧ Hid (BRow wr vK ((gs.take k).foldl giveL L)) ∧ Hid (BoRow wr vB bad) ∧ Hid (Below w.heap.size w wr)) (fun i _ => gs.length - (RowKit.intOf i).toNat)
    case atStart => exact ⟨0, vL, Nat.zero_le _, rfl, HZ, HL0, HB0, HBx⟩
    case round =>
      obtain ⟨k, vK, hk, rfl, HZk, HLk, HBk, HBe⟩ := hrel
      by_cases hlt : k < gs.length
      · have hlt' : decide (k < gs.length) = true := decide_eq_true hlt
        have hlti : (k : Int) < (gs.length : Int) := by omega
        rcases HG.out with ⟨h0, _⟩ | ⟨bb, off, c, hv, hc⟩
        · rw [h0] at hlt; simp at hlt
        · have hga : ga = some ⟨bb, off, none⟩ := by injection hv
          subst hga
          have c0 := cell_next HBe.out (hc k hlt)
          obtain ⟨x, hx⟩ : ∃ x, x = gs.getD k 0 := ⟨_, rfl⟩
          rw [← hx] at c0
          have hfs : (gs.take (k + 1)).foldl giveL L = giveL ((gs.take k).foldl giveL L) x := by
            rw [foldl_take_succ _ _ _ _ hlt, hx, List.getD_eq_getElem?_getD, List.getElem?_eq_getElem hlt]; rfl
          have HFS := Lib.hid hfs
          have hrk := rok_fold (gs.take k) HK.out
          generalize (gs.take k).foldl giveL L = Lk at *
          have GV := Lib.hid (rGive_any gz n Lk x vK vB wr hrk.few HZk.out HLk.out)
          clear hc hv hx hfs
          go_wp2_with fail
          refine GV.out.mono ?_
          rintro e w4 (⟨h1, rfl, h2⟩ | ⟨W, v', h1, rfl, h2, h3, hw4⟩)
          · have hsame : giveL Lk x = Lk := List.filter_eq_self.2 fun b' hb' => decide_eq_true (giveL_same h1 b' hb')
            have HSAME := Lib.hid hsame
            have HZ4 := Lib.hid (HZk.out.kept h2)
            have HL4 := Lib.hid (HLk.out.kept h2)
            have HB4 := Lib.hid (HBk.out.kept h2)
            have HBe4 := Lib.hid (HBe.out.trans (h2.mono HBe.out.size))
            clear hsame h1 h2 GV
            go_wp2_with fail
            go_roundw
            case rel => exact ⟨k + 1, vK, hlt, by go_num, HZ4, by rw [HFS.out, HSAME.out]; exact HL4, HB4, HBe4⟩
            case measure => simp [RowKit.intOf]; omega
          · have hzl := HZk.out.lt
            have HZ4 : Hid (Blk w4 gz #[.int .i64 (n : Int), v', vB] 69) := by
              have := (HZk.out.kept h2).set 1 v'
              rw [hw4]; exact this
            have HL4 : Hid (BRow w4 v' (giveL Lk x)) := by
              have := brow_of_own (ownsRow_setCell_other (a := ⟨gz, 1, none⟩) h3 (fun e => by have := (h3.lt gz e).1; omega) v')
              rw [hw4]; exact this
            have HB4 : Hid (BoRow w4 vB bad) := by rw [hw4]; exact borow_set (HBk.out.kept h2) v' HBV.out HGZ.out
            have HBe4 : Hid (Below w.heap.size w w4) := by rw [hw4]; exact (HBe.out.trans (h2.mono HBe.out.size)).setCell (by exact HGZ.out) _
            clear h1 h2 h3 hw4 GV
            go_wp2_with fail
            go_roundw
            case rel => exact ⟨k + 1, v', hlt, by go_num, HZ4, by rw [HFS.out]; exact HL4, HB4, HBe4⟩
            case measure => simp [RowKit.intOf]; omega
      · have hlt' : decide (k < gs.length) = false := decide_eq_false hlt
        have hlti : ¬ (k : Int) < (gs.length : Int) := by omega
        have htk : gs.take k = gs := List.take_of_length_le (by omega)
        rw [htk] at HLk
        have FT := Lib.hid (rFits_any gz n _ bad q wr (rok_fold gs HK.out) ⟨vK, vB, HZk.out.cell 0, HZk.out.cell 1, HZk.out.cell 2, HLk.out, HBk.out⟩)
        clear htk hlt hk
        go_wp2_with fail
        refine FT.out.mono ?_; rintro e w5 ⟨r, rfl, hr, b5⟩
        have HR := Lib.hid hr
        have HB5 := Lib.hid (HBe.out.trans (b5.mono HBe.out.size))
        clear hr b5 FT
        go_wp2_with fail
        go_ret
        exact ⟨r, rfl, HR.out, HB5.out⟩
end

section
open Go Go.RowKit Go.Lib
structure SimP (n : Nat) (tk : List Bk) (fl : List Nat) (L : List Bk) (bad : List Bool) : Prop where
  sim : Sim n tk fl L bad
  pm : L.Perm tk
theorem SimP.zero (n : Nat) : SimP n [] [] [] (List.replicate (2 ^ n) false) := ⟨Sim.zero n, .nil⟩
theorem insT_perm (tk : List Bk) (b : Bk) : (insT tk b).Perm (b :: tk) := by
  unfold insT
  refine List.perm_middle.trans ?_
  rw [List.takeWhile_append_dropWhile]
theorem SimP.take {n : Nat} {tk L : List Bk} {fl : List Nat} {bad : List Bool} (h : SimP n tk fl L bad) (b : Bk) (hb : ∀ a ∈ tk, a.1 ≠ b.1) : SimP n (insT tk b) fl (L ++ [b]) bad :=
  ⟨h.sim.take b hb, (List.perm_append_singleton b L).trans ((h.pm.cons b).trans (insT_perm tk b).symm)⟩
theorem not_taken {n o s : Nat} {tk : List Bk} {fl : List Nat} (h : allB (opn n tk fl) o s) : ∀ a ∈ tk, a.1 ≠ s := fun a ha e => by
  have h1 := (opn_iff.1 (h s (inB_self o s))).2.1
  rw [heldB_iff.2 ⟨a, ha, by rw [← e]; exact inB_self _ _⟩] at h1
  cases h1
theorem SimP.len {n : Nat} {tk L : List Bk} {fl : List Nat} {bad : List Bool} (h : SimP n tk fl L bad) (hY : OkY n tk fl) : L.length ≤ 1024 := by
  rw [h.pm.length_eq]; exact hY.tlen

theorem sim_take {n : Nat} {tk tk' L L' : List Bk} {fl : List Nat} {bad : List Bool} {q r er r2 er2 : Int} (h : SimP n tk fl L bad) (h1 : TakeR n tk fl q r er tk') (h2 : RTakeR (freeL n (opn n tk fl)) n L q r2 er2 L') : r = r2 ∧ er = er2 ∧ SimP n tk' fl L' bad := by
  cases h1 with
  | arg ha =>
    cases h2 with
    | arg hb => exact ⟨rfl, rfl, h⟩
    | full h0 h1 hb => exact absurd ⟨h0, h1⟩ ha
    | ok h0 h1 m hm hb => exact absurd ⟨h0, h1⟩ ha
  | full o hq ho hf =>
    cases h2 with
    | arg hb => exact absurd ⟨by omega, by omega⟩ hb
    | full h0 h1 hb => exact ⟨rfl, rfl, h⟩
    | ok h0 h1 m hm hb =>
      have e : q.toNat = o := by omega
      rw [e] at hb
      have := hb.none_of hf
      omega
  | ok o k s rr hq hok hk hj hs =>
    have hF : isF n (opn n tk fl) k s := frL_mem.1 (by rw [hs]; simp)
    cases h2 with
    | arg hb => exact absurd ⟨by omega, by omega⟩ hb
    | full h0 h1 hb =>
      have e : q.toNat = o := by omega
      rw [e] at hb
      have := hb.full k hok hk
      rw [hs] at this; cases this
    | ok h0 h1 m hm hb =>
      have e : q.toNat = o := by omega
      rw [e] at hb ⊢
      obtain ⟨m', hm', e2, e3⟩ := hb.ok hok hj hs
      obtain rfl : m = m' := by omega
      rw [e3]
      exact ⟨rfl, rfl, h.take (s, o) (not_taken hF.2.2.2.1)⟩
theorem sim_takeAt {n : Nat} {tk tk' L L' : List Bk} {fl : List Nat} {bad : List Bool} {S O er er2 : Int} (h : SimP n tk fl L bad) (h1 : TakeAtR n tk fl S O er tk') (h2 : RTakeAtR n (opn n tk fl) L S O er2 L') : er = er2 ∧ SimP n tk' fl L' bad := by
  cases h1 with
  | arg ha =>
    cases h2 with
    | arg hb => exact ⟨rfl, h⟩
    | full s o hs ho h1 h2 h3 hb => exact absurd ⟨s, o, hs, ho, h1, by have := two_pos o; omega, h2⟩ ha
    | ok s o hs ho h1 h2 h3 hb => exact absurd ⟨s, o, hs, ho, h1, by have := two_pos o; omega, h2⟩ ha
  | full s o hs ho h1 h2' h3 ha =>
    cases h2 with
    | arg hb => exact absurd ⟨s, o, hs, ho, h1, by have := two_pos o; omega, h2'⟩ hb
    | full s' o' hs' ho' h1' h2 h3' hb => exact ⟨rfl, h⟩
    | ok s' o' hs' ho' h1' h2 h3' hb =>
      obtain rfl : s = s' := by omega
      obtain rfl : o = o' := by omega
      exact absurd hb ha
  | ok s o hs ho h1 h2' h3 ha =>
    cases h2 with
    | arg hb => exact absurd ⟨s, o, hs, ho, h1, by have := two_pos o; omega, h2'⟩ hb
    | full s' o' hs' ho' h1' h2 h3' hb =>
      obtain rfl : s = s' := by omega
      obtain rfl : o = o' := by omega
      exact absurd ha hb
    | ok s' o' hs' ho' h1' h2 h3' hb =>
      obtain rfl : s = s' := by omega
      obtain rfl : o = o' := by omega
      exact ⟨rfl, h.take (s, o) (not_taken ha)⟩
theorem SimP.giveT {n : Nat} {tk L : List Bk} {fl : List Nat} {bad : List Bool} (q : Int) (h : SimP n tk fl L bad) : SimP n (giveT tk q) fl (giveL L q) bad := by
  refine ⟨⟨h.sim.len, fun a => ?_, h.sim.badm, h.sim.nd.sublist List.filter_sublist⟩, h.pm.filter _⟩
  unfold Go.Proofs.Ytcdlfhheolbhaaa.giveT giveL
  rw [List.mem_filter, List.mem_filter, h.sim.mem]
theorem sim_give {n : Nat} {tk tk' L L' : List Bk} {fl : List Nat} {bad : List Bool} {q er er2 : Int} (h : SimP n tk fl L bad) (h1 : GiveR tk q er tk') (h2 : RGiveR L q er2 L') : er = er2 ∧ SimP n tk' fl L' bad := by
  cases h2 with
  | none hb =>
    cases h1 with
    | none ha => exact ⟨rfl, h⟩
    | ok b hm hq => exact absurd hq (hb b ((h.sim.mem b).2 hm))
  | ok hb =>
    have e := h1.giveT
    have h3 := h.giveT q
    rw [← e] at h3
    cases h1 with
    | none ha =>
      obtain ⟨b, hm, hq⟩ := hb
      exact absurd hq (ha b ((h.sim.mem b).1 hm))
    | ok b hm hq => exact ⟨rfl, h3⟩
theorem sim_fail {n : Nat} {tk L : List Bk} {fl fl' : List Nat} {bad bad' : List Bool} {q er er2 : Int} (h : SimP n tk fl L bad) (h1 : FailR n fl q er fl') (h2 : RMarkR bad q true er2 bad') : er = er2 ∧ SimP n tk fl' L bad' := by
  have hlen := h.sim.len
  cases h1 with
  | arg ha =>
    cases h2 with
    | arg hb => exact ⟨rfl, h⟩
    | same x hq hx _ _ _ => exact absurd ⟨by omega, by omega⟩ ha
    | ok x hq hx _ => exact absurd ⟨by omega, by omega⟩ ha
  | twice x hq hx hm =>
    cases h2 with
    | arg hb => exact absurd ⟨by omega, by omega⟩ hb
    | same x' hq' hx' hv er he => exact ⟨he.symm, h⟩
    | ok x' hq' hx' hv =>
      obtain rfl : x = x' := by omega
      rw [(h.sim.badm x hx).2 hm] at hv; cases hv
  | ok x hq hx hn =>
    cases h2 with
    | arg hb => exact absurd ⟨by omega, by omega⟩ hb
    | same x' hq' hx' hv er he =>
      obtain rfl : x = x' := by omega
      exact absurd ((h.sim.badm x hx).1 hv) hn
    | ok x' hq' hx' hv =>
      obtain rfl : x = x' := by omega
      exact ⟨rfl, h.sim.fail hx, h.pm⟩
theorem sim_heal {n : Nat} {tk L : List Bk} {fl fl' : List Nat} {bad bad' : List Bool} {q er er2 : Int} (h : SimP n tk fl L bad) (h1 : HealR n fl q er fl') (h2 : RMarkR bad q false er2 bad') : er = er2 ∧ SimP n tk fl' L bad' := by
  have hlen := h.sim.len
  cases h1 with
  | arg ha =>
    cases h2 with
    | arg hb => exact ⟨rfl, h⟩
    | same x hq hx _ _ _ => exact absurd ⟨by omega, by omega⟩ ha
    | ok x hq hx _ => exact absurd ⟨by omega, by omega⟩ ha
  | none x hq hx hn =>
    cases h2 with
    | arg hb => exact absurd ⟨by omega, by omega⟩ hb
    | same x' hq' hx' hv er he => exact ⟨he.symm, h⟩
    | ok x' hq' hx' hv =>
      obtain rfl : x = x' := by omega
      exact absurd ((h.sim.badm x hx).1 hv) hn
  | ok x hq hx hm =>
    cases h2 with
    | arg hb => exact absurd ⟨by omega, by omega⟩ hb
    | same x' hq' hx' hv er he =>
      obtain rfl : x = x' := by omega
      rw [(h.sim.badm x hx).2 hm] at hv; cases hv
    | ok x' hq' hx' hv =>
      obtain rfl : x = x' := by omega
      exact ⟨rfl, h.sim.heal hx, h.pm⟩

/-! The same act, of the document's. -/
inductive ToldR (n : Nat) (L : List Bk) (bad : List Bool) (x : Ac) : Int → Int → List Bk → List Bool → Prop
  | take (hk : x.1 = 0 ∨ x.1 = 1 ∨ x.1 = 2) {r er : Int} {L' : List Bk} (h : RTakeR (freeL n (fnL (openL n L bad))) n L x.2.1 r er L') : ToldR n L bad x r er L' bad
  | takeAt (hk : x.1 = 3) {er : Int} {L' : List Bk} (h : RTakeAtR n (fnL (openL n L bad)) L x.2.2 x.2.1 er L') : ToldR n L bad x 0 er L' bad
  | give (hk : x.1 = 4 ∨ x.1 = 5) {er : Int} {L' : List Bk} (h : RGiveR L x.2.2 er L') : ToldR n L bad x 0 er L' bad
  | fail (hk : x.1 = 6) {er : Int} {bad' : List Bool} (h : RMarkR bad x.2.2 true er bad') : ToldR n L bad x 0 er L bad'
  | heal (hk : ¬ (x.1 = 0 ∨ x.1 = 1 ∨ x.1 = 2 ∨ x.1 = 3 ∨ x.1 = 4 ∨ x.1 = 5 ∨ x.1 = 6)) {er : Int} {bad' : List Bool} (h : RMarkR bad x.2.2 false er bad') : ToldR n L bad x 0 er L bad'
theorem sim_act {n : Nat} {tk tk' L L' : List Bk} {fl fl' : List Nat} {bad bad' : List Bool} {x : Ac} {r er r2 er2 : Int} (h : SimP n tk fl L bad) (h1 : ActR n tk fl x r er tk' fl') (h2 : ToldR n L bad x r2 er2 L' bad') : r = r2 ∧ er = er2 ∧ SimP n tk' fl' L' bad' := by
  have hop := h.sim.opnE
  cases h1 with
  | take k1 ha =>
    cases h2 with
    | take k2 hb => rw [hop] at hb; exact sim_take h ha hb
    | takeAt k2 hb => omega
    | give k2 hb => omega
    | fail k2 hb => omega
    | heal k2 hb => omega
  | takeAt k1 ha =>
    cases h2 with
    | take k2 hb => omega
    | takeAt k2 hb =>
      rw [hop] at hb
      obtain ⟨e1, e2⟩ := sim_takeAt h ha hb
      exact ⟨rfl, e1, e2⟩
    | give k2 hb => omega
    | fail k2 hb => omega
    | heal k2 hb => omega
  | give k1 ha =>
    cases h2 with
    | take k2 hb => omega
    | takeAt k2 hb => omega
    | give k2 hb =>
      obtain ⟨e1, e2⟩ := sim_give h ha hb
      exact ⟨rfl, e1, e2⟩
    | fail k2 hb => omega
    | heal k2 hb => omega
  | fail k1 ha =>
    cases h2 with
    | take k2 hb => omega
    | takeAt k2 hb => omega
    | give k2 hb => omega
    | fail k2 hb =>
      obtain ⟨e1, e2⟩ := sim_fail h ha hb
      exact ⟨rfl, e1, e2⟩
    | heal k2 hb => omega
  | heal k1 ha =>
    cases h2 with
    | take k2 hb => omega
    | takeAt k2 hb => omega
    | give k2 hb => omega
    | fail k2 hb => omega
    | heal k2 hb =>
      obtain ⟨e1, e2⟩ := sim_heal h ha hb
      exact ⟨rfl, e1, e2⟩
def ToldPost (b : Nat) (own : Nat → Prop) (n : Nat) (L : List Bk) (bad : List Bool) (x : Ac) (w : World) (e : Ending) (w' : World) : Prop :=
  ∃ r er L' bad', e = .returned (.tuple #[.int .i64 r, .int .i64 er]) ∧ ToldR n L bad x r er L' bad' ∧ RM w' b own n L' bad' ∧ Chg own w w'
theorem told_step {y : Nat} {own : Nat → Prop} {n : Nat} {L L' : List Bk} {bad bad' : List Bool} {x : Ac} {w w1 w2 : World} {r er : Int} (hb : Below w.heap.size w w1) (hR : ToldR n L bad x r er L' bad') (hY : RM w2 y own n L' bad') (hC : Chg own w1 w2) :
    ToldPost y own n L bad x w (.returned (.tuple #[.int .i64 r, .int .i64 er])) w2 := ⟨r, er, L', bad', rfl, hR, hY, (Chg.of_below hb).trans hC⟩
set_option maxHeartbeats 4000000 in
theorem told_any (y : Nat) (own : Nat → Prop) (n : Nat) (L : List Bk) (bad : List Bool) (k m s : Int) (w : World) (hl : L.length ≤ 4000) (hY : RM w y own n L bad) :
    Calls Try.prog 16 #[.pointer (some ⟨y, 0, none⟩), .agg #[.int .i64 k, .int .i64 m, .int .i64 s]] w fun e w' => ToldPost y own n L bad (k, m, s) w e w' := by
  obtain ⟨w0, hw0⟩ : ∃ w0, w0 = w.alloc (.cells #[.int .i64 k, .int .i64 m, .int .i64 s] 36) := ⟨_, rfl⟩
  have hb : Below w.heap.size w w0 := by rw [hw0]; exact (Below.refl _ _).alloc (Nat.le_refl _) _
  have HB := Lib.hid hb
  have HY0 := Lib.hid (hY.kept hb)
  clear hY hb
  by_cases k0 : k = 0 ∨ k = 1 ∨ k = 2
  · have T := Lib.hid (rTake_any y own n L bad m w0 hl HY0.out)
    have HK := Lib.hid k0
    rcases k0 with rfl | rfl | rfl <;>
    · go_enter Try.func16, Try.ntmps16
      go_wp2_with fail
      rw [← hw0]
      clear hw0
      refine T.out.mono ?_; rintro e w1 ⟨r, er, L', rfl, hR, hY, hC⟩
      have HR := Lib.hid hR
      have HY1 := Lib.hid hY
      have HC1 := Lib.hid hC
      clear hR hY hC
      go_wp2_with fail
      go_ret2
      exact told_step HB.out (.take (by simp) HR.out) HY1.out HC1.out
  · by_cases k3 : k = 3
    · subst k3
      have T := Lib.hid (rTakeAt_any y own n L bad s m w0 hl HY0.out)
      clear k0
      go_enter Try.func16, Try.ntmps16
      go_wp2_with fail
      rw [← hw0]
      clear hw0
      refine T.out.mono ?_; rintro e w1 ⟨er, L', rfl, hR, hY, hC⟩
      have HR := Lib.hid hR
      have HY1 := Lib.hid hY
      have HC1 := Lib.hid hC
      clear hR hY hC
      go_wp2_with fail
      go_ret2
      exact told_step HB.out (.takeAt rfl HR.out) HY1.out HC1.out
    · by_cases k4 : k = 4 ∨ k = 5
      · have T := Lib.hid (rGive_own y own n L bad s w0 HY0.out)
        have HK := Lib.hid k4
        clear k0 k3
        rcases k4 with rfl | rfl <;>
        · go_enter Try.func16, Try.ntmps16
          go_wp2_with fail
          rw [← hw0]
          clear hw0
          refine T.out.mono ?_; rintro e w1 ⟨er, L', rfl, hR, hY, hC⟩
          have HR := Lib.hid hR
          have HY1 := Lib.hid hY
          have HC1 := Lib.hid hC
          clear hR hY hC
          go_wp2_with fail
          go_ret2
          exact told_step HB.out (.give (by simp) HR.out) HY1.out HC1.out
      · by_cases k6 : k = 6
        · subst k6
          have T := Lib.hid (rMark_any y own n L bad s true w0 HY0.out)
          clear k0 k3 k4
          go_enter Try.func16, Try.ntmps16
          go_wp2_with fail
          rw [← hw0]
          clear hw0
          refine T.out.mono ?_; rintro e w1 ⟨er, bad', rfl, hR, hY, hC⟩
          have HR := Lib.hid hR
          have HY1 := Lib.hid hY
          have HC1 := Lib.hid hC
          clear hR hY hC
          go_wp2_with fail
          go_ret2
          exact told_step HB.out (.fail rfl HR.out) HY1.out HC1.out
        · have T := Lib.hid (rMark_any y own n L bad s false w0 HY0.out)
          have q0 : (k == 0) = false := beq_eq_false_iff_ne.2 (by omega)
          have q1 : (k == 1) = false := beq_eq_false_iff_ne.2 (by omega)
          have q2 : (k == 2) = false := beq_eq_false_iff_ne.2 (by omega)
          have q3 : (k == 3) = false := beq_eq_false_iff_ne.2 (by omega)
          have q4 : (k == 4) = false := beq_eq_false_iff_ne.2 (by omega)
          have q5 : (k == 5) = false := beq_eq_false_iff_ne.2 (by omega)
          have q6 : (k == 6) = false := beq_eq_false_iff_ne.2 (by omega)
          have HK : Hid (¬ (k = 0 ∨ k = 1 ∨ k = 2 ∨ k = 3 ∨ k = 4 ∨ k = 5 ∨ k = 6)) := by unfold Hid; omega
          clear k0 k3 k4 k6
          go_enter Try.func16, Try.ntmps16
          go_wp2_with fail
          rw [← hw0]
          clear hw0
          refine T.out.mono ?_; rintro e w1 ⟨er, bad', rfl, hR, hY, hC⟩
          have HR := Lib.hid hR
          have HY1 := Lib.hid hY
          have HC1 := Lib.hid hC
          clear hR hY hC
          go_wp2_with fail
          go_ret2
          exact told_step HB.out (.heal HK.out HR.out) HY1.out HC1.out
end

section
open Go Go.RowKit Go.Lib
def cutO (o : Nat → Prop) (a b : Nat) : Nat → Prop := fun k => (o k ∧ k < a) ∨ b ≤ k
theorem cut_r {o o' : Nat → Prop} {a b : Nat} (h : ∀ k, k < a → o k → ¬ o' k) : ∀ k, k < b → o k → ¬ cutO o' a b k := fun k hk ho hc => by
  rcases hc with ⟨h1, h2⟩ | h1
  · exact h k h2 ho h1
  · omega
theorem cut_l {o o' : Nat → Prop} {a b : Nat} (h : ∀ k, k < a → o k → ¬ o' k) : ∀ k, k < b → cutO o a b k → ¬ o' k := fun k hk hc ho => by
  rcases hc with ⟨h1, h2⟩ | h1
  · exact h k h2 h1 ho
  · omega
theorem cut_lr {o o' : Nat → Prop} {a b : Nat} (h : ∀ k, k < a → o k → ¬ o' k) : ∀ k, k < b → cutO o a b k → ¬ cutO o' a b k := fun k hk h1 h2 => by
  rcases h1 with ⟨a1, a2⟩ | a1
  · rcases h2 with ⟨b1, b2⟩ | b1
    · exact h k a2 a1 b1
    · omega
  · omega
theorem cut_lo {o : Nat → Prop} {a b B : Nat} (h : ∀ k, o k → B ≤ k) (hb : B ≤ b) : ∀ k, cutO o a b k → B ≤ k := fun k hc => by
  rcases hc with ⟨h1, _⟩ | h1
  · exact h k h1
  · omega
theorem YS.away {w w' : World} {b n : Nat} {own own' : Nat → Prop} {tk : List Bk} {fl : List Nat} (h : YS w b own n tk fl) (hc : Chg own' w w') (ho : ∀ k, k < w.heap.size → own' k → ¬ own k) : YS w' b (cutO own w.heap.size w'.heap.size) n tk fl := by
  refine ⟨h.1, ?_⟩
  obtain ⟨cs, q1, q2, q3⟩ := h.2
  have h1 : ∀ k, k < w.heap.size → own k → ¬ own' k := fun k hk a b => ho k hk b a
  refine ⟨cs, ⟨?_, q1.sz, .inl ⟨q1.bown, q1.blk.lt⟩, fun k hk => .inr hk, fun j j1 j2 => ?_, fun j u g j1 j2 hu hub => ?_, q1.apart⟩, q2, q3⟩
  · have := q1.blk
    unfold Blk at *
    rw [hc.block b q1.blk.lt (h1 b q1.blk.lt q1.bown)]; exact this
  · obtain ⟨u, m, hu, hw⟩ := q1.row j j1 j2
    refine ⟨u, m, hu, hw.1, ?_⟩
    rcases hw.2 with e | ⟨g, cap, cur, e, hb, hg, rest⟩
    · exact .inl e
    · have hgl := (Array.getElem?_eq_some_iff.1 hg).1
      exact .inr ⟨g, cap, cur, e, hb, by rw [hc.block g hgl (h1 g hgl (q1.ob j u g j1 j2 hu (by rw [e]; rfl)).1)]; exact hg, rest⟩
  · obtain ⟨u', m, hu', hw⟩ := q1.row j j1 j2
    rw [hu] at hu'; cases hu'
    exact ⟨.inl ⟨(q1.ob j u g j1 j2 hu hub).1, (hw.lt g hub).2⟩, (q1.ob j u g j1 j2 hu hub).2⟩
theorem RM.away {w w' : World} {b n : Nat} {own own' : Nat → Prop} {L : List Bk} {bad : List Bool} (h : RM w b own n L bad) (hc : Chg own' w w') (ho : ∀ k, k < w.heap.size → own' k → ¬ own k) : RM w' b (cutO own w.heap.size w'.heap.size) n L bad := by
  obtain ⟨h0, vL, vB, q⟩ := h
  have h1 : ∀ k, k < w.heap.size → own k → ¬ own' k := fun k hk a b => ho k hk b a
  refine ⟨h0, vL, vB, ?_, .inl ⟨q.bown, q.blk.lt⟩, fun k hk => .inr hk, own_chg q.rl hc fun k e ho' => h1 k (q.rl.lt k e).2 (q.ol k e).1 ho', own_chg q.rb hc fun k e ho' => h1 k (q.rb.lt k e).2 (q.ob k e).1 ho', fun g e => ⟨.inl ⟨(q.ol g e).1, (q.rl.lt g e).2⟩, (q.ol g e).2⟩, fun g e => ⟨.inl ⟨(q.ob g e).1, (q.rb.lt g e).2⟩, (q.ob g e).2⟩, q.ap⟩
  have := q.blk
  unfold Blk at *
  rw [hc.block b q.blk.lt (h1 b q.blk.lt q.bown)]; exact this
theorem chg_none {w w' : World} (h : Below w.heap.size w w') : Chg (fun _ => False) w w' := Chg.of_below h

/-! Rows that are written over. -/
theorem owns_put {w : World} {base g n cap s j : Nat} {e : TypeId} {xs : List Value} (h : w.ownsRow base e s (.slice (some ⟨g, 0, none⟩) n cap) n xs) (hj : j < n * s) (u : Value) :
    (∃ c, w.cell? ⟨g, j, none⟩ = some c) ∧ w.frozen? ⟨g, j, none⟩ = false ∧ (w.setCell ⟨g, j, none⟩ u).ownsRow base e s (.slice (some ⟨g, 0, none⟩) n cap) n (xs.set j u) ∧ Chg (fun k => k = g) w (w.setCell ⟨g, j, none⟩ u) := by
  have hl : xs.length = n * s := h.1
  have hx : xs[j]? = some (xs[j]'(by omega)) := List.getElem?_eq_getElem _
  have h1 := h.cells (g := g) rfl j _ hx
  rw [Addr.add_lit, Nat.zero_add] at h1
  refine ⟨⟨_, h1⟩, ?_, (h.stored j u).1, Chg.setCell j u rfl⟩
  rcases h.2 with ⟨e, _⟩ | ⟨g', cap', cur, e, _, hg, _⟩
  · cases e
  · injection e with e1
    injection e1 with e1
    injection e1 with e1
    subst e1
    simp [World.frozen?, hg]

/-! The answers, alike. -/
theorem held_same {n : Nat} {tk L : List Bk} {fl : List Nat} {x : Int} {b b' : Bk} {f f' : Bool} (hY : OkY n tk fl) (hm : ∀ b, b ∈ L ↔ b ∈ tk) (h : HeldR tk x b f) (h' : HeldR L x b' f') : b = b' ∧ f = f' := by
  cases h with
  | no h =>
    cases h' with
    | no h' => exact ⟨rfl, rfl⟩
    | yes b' hb hx =>
      have := h b' ((hm b').1 hb)
      rw [hx] at this; cases this
  | yes b hb hx =>
    cases h' with
    | no h' =>
      have := h' b ((hm b).2 hb)
      rw [hx] at this; cases this
    | yes b' hb' hx' =>
      have hx0 : 0 ≤ x := by
        unfold inI at hx
        rw [Bool.and_eq_true, decide_eq_true_eq] at hx
        omega
      obtain ⟨y, rfl⟩ : ∃ y : Nat, x = y := ⟨x.toNat, by omega⟩
      exact ⟨srt_start hY.srt hb ((hm b').1 hb') ((inI_nat b y).1 hx) ((inI_nat b' y).1 hx'), rfl⟩
theorem bool_same {P : Prop} {a b : Bool} (h : a = true ↔ P) (h' : b = true ↔ P) : a = b := by
  rw [Bool.eq_iff_iff, h, h']
theorem SimP.fold {n : Nat} {fl : List Nat} {bad : List Bool} : ∀ (gs : List Int) {tk L : List Bk}, SimP n tk fl L bad → SimP n (gs.foldl Go.Proofs.Ytcdlfhheolbhaaa.giveT tk) fl (gs.foldl giveL L) bad
  | [], _, _, h => h
  | g :: r, _, _, h => SimP.fold r (h.giveT g)
end

end Go.Proofs.Ytcdlfhheolbhaaa
