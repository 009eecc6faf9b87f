/-
  The yard's freeAround.
-/
import Derived.Test.YtcdlfhheolbhaaaYdU
namespace Go.Proofs.Ytcdlfhheolbhaaa
open Go Go.RowKit Go.Lib
set_option linter.unusedVariables false

/-- The free block around a block, if there is one. -/
def Around (n : Nat) (op : Opn) (o s : Nat) (r : Bk × Bool) : Prop :=
  (r.2 = true ∧ isF n op r.1.2 r.1.1 ∧ o ≤ r.1.2 ∧ (∀ x, inB o s x → inB r.1.2 r.1.1 x) ∧ allB op o s) ∨ (r.2 = false ∧ r.1 = (0, 0) ∧ ¬ allB op o s)
theorem around_yes {n : Nat} {op : Opn} {o s k : Nat} (hs : s % 2 ^ o = 0) (hk : o ≤ k) (h : isF n op k (flo (2 ^ k) s)) : Around n op o s ((flo (2 ^ k) s, k), true) := by
  have hin : ∀ x, inB o s x → inB k (flo (2 ^ k) s) x := nest_in hk hs h.2.1 (inB_self o s) ⟨flo_le _ _, flo_lt _ (two_pos k)⟩
  exact .inl ⟨rfl, h, hk, hin, fun x hx => h.2.2.2.1 x (hin x hx)⟩
theorem around_no {n : Nat} {op : Opn} {o s : Nat} (ho : o ≤ n) (hs : s % 2 ^ o = 0) (hb : s + 2 ^ o ≤ 2 ^ n) (h : ∀ k, o ≤ k → k ≤ n → ¬ isF n op k (flo (2 ^ k) s)) : Around n op o s ((0, 0), false) := by
  refine .inr ⟨rfl, rfl, fun ha => ?_⟩
  obtain ⟨o', s', h1, h2, h3⟩ := isF_around (n - o) (by omega) hs hb ha
  have h4 := h3 s (inB_self o s)
  have h5 : flo (2 ^ o') s = s' := flo_of (two_pos o') h2.2.1 h4.1 h4.2
  exact h o' h1 h2.1 (h5 ▸ h2)

theorem end2 {w w1 : World} {n g : Nat} {cs : Array Value} {t : TypeId} (h : Blk w1 g cs t) (hs : cs.size = 2) (hB : Below n w w1) (hg : n ≤ g) (a b : Value) :
    ∃ W, ((w1.setCell ⟨g, 0, none⟩ a).setCell ⟨g, 1, none⟩ b) = W ∧ W.cell? ⟨g, 0, none⟩ = some a ∧ W.cell? ⟨g, 1, none⟩ = some b ∧ Below n w W := by
  have h2 := (h.set 0 a).set 1 b
  refine ⟨_, rfl, ?_, ?_, (hB.setCell hg a).setCell hg b⟩
  · rw [h2.cell, Array.getElem?_setIfInBounds_ne (by omega), Array.getElem?_setIfInBounds_self_of_lt (by omega)]
  · rw [h2.cell, Array.getElem?_setIfInBounds_self_of_lt (by simp; omega)]
set_option maxHeartbeats 4000000 in
theorem freeAround_any (y : Nat) (own : Nat → Prop) (n : Nat) (op : Opn) (tk : List Bk) (fl : List Nat) (o s : Nat) (w : World) (ho : o ≤ n) (hs : s % 2 ^ o = 0) (hb : s + 2 ^ o ≤ 2 ^ n) (hY : YI w y own n op tk fl) :
    Calls Try.prog 66 #[.pointer (some ⟨y, 0, none⟩), bkV (s, o)] w
      fun e w' => ∃ r, e = .returned (.tuple #[bkV r.1, .bool r.2]) ∧ Around n op o s r ∧ Below w.heap.size w w' := by
  have hn := hY.n10
  have HS := Lib.hid (show s % 2 ^ o = 0 ∧ s + 2 ^ o ≤ 2 ^ n from ⟨hs, hb⟩)
  have hs4 : s < 4096 := by have := pow_1024 hn; have := two_pos o; omega
  obtain ⟨w0, hw0⟩ : ∃ w0, w0 = (w.alloc (.cells #[.int .i64 (s : Int), .int .i64 (o : Int)] 45)).alloc (.cells #[.int .i64 0, .int .i64 0] 45) := ⟨_, rfl⟩
  have hB0 : Below w.heap.size w w0 := by rw [hw0]; exact ((Below.refl _ _).alloc (Nat.le_refl _) _).alloc (by simp) _
  have HY0 := Lib.hid (hY.kept hB0)
  have HB0 := Lib.hid hB0
  have HG : Hid (Blk w0 w.heap.size #[.int .i64 (s : Int), .int .i64 (o : Int)] 45) := by unfold Hid; rw [hw0]; exact (Blk.new _ _ _).old _
  have HR : Hid (Blk w0 (w.heap.size + 1) #[.int .i64 0, .int .i64 0] 45) := by unfold Hid; rw [hw0]; exact Blk.fresh _ _ _ _ (by simp)
  have hg1 : w0.cell? ⟨w.heap.size, 1, none⟩ = some (.int .i64 (o : Int)) := by have := HG.out.cell 1; simpa using this
  obtain ⟨gB, hgB⟩ : ∃ gB, gB = w.heap.size := ⟨_, rfl⟩
  clear hs hb hY hB0
  go_enter Try.func66, Try.ntmps66
  go_wp2_with fail
  rw [← hw0]
  have HGW := Lib.hid hgB
  obtain ⟨gR, hgR⟩ : ∃ gR, gR = w.heap.size + 1 := ⟨_, rfl⟩
  rw [← hgR, ← hgB]
  rw [← hgR] at HR
  have HGR := Lib.hid hgR
  rw [← hgB] at HG hg1
  clear hw0 hgR hgB
  go_loopg [6] (n + 1 - o) (fun g i wr => ∃ k : Nat, g + k = n + 1 ∧ o ≤ k ∧ i = .int .i64 k ∧ Hid (∀ j, o ≤ j → j < k → ¬ isF n op j (flo (2 ^ j) s)) ∧ Below w0.heap.size w0 wr)
  case atStart => exact ⟨o, by omega, Nat.le_refl _, rfl, fun j h1 h2 => absurd h1 (by omega), Below.refl _ _⟩
  case round =>
    obtain ⟨k, hgk, hok, rfl, HN, hB⟩ := hrel
    have HYr := Lib.hid (HY0.out.kept hB)
    have HGr := HG.out.kept hB
    have HRr := HR.out.kept hB
    have hy0 := HYr.out.ord
    have hb0 := HGr.cell 0
    have hb1 := HGr.cell 1
    have hr0 := HRr.cell 0
    have hr1 := HRr.cell 1
    have hrf := HRr.free
    simp at hb0 hb1 hr0 hr1
    by_cases hlt : (k : Int) ≤ (n : Int)
    · have hd : decide ((k : Int) ≤ (n : Int)) = true := decide_eq_true hlt
      have hk10 : k ≤ 10 := by omega
      obtain ⟨v, hv, hr⟩ := HYr.out.free hk10
      have hp := pow_1024 hk10
      have hp2 := two_pos k
      have hx := i64_andNot_flo (o := k) (s := s) hk10 hs4
      have SZ : Hid (∀ w, Calls Try.prog 65 #[.int .i64 (k : Int)] w fun e w' => e = .returned (.int .i64 ((2 ^ k : Nat) : Int)) ∧ w' = w) := fun w => size_any k hk10 w
      obtain ⟨P2, hP2⟩ : ∃ P2 : Int, P2 = ((2 ^ k : Nat) : Int) := ⟨_, rfl⟩
      obtain ⟨F, hF⟩ : ∃ F, F = flo (2 ^ k) s := ⟨_, rfl⟩
      rw [← hP2] at hx SZ
      rw [← hF] at hx
      obtain ⟨P3, hP3⟩ : ∃ P3 : Int, P3 = P2 - 1 := ⟨_, rfl⟩
      have hwr : IntKind.i64.wrap (P2 - 1) = P3 := by rw [IntKind.wrap_i64]; omega
      rw [← hP3] at hx
      have HWR := Lib.hid hwr
      have HX := Lib.hid hx
      clear hwr hx hP3
      have hgl : gB ≠ wr.heap.size := Nat.ne_of_lt HGr.lt
      have hal2 : ∀ C t, (wr.alloc (.cells C t)).cell? ⟨gB, 0, none⟩ = some (.int .i64 (s : Int)) := fun C t => cell_next ((Below.refl _ _).alloc (Nat.le_refl _) _) hb0
      obtain ⟨l, hl⟩ : ∃ l, l = frL n op k := ⟨_, rfl⟩
      have hlen : l.length ≤ 1024 := by rw [hl]; exact frL_len hn op k
      have hinc : l.Pairwise (· < ·) := by rw [hl]; exact frL_inc n op k
      rw [← hl] at hr
      have hiff : hasN l F = true ↔ isF n op k F := by rw [hasN_iff, hl, frL_mem]
      have hal : Below wr.heap.size wr (wr.alloc (.cells #[.int .i64 (F : Int), .int .i64 (k : Int)] 45)).drew := ((Below.refl _ _).alloc (Nat.le_refl _) _).drew
      obtain ⟨W2, hW2⟩ : ∃ W2, W2 = (wr.alloc (.cells #[.int .i64 (F : Int), .int .i64 (k : Int)] 45)).drew := ⟨_, rfl⟩
      rw [← hW2] at hal
      have BS : Hid (∀ w', (∃ q, w' = W2.drewN q) → Calls Try.prog 60 #[v, .int .i64 (F : Int)] w' fun e w'' => e = .returned (.tuple #[.int .i64 (posN l F : Nat), .bool (hasN l F)]) ∧ ∃ q, w'' = w'.drewN q) := by
        rintro w' ⟨q, rfl⟩
        exact bsN_any v l F _ hlen hinc ((nrow_of_own hr).kept (below_drewN hal _))
      have HH : Blk W2 wr.heap.size #[.int .i64 (F : Int), .int .i64 (k : Int)] 45 := by rw [hW2]; exact (Blk.new _ _ _).drew
      have HB2 : Hid (Below w0.heap.size w0 W2) := below_next hal hB
      have hv2 := cell_next hal hv
      have hh0 := HH.cell 0
      have hh1 := HH.cell 1
      have hs0 := cell_next hal hr0
      have hs1 := cell_next hal hr1
      have hs2 := (HRr.kept hal).free
      have HR2 := Lib.hid (HRr.kept hal)
      simp at hh0 hh1
      have HFD := Lib.hid hF
      obtain ⟨p, hp0⟩ : ∃ p, p = posN l F := ⟨_, rfl⟩
      obtain ⟨f, hf0⟩ : ∃ f, f = hasN l F := ⟨_, rfl⟩
      rw [← hp0, ← hf0] at BS
      rw [← hf0] at hiff
      have HIF := Lib.hid hiff
      have hki : (k : Int) < 11 := by omega
      have hkz : (0 : Int) ≤ (k : Int) := by omega
      have hrn : gR ≠ wr.heap.size := Nat.ne_of_lt HRr.lt
      clear hP2 hF hp hp2 hl hr hinc hlen hal HH hp0 hf0 hiff hr0 hr1 hrf hB HRr HGr
      cases f with
      | true =>
        go_wp2_with fail
        go_region_held3 (fun w' => w'.cell? ⟨gB, 0, none⟩ = some (.int .i64 (s : Int)))
          (first
            | exact hb0
            | exact hal2 _ _
            | assumption
            | exact (World.cell?_setCell_far _ _ _ _ hgl.symm).trans (hal2 _ _)
            | exact (World.cell?_setCell_far _ _ _ _ hgl.symm).trans ((World.cell?_setCell_far _ _ _ _ hgl.symm).trans (hal2 _ _)))
          (first
            | (go_at_call 65; ((with_reducible refine (SZ.out _).mono ?_); rintro e w2 ⟨rfl, hw⟩; subst hw)))
        all_goals
          simp only [HWR.out, HX.out]
          rw [← hW2]
          clear hW2
          go_wp2_with fail
          go_quiet (first | (go_at_call 60; exact Calls.quiet_of (BS.out _ ⟨_, rfl⟩)))
          go_wp2_with fail
          obtain ⟨W6, e6, z0, z1, hend⟩ := end2 (w := w) (n := w.heap.size) (HR2.out.kept (below_drewN (Below.refl _ _) nq)) rfl (below_drewN (HB0.out.trans (HB2.out.mono HB0.out.size)) nq) (by rw [HGR.out]; omega) (.int .i64 (F : Int)) (.int .i64 (k : Int))
          rw [e6]
          refine bodyPost_ret (v := .tuple #[bkV (F, k), .bool true]) (by simp [results, Try.results66, go_sem, z0, z1]) rfl ⟨((F, k), true), rfl, ?_, hend⟩
          rw [HFD.out]
          exact around_yes HS.out.1 hok (by rw [← HFD.out]; exact HIF.out.1 trivial)
      | false =>
        go_wp2_with fail
        go_region_held3 (fun w' => w'.cell? ⟨gB, 0, none⟩ = some (.int .i64 (s : Int)))
          (first
            | exact hb0
            | exact hal2 _ _
            | assumption
            | exact (World.cell?_setCell_far _ _ _ _ hgl.symm).trans (hal2 _ _)
            | exact (World.cell?_setCell_far _ _ _ _ hgl.symm).trans ((World.cell?_setCell_far _ _ _ _ hgl.symm).trans (hal2 _ _)))
          (first
            | (go_at_call 65; ((with_reducible refine (SZ.out _).mono ?_); rintro e w2 ⟨rfl, hw⟩; subst hw)))
        all_goals
          simp only [HWR.out, HX.out]
          rw [← hW2]
          clear hW2
          go_wp2_with fail
          go_quiet (first | (go_at_call 60; exact Calls.quiet_of (BS.out _ ⟨_, rfl⟩)))
          go_wp2_with fail
          go_roundg (gk - 1)
          case measure => omega
          case rel =>
            refine ⟨k + 1, by omega, by omega, by go_num, fun j h1 h2 => ?_, below_drewN HB2.out _⟩
            rcases Nat.lt_or_ge j k with h3 | h3
            · exact HN.out j h1 h3
            · obtain rfl : j = k := by omega
              rw [← HFD.out]
              intro hh
              have := HIF.out.2 hh
              cases this
    · have hd : decide ((k : Int) ≤ (n : Int)) = false := decide_eq_false hlt
      obtain ⟨W6, e6, z0, z1, hend⟩ := end2 (w := w) (n := w.heap.size) HRr rfl (HB0.out.trans (hB.mono HB0.out.size)) (by rw [HGR.out]; omega) (.int .i64 0) (.int .i64 0)
      have E6 := Lib.hid e6
      have HEND := Lib.hid hend
      clear e6 hend
      go_wp2_with fail
      rw [E6.out]
      refine bodyPost_ret (v := .tuple #[bkV (0, 0), .bool false]) (by simp [results, Try.results66, go_sem, z0, z1]) rfl ?_
      have hno := around_no ho HS.out.1 HS.out.2 fun j h1 h2 => HN.out j h1 (by omega)
      first
        | exact ⟨((0, 0), false), rfl, hno, HEND.out⟩
        | exact ⟨0, 0, .inl ⟨rfl, hno, HEND.out⟩⟩
end Go.Proofs.Ytcdlfhheolbhaaa
