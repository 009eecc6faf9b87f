/-
  gangerref03.lay: at any keys.
-/
import Derived.Test.YtpgiladbljnpcaaKeyS
namespace Go.Proofs.Ytpgiladbljnpcaa
open Go.ChangeShapes Go.WideShapes Go.ChangeAt Go.RowKit Go.Lib Go.Sort Go.Maps
set_option linter.unusedVariables false
attribute [local go_sem ↓] key_eql key_neq key_grd

/-- k, laid at its place among ranked ones. -/
def layK (l : List Key) (k : Key) : List Key := l.takeWhile (fun x => kLess x k) ++ k :: l.dropWhile (fun x => kLess x k)
theorem layK_at {l : List Key} {k : Key} {m : Nat} (hm : m ≤ l.length) (h1 : ∀ j, j < m → kLess (at_ l j) k = true) (h2 : m < l.length → kLess (at_ l m) k = false) : layK l k = l.take m ++ [k] ++ l.drop m := by
  have hs : l = l.take m ++ l.drop m := (List.take_append_drop m l).symm
  have ht : ∀ x ∈ l.take m, kLess x k = true := by
    intro x hx
    obtain ⟨j, hj, rfl⟩ := List.getElem_of_mem hx
    have hj' : j < m := by rw [List.length_take] at hj; omega
    rw [List.getElem_take, at_getElem]; exact h1 j hj'
  have hd : ∀ x, (l.drop m).head? = some x → kLess x k = false := by
    intro x hx
    rw [List.head?_drop] at hx
    by_cases h : m < l.length
    · rw [at_get h] at hx; injection hx with hx; rw [← hx]; exact h2 h
    · rw [List.getElem?_eq_none (by omega)] at hx; cases hx
  have e1 : l.takeWhile (fun x => kLess x k) = l.take m := by
    rw [hs, List.takeWhile_append_of_pos ht]
    have : (l.drop m).takeWhile (fun x => kLess x k) = [] := by
      cases hl : l.drop m with
      | nil => rfl
      | cons x r => rw [List.takeWhile_cons, hd x (by rw [hl]; rfl)]; rfl
    rw [← hs, this, List.append_nil]
  have e2 : l.dropWhile (fun x => kLess x k) = l.drop m := by
    rw [hs, List.dropWhile_append_of_pos ht]
    have : (l.drop m).dropWhile (fun x => kLess x k) = l.drop m := by
      cases hl : l.drop m with
      | nil => rfl
      | cons x r => rw [List.dropWhile_cons, hd x (by rw [hl]; rfl)]; rfl
    rw [← hs, this]
  unfold layK
  rw [e1, e2]; simp
theorem flatL_snoc (xs : List Key) (k : Nat) (h : k < xs.length) : flatL (xs.take (k + 1)) = flatL (xs.take k) ++ encK (at_ xs k) := by
  rw [List.take_add_one, at_get h, flatL_append]; simp [flatL]
theorem news_key {w : World} {b : Nat} {x : Key} {t : TypeId} (h : Blk w b #[.int .i64 x.1, .int .i64 x.2.1, .int .u32 x.2.2] t) : ∀ j u, (encK x)[j]? = some u → w.cell? ((⟨b, 0, none⟩ : Addr).add j) = some u :=
  news_blk (cs := encK x) h
theorem encK_one (x : Key) : ∀ u ∈ encK x, u.oneCell' = true := by
  intro u hu
  simp [encK] at hu
  rcases hu with rfl | rfl | rfl <;> rfl
theorem KCells.drop {w : World} {b off : Nat} {xs : List Key} (h : KCells w b off xs) (m : Nat) : KCells w b (off + m * 3) (xs.drop m) := by
  refine ⟨h.1, fun j hj => ?_⟩
  have e : (xs.drop m).getD j default = xs.getD (m + j) default := by simp [List.getD]
  have := h.2 (m + j) (by simp at hj; omega)
  rw [e, show off + m * 3 + j * 3 = off + (m + j) * 3 by omega]; exact this

theorem Blk.grown {w w' : World} {b : Nat} {cs : Array Value} {t : TypeId} {row : Option Nat} (h : Blk w b cs t) (hg : w.grownBy w' row) (hne : some b ≠ row) : Blk w' b cs t := by
  have hlt := h.lt
  unfold Blk at *
  rw [hg.block b hlt hne]; exact h
theorem owns_below {w w' : World} {base size n : Nat} {e : TypeId} {v : Value} {xs : List Value} (h : w.ownsRow base e size v n xs) (hB : Below w.heap.size w w') : w'.ownsRow base e size v n xs :=
  h.kept (row := none) ⟨hB.os, hB.tape, hB.output, hB.size, fun j hj _ => hB.block j hj⟩ (by cases v.ownBlock <;> simp)

set_option maxRecDepth 100000 in
set_option maxHeartbeats 2000000 in
theorem lay_row (b off c : Nat) (xs : List Key) (k : Key) (w : World) (hn : xs.length ≤ 1048576) (h0 : 0 < xs.length) (hc1 : xs.length ≤ c) (hc2 : c ≤ maxLen) (hc : KCells w b off xs) :
    Calls Try.prog 38 #[.slice (some ⟨b, off, none⟩) xs.length c, keyV k] w
      fun e w' => ∃ v', e = .returned v' ∧ w'.ownsRow w.heap.size 24 3 v' (xs.length + 1) (flatL (layK xs k)) ∧ Below w.heap.size w w' := by
  obtain ⟨i0, hi, hz0, hz1, hz2⟩ := info_parts Try.infoKey
  have HC := Lib.hid hc
  have HK : Hid (∀ j w, Calls Try.prog 11 #[keyV (at_ xs j), keyV k] w fun e w' => e = .returned (.bool (kLess (at_ xs j) k)) ∧ Below w.heap.size w w') := fun j w => refLess_any _ _ w
  have HL : Hid (∀ m, m ≤ xs.length → (∀ j, j < m → kLess (at_ xs j) k = true) → (m < xs.length → kLess (at_ xs m) k = false) → layK xs k = xs.take m ++ [k] ++ xs.drop m) := fun m => layK_at
  unfold maxLen at hc2
  clear hc
  unfold keyV at *
  generalize layK xs k = res at *
  go_enter Try.func38, Try.ntmps38
  go_wp2_with fail
  go_loopw [5, 6] (fun o i wr => ∃ m : Nat, m ≤ xs.length ∧ i = .int .i64 m ∧ (∀ j, j < m → kLess (at_ xs j) k = true) ∧ wr.ownsRow (w.heap.size + 1) 24 3 o m (flatL (xs.take m)) ∧
      Blk wr w.heap.size #[.int .i64 k.1, .int .i64 k.2.1, .int .u32 k.2.2] 24 ∧ Below w.heap.size w wr)
    (fun _ i _ => xs.length - (intOf i).toNat)
  case atStart => exact ⟨0, Nat.zero_le _, rfl, fun j hj => absurd hj (Nat.not_lt_zero _), World.ownsRow_nil _ _ _ _, Blk.new _ _ _, (Below.refl _ _).alloc (Nat.le_refl _) _⟩
  case round =>
    obtain ⟨m, hm, rfl, he0, hown, hkb, hB⟩ := hrel
    have HE := Lib.hid he0
    have HO := Lib.hid hown
    have HB := Lib.hid hB
    have HKB := Lib.hid hkb
    have k0 := hkb.cell 0; simp at k0
    have k1 := hkb.cell 1; simp at k1
    have k2 := hkb.cell 2; simp at k2
    clear he0 hown hkb
    by_cases hlt : m < xs.length
    · have hlt' : decide (m < xs.length) = true := decide_eq_true hlt
      have hlt2 : (m : Int) < xs.length := by omega
      obtain ⟨c0, c1, c2⟩ := HC.out.at HB.out hlt
      have HK1 := Lib.hid (HK.out m)
      have HS := Lib.hid (flatL_snoc xs m hlt)
      cases hq : kLess (at_ xs m) k
      · have HQ := Lib.hid hq
        rw [hq] at HK1
        clear hq
        obtain ⟨x, hx⟩ : ∃ x, x = at_ xs m := ⟨_, rfl⟩
        rw [← hx] at c0 c1 c2 HK1 HQ
        have HX := Lib.hid hx
        clear hx
        go_wp2_with fail
        go_region_held3 (fun w' => w'.cell? ⟨b, off + m * 3, none⟩ = some (.int .i64 x.1) ∧ w'.cell? ⟨b, off + m * 3 + 1, none⟩ = some (.int .i64 x.2.1) ∧ w'.cell? ⟨b, off + m * 3 + 2, none⟩ = some (.int .u32 x.2.2) ∧
            w'.cell? ⟨w.heap.size, 0, none⟩ = some (.int .i64 k.1) ∧ w'.cell? ⟨w.heap.size, 1, none⟩ = some (.int .i64 k.2.1) ∧ w'.cell? ⟨w.heap.size, 2, none⟩ = some (.int .u32 k.2.2) ∧ Below wr.heap.size wr w')
          (first
            | exact ⟨c0, c1, c2, k0, k1, k2, (Below.refl _ _).drew⟩
            | (rcases ‹_ ∧ _ ∧ _ ∧ _ ∧ _ ∧ _ ∧ Below _ _ _› with ⟨g0, g1, g2, g3, g4, g5, g6⟩; exact ⟨cell_next (by assumption) g0, cell_next (by assumption) g1, cell_next (by assumption) g2, cell_next (by assumption) g3, cell_next (by assumption) g4, cell_next (by assumption) g5, below_next (by assumption) g6⟩))
          (first
            | (go_at_call 11; ((with_reducible refine (HK1.out _).mono ?_); rintro e w2 ⟨rfl, b2⟩)))
        rcases ‹_ ∧ _ ∧ _ ∧ _ ∧ _ ∧ _ ∧ Below _ _ _› with ⟨d0, d1, d2, _, _, _, g6⟩
        have RES := Lib.hid (HL.out m hm HE.out (fun h => by first | (rw [← HX.out]; exact HQ.out) | exact absurd h hlt))
        have OW := Lib.hid (owns_below HO.out g6)
        have KB := Lib.hid (HKB.out.kept g6)
        have BB := Lib.hid (below_next g6 HB.out)
        have hz : w.heap.size + 1 ≤ w2.heap.size := by have := KB.out.lt; omega
        have ND := Lib.hid (news_of_row ((HC.out.drop m).kept BB.out))
        have hnd : (flatL (xs.drop m)).length = (xs.length - m) * 3 := by rw [flatL_len, List.length_drop]
        go_wp2_with (first
          | (at_builtin; refine wpList_append_own _ rfl _ _ 28 rfl (w.heap.size + 1) 24 i0 _ 3 24 Try.underlying28 hi hz0 hz1 hz2 rfl (by decide) _ m _ rfl (World.ownsRow.alloc OW.out _) ⟨w2.heap.size, 0, none⟩ 1 1 (encK k) rfl rfl (news_key (Blk.new _ _ _)) (encK_one k) (by unfold maxLen; omega) (by omega) (by simp; omega) ?_; intro v4 w4 hown4 hgrow4 _;
             have hb4 : Below w.heap.size w w4 := (BB.out.alloc (by omega) _).grown hgrow4 (by simp; omega) (fun j hj => by have := (OW.out.lt j hj).1; omega);
             have hs4 : w.heap.size + 1 ≤ w4.heap.size := Nat.le_trans hz (Nat.le_trans (by simp) hgrow4.size))
          | (at_builtin; refine wpList_append_own _ rfl _ _ 28 rfl (w.heap.size + 1) 24 i0 _ 3 24 Try.underlying28 hi hz0 hz1 hz2 rfl (by decide) _ (m + 1) _ rfl hown4 ⟨b, off + m * 3, none⟩ (xs.length - m) (c - m) (flatL (xs.drop m)) rfl hnd (news_of_row ((HC.out.drop m).kept hb4)) (flatL_one _) (by unfold maxLen; omega) (by omega) hs4 ?_; intro v5 w5 hown5 hgrow5 _))
        go_ret
        refine ⟨v5, rfl, ?_, hb4.grown hgrow5 (by omega) (fun j hj => by have := (hown4.lt j hj).1; omega)⟩
        have e1 : m + 1 + (xs.length - m) = xs.length + 1 := by omega
        rw [e1] at hown5
        rw [RES.out, flatL_append, flatL_append]
        have e2 : flatL [k] = encK k := by simp [flatL]
        rw [e2]
        obtain ⟨hl, h' | ⟨g, cap, cur, hv, hg, r⟩⟩ := hown5
        · exact ⟨hl, .inl h'⟩
        · exact ⟨hl, .inr ⟨g, cap, cur, hv, by omega, r⟩⟩
      · have HQ := Lib.hid hq
        rw [hq] at HK1
        clear hq
        obtain ⟨x, hx⟩ : ∃ x, x = at_ xs m := ⟨_, rfl⟩
        rw [← hx] at c0 c1 c2 HK1 HQ HS
        have HX := Lib.hid hx
        clear hx
        go_wp2_with fail
        go_region_held3 (fun w' => w'.cell? ⟨b, off + m * 3, none⟩ = some (.int .i64 x.1) ∧ w'.cell? ⟨b, off + m * 3 + 1, none⟩ = some (.int .i64 x.2.1) ∧ w'.cell? ⟨b, off + m * 3 + 2, none⟩ = some (.int .u32 x.2.2) ∧
            w'.cell? ⟨w.heap.size, 0, none⟩ = some (.int .i64 k.1) ∧ w'.cell? ⟨w.heap.size, 1, none⟩ = some (.int .i64 k.2.1) ∧ w'.cell? ⟨w.heap.size, 2, none⟩ = some (.int .u32 k.2.2) ∧ Below wr.heap.size wr w')
          (first
            | exact ⟨c0, c1, c2, k0, k1, k2, (Below.refl _ _).drew⟩
            | (rcases ‹_ ∧ _ ∧ _ ∧ _ ∧ _ ∧ _ ∧ Below _ _ _› with ⟨g0, g1, g2, g3, g4, g5, g6⟩; exact ⟨cell_next (by assumption) g0, cell_next (by assumption) g1, cell_next (by assumption) g2, cell_next (by assumption) g3, cell_next (by assumption) g4, cell_next (by assumption) g5, below_next (by assumption) g6⟩))
          (first
            | (go_at_call 11; ((with_reducible refine (HK1.out _).mono ?_); rintro e w2 ⟨rfl, b2⟩)))
        rcases ‹_ ∧ _ ∧ _ ∧ _ ∧ _ ∧ _ ∧ Below _ _ _› with ⟨d0, d1, d2, _, _, _, g6⟩
        have OW := Lib.hid (owns_below HO.out g6)
        have KB := Lib.hid (HKB.out.kept g6)
        have BB := Lib.hid (below_next g6 HB.out)
        have hz : w.heap.size + 1 ≤ w2.heap.size := by have := KB.out.lt; omega
        go_wp2_with (at_builtin; refine wpList_append_own _ rfl _ _ 28 rfl (w.heap.size + 1) 24 i0 _ 3 24 Try.underlying28 hi hz0 hz1 hz2 rfl (by decide) _ m _ rfl (World.ownsRow.alloc OW.out _) ⟨w2.heap.size, 0, none⟩ 1 1 (encK x) rfl rfl (news_key (Blk.new _ _ _)) (encK_one x) (by unfold maxLen; omega) (by omega) (by simp; omega) ?_; intro v4 w4 hown4 hgrow4 _)
        go_roundw
        case rel =>
          refine ⟨m + 1, hlt, by go_num, ?_, by rw [HS.out]; exact hown4, (KB.out.old _).grown hgrow4 (fun e => ?_), (BB.out.alloc (by omega) _).grown hgrow4 (by simp; omega) (fun j hj => ?_)⟩
          · intro j hj
            rcases Nat.lt_succ_iff_lt_or_eq.1 hj with h | rfl
            · exact HE.out j h
            · rw [← HX.out]; exact HQ.out
          · have := (OW.out.lt w.heap.size e.symm).1; omega
          · have := (OW.out.lt j hj).1; omega
        case measure => simp [intOf]; omega
    · have hmn : m = xs.length := by omega
      have RES := Lib.hid (HL.out m hm HE.out (fun h => absurd h hlt))
      have hdn : xs.drop m = [] := by rw [hmn]; simp
      rw [hdn, List.append_nil] at RES
      have HO2 := HO.out
      subst hmn
      clear hdn
      have hlt' : decide (xs.length < xs.length) = false := decide_eq_false (by omega)
      have g6 : ∀ q, Below wr.heap.size wr (wr.drewN q) := fun q => below_drewN (Below.refl _ _) _
      have hz : w.heap.size + 1 ≤ wr.heap.size := by have := HKB.out.lt; omega
      by_cases hcm : c = xs.length
      all_goals
        go_wp2_with fail
        go_quiet (fail)
        have OW := Lib.hid (owns_below HO2 (g6 nq))
        have BB := Lib.hid (below_next (g6 nq) HB.out)
        go_wp2_with (first
          | (at_builtin; refine wpList_append_own _ rfl _ _ 28 rfl (w.heap.size + 1) 24 i0 _ 3 24 Try.underlying28 hi hz0 hz1 hz2 rfl (by decide) _ xs.length _ rfl (World.ownsRow.alloc OW.out _) ⟨wr.heap.size, 0, none⟩ 1 1 (encK k) rfl rfl (news_key (Blk.fresh _ _ _ _ (by simp))) (encK_one k) (by unfold maxLen; omega) (by omega) (by simp; omega) ?_; intro v4 w4 hown4 hgrow4 _;
             have hb4 : Below w.heap.size w w4 := (BB.out.alloc (by simp; omega) _).grown hgrow4 (by simp; omega) (fun j hj => by have := (OW.out.lt j hj).1; omega);
             have hs4 : w.heap.size + 1 ≤ w4.heap.size := Nat.le_trans hz (Nat.le_trans (by simp) hgrow4.size))
          | (at_builtin; refine wpList_append_own _ rfl _ _ 28 rfl (w.heap.size + 1) 24 i0 _ 3 24 Try.underlying28 hi hz0 hz1 hz2 rfl (by decide) _ (xs.length + 1) _ rfl hown4 _ 0 _ [] rfl rfl (fun j u hj => by simp at hj) (by simp) (by unfold maxLen; omega) (by omega) hs4 ?_; intro v5 w5 hown5 hgrow5 _))
        go_ret
        refine ⟨v5, rfl, ?_, hb4.grown hgrow5 (by omega) (fun j hj => by have := (hown4.lt j hj).1; omega)⟩
        rw [RES.out, flatL_append]
        have e2 : flatL [k] = encK k := by simp [flatL]
        rw [e2]
        rw [List.append_nil, Nat.add_zero] at hown5
        obtain ⟨hl, h' | ⟨g, cap, cur, hv, hg, r⟩⟩ := hown5
        · exact ⟨hl, .inl h'⟩
        · exact ⟨hl, .inr ⟨g, cap, cur, hv, by omega, r⟩⟩

theorem owns_pos {w : World} {base size n : Nat} {e : TypeId} {v : Value} {xs : List Value} (h : w.ownsRow base e size v n xs) (h0 : 0 < n) :
    ∃ g cap cur, v = .slice (some ⟨g, 0, none⟩) n cap ∧ base ≤ g ∧ Blk w g cur e ∧ n ≤ cap ∧ cap ≤ maxLen ∧ cur.size = cap * size ∧ cur.toList.take (n * size) = xs := by
  obtain ⟨hl, ⟨_, hn⟩ | ⟨g, cap, cur, hv, hg, r⟩⟩ := h
  · omega
  · exact ⟨g, cap, cur, hv, hg, r⟩
theorem owns_mono {w : World} {base base' size n : Nat} {e : TypeId} {v : Value} {xs : List Value} (h : w.ownsRow base e size v n xs) (hb : base' ≤ base) : w.ownsRow base' e size v n xs := by
  obtain ⟨hl, h' | ⟨g, cap, cur, hv, hg, r⟩⟩ := h
  · exact ⟨hl, .inl h'⟩
  · exact ⟨hl, .inr ⟨g, cap, cur, hv, Nat.le_trans hb hg, r⟩⟩

set_option maxRecDepth 100000 in
set_option maxHeartbeats 2000000 in
theorem lay_nil (a : Option Addr) (c : Nat) (k : Key) (w : World) (hc2 : c ≤ maxLen) :
    Calls Try.prog 38 #[.slice a 0 c, keyV k] w
      fun e w' => ∃ v', e = .returned v' ∧ w'.ownsRow w.heap.size 24 3 v' 1 (flatL [k]) ∧ Below w.heap.size w w' := by
  obtain ⟨i0, hi, hz0, hz1, hz2⟩ := info_parts Try.infoKey
  unfold maxLen at hc2
  unfold keyV
  have e2 : Hid (flatL [k] = encK k) := by simp [Hid, flatL]
  generalize flatL [k] = res at *
  have hc0 : (0 : Int) ≤ c := by omega
  cases a
  case none =>
    go_enter Try.func38, Try.ntmps38
    go_wp2_with fail
    refine wp_loop_rounds 1 ?_
    rw [rounds_succ]
    go_wp2_with fail
    go_quiet (fail)
    go_wp2_with (first
      | (at_builtin; refine wpList_append_own _ rfl _ _ 28 rfl (w.heap.size + 1) 24 i0 _ 3 24 Try.underlying28 hi hz0 hz1 hz2 rfl (by decide) _ 0 _ rfl (World.ownsRow_nil _ _ _ _) ⟨w.heap.size + 1, 0, none⟩ 1 1 (encK k) rfl rfl (news_key (Blk.fresh _ _ _ _ (by simp))) (encK_one k) (by unfold maxLen; omega) (by omega) (by simp) ?_; intro v4 w4 hown4 hgrow4 _;
         have ho4 := Lib.hid hown4; obtain ⟨g, cap, cur, rfl, _⟩ := owns_pos hown4 (by decide); clear hown4))
    go_ret
    refine ⟨_, rfl, ?_, (((below_drewN ((Below.refl _ w).alloc (Nat.le_refl _) _) _).alloc (by simp) _).grown hgrow4 (by simp; omega) (fun j hj => nomatch (show (none : Option Nat) = some j from hj)))⟩
    rw [e2.out]
    have := owns_mono ho4.out (Nat.le_succ w.heap.size)
    rwa [List.nil_append] at this
  case some a =>
    by_cases hcm : c = 0
    all_goals
      go_enter Try.func38, Try.ntmps38
      go_wp2_with fail
      refine wp_loop_rounds 1 ?_
      rw [rounds_succ]
      go_wp2_with fail
      go_quiet (fail)
      go_wp2_with (first
        | (at_builtin; refine wpList_append_own _ rfl _ _ 28 rfl (w.heap.size + 1) 24 i0 _ 3 24 Try.underlying28 hi hz0 hz1 hz2 rfl (by decide) _ 0 _ rfl (World.ownsRow_nil _ _ _ _) ⟨w.heap.size + 1, 0, none⟩ 1 1 (encK k) rfl rfl (news_key (Blk.fresh _ _ _ _ (by simp))) (encK_one k) (by unfold maxLen; omega) (by omega) (by simp) ?_; intro v4 w4 hown4 hgrow4 _;
           have hs4 : w.heap.size + 1 ≤ w4.heap.size := Nat.le_trans (by simp) hgrow4.size)
        | (at_builtin; refine wpList_append_own _ rfl _ _ 28 rfl (w.heap.size + 1) 24 i0 _ 3 24 Try.underlying28 hi hz0 hz1 hz2 rfl (by decide) _ 1 _ rfl hown4 _ 0 _ [] rfl rfl (fun j u hj => by simp at hj) (by simp) (by unfold maxLen; omega) (by omega) hs4 ?_; intro v5 w5 hown5 hgrow5 _))
      go_ret
      refine ⟨v5, rfl, ?_, (((below_drewN ((Below.refl _ w).alloc (Nat.le_refl _) _) _).alloc (by simp) _).grown hgrow4 (by simp; omega) (fun j hj => nomatch (show (none : Option Nat) = some j from hj))).grown hgrow5 (by omega) (fun j hj => by have := (hown4.lt j hj).1; omega)⟩
      rw [e2.out]
      have := owns_mono hown5 (Nat.le_succ w.heap.size)
      rwa [List.nil_append, List.append_nil] at this
theorem lay_any (v : Value) (xs : List Key) (k : Key) (w : World) (hn : xs.length ≤ 1048576) (h : KRow w v xs) :
    Calls Try.prog 38 #[v, keyV k] w
      fun e w' => ∃ v', e = .returned v' ∧ w'.ownsRow w.heap.size 24 3 v' (xs.length + 1) (flatL (layK xs k)) ∧ Below w.heap.size w w' := by
  rcases h with ⟨rfl, a, c, rfl, hc⟩ | ⟨b, off, c, rfl, h0, h1, h2, hc⟩
  · exact lay_nil a c k w hc
  · exact lay_row b off c xs k w hn h0 h1 h2 hc
end Go.Proofs.Ytpgiladbljnpcaa
