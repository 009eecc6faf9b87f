/-
  gangerref05.ends: at any levels.
-/
import Derived.Test.YtnbgipegfnpobaaLvE
import Derived.Test.YtnbgipegfnpobaaApp
import Derived.Deep.Onto
namespace Go.Proofs.Ytnbgipegfnpobaa
open Go Go.RowKit Go.Lib
set_option linter.unusedVariables false

theorem insT_same {t : Int} : ∀ {l : List Int} {k : Nat}, (∀ i, i < k → l.getD i 0 < t) → k < l.length → l.getD k 0 = t → insT t l = l
  | [], k, _, hk, _ => by simp at hk
  | x :: r, 0, _, _, h => by
    have : x = t := by simpa using h
    subst this
    unfold insT; rw [if_neg (Int.lt_irrefl _), if_pos rfl]
  | x :: r, k + 1, h1, hk, h => by
    have hx : x < t := by simpa using h1 0 (Nat.succ_pos _)
    unfold insT
    rw [if_pos hx, insT_same (l := r) (k := k) (fun i hi => by simpa using h1 (i + 1) (by omega)) (by simpa using hk) (by simpa using h)]
theorem insT_at {t : Int} : ∀ {l : List Int} {k : Nat}, (∀ i, i < k → l.getD i 0 < t) → k ≤ l.length → (k < l.length → t < l.getD k 0) → insT t l = l.take k ++ t :: l.drop k
  | [], k, _, hk, _ => by
    obtain rfl : k = 0 := by simpa using hk
    rfl
  | x :: r, 0, _, _, h => by
    have : t < x := by simpa using h (by simp)
    unfold insT; rw [if_neg (by omega), if_neg (by omega)]; rfl
  | x :: r, k + 1, h1, hk, h => by
    have hx : x < t := by simpa using h1 0 (Nat.succ_pos _)
    unfold insT
    rw [if_pos hx, insT_at (l := r) (k := k) (fun i hi => by simpa using h1 (i + 1) (by omega)) (by simpa using hk) (fun hh => by simpa using h (by simpa using hh))]
    rfl
def intsL (l : List Int) : List Value := l.map (.int .i64)
theorem intsL_len (l : List Int) : (intsL l).length = l.length := by simp [intsL]
theorem intsL_one (l : List Int) : ∀ u ∈ intsL l, u.oneCell' = true := fun u hu => by
  obtain ⟨x, _, rfl⟩ := List.mem_map.1 hu; rfl
theorem intsL_app (a b : List Int) : intsL (a ++ b) = intsL a ++ intsL b := by simp [intsL]
theorem intsL_get {l : List Int} {i : Nat} (h : i < l.length) : (intsL l)[i]? = some (.int .i64 (l.getD i 0)) := by
  unfold intsL; rw [List.getElem?_map, List.getD_eq_getElem?_getD, List.getElem?_eq_getElem h]; rfl
theorem Try.infoInt5 : (Try.prog.info? 3).map (fun i => (i.zero, i.size, i.bytes)) = some (some (.int .i64 0), 1, 8) := by kernel_rfl
/-- v owns the numbers l. -/
abbrev IOwn (w : World) (base : Nat) (v : Value) (l : List Int) : Prop := w.ownsRow base 3 1 v l.length (intsL l)
theorem iown_parts {w : World} {base : Nat} {v : Value} {l : List Int} (h : IOwn w base v l) (h0 : 0 < l.length) :
    ∃ g cap, v = .slice (some ⟨g, 0, none⟩) l.length cap ∧ base ≤ g ∧ g < w.heap.size ∧ l.length ≤ cap ∧ cap ≤ maxLen ∧ ∀ i, i < l.length → w.cell? ⟨g, i, none⟩ = some (.int .i64 (l.getD i 0)) := by
  obtain ⟨_, ⟨rfl, e⟩ | ⟨g, cap, cur, rfl, hb, hg, h1, h2, h3, h4⟩⟩ := h
  · omega
  · refine ⟨g, cap, rfl, hb, (Array.getElem?_eq_some_iff.1 hg).1, h1, h2, fun i hi => ?_⟩
    have e : (cur.toList.take (l.length * 1))[i]? = cur.toList[i]? := by rw [List.getElem?_take, if_pos (by omega)]
    rw [h4, intsL_get hi] at e
    simp [World.cell?, hg, ← Array.getElem?_toList, ← e]
theorem owns_older {w : World} {base size n : Nat} {e : TypeId} {v : Value} {xs : List Value} (h : w.ownsRow base e size v n xs) {w' : World} (hB : Below w.heap.size w w') : w'.ownsRow base e size v n xs :=
  h.kept (row := none) ⟨hB.os, hB.tape, hB.output, hB.size, fun j hj _ => hB.block j hj⟩ (by cases v.ownBlock <;> simp)
def tsOf (a b : List Lv) : List Int := ats a ++ ats b
def endsT (f : Int) (ts : List Int) (j : Nat) : List Int := (ts.take j).foldl (endsStep f) [f]
theorem endsT_succ (f : Int) (ts : List Int) (j : Nat) (h : j < ts.length) : endsT f ts (j + 1) = endsStep f (endsT f ts j) (ts.getD j 0) := by
  unfold endsT
  rw [List.take_add_one, List.foldl_append, List.getD_eq_getElem?_getD, List.getElem?_eq_getElem h]
  rfl
theorem endsT_all (f : Int) (ts : List Int) : endsT f ts ts.length = endsV f ts := by unfold endsT endsV; rw [List.take_length]
theorem insT_len (t : Int) (l : List Int) : (insT t l).length ≤ l.length + 1 := by
  induction l with
  | nil => simp [insT]
  | cons a r ih => unfold insT; split <;> (try split) <;> simp <;> omega
theorem endsT_len (f : Int) (ts : List Int) : ∀ j, (endsT f ts j).length ≤ j + 1 ∧ 0 < (endsT f ts j).length := by
  intro j
  constructor
  · induction j with
    | zero => simp [endsT]
    | succ j ih =>
      rcases Nat.lt_or_ge j ts.length with h | h
      · rw [endsT_succ _ _ _ h]
        unfold endsStep; split
        · omega
        · have := insT_len (ts.getD j 0) (endsT f ts j); omega
      · have : endsT f ts (j + 1) = endsT f ts j := by unfold endsT; rw [List.take_of_length_le (by omega), List.take_of_length_le h]
        rw [this]; omega
  · have : f ∈ endsT f ts j := by
      have := (ends_inv f (ts.take j) [f] (by simp) ⟨[], rfl⟩).2.1
      obtain ⟨r, hr⟩ := this
      unfold endsT; rw [hr]; exact List.mem_cons_self
    exact List.length_pos_of_mem this
theorem ats_len (p : List Lv) : (ats p).length = p.length := by simp [ats]
theorem tsOf_left {a b : List Lv} {j : Nat} (h : j < a.length) : (tsOf a b).getD j 0 = (lv a j).1 := by
  unfold tsOf
  rw [List.getD_eq_getElem?_getD, List.getElem?_append_left (by rw [ats_len]; exact h)]
  unfold ats; rw [List.getElem?_map, lv_get h]; rfl
theorem tsOf_right {a b : List Lv} {j : Nat} (h : a.length ≤ j) (h2 : j - a.length < b.length) : (tsOf a b).getD j 0 = (lv b (j - a.length)).1 := by
  unfold tsOf
  rw [List.getD_eq_getElem?_getD, List.getElem?_append_right (by rw [ats_len]; exact h), ats_len]
  unfold ats; rw [List.getElem?_map, lv_get h2]; rfl
/-- A row of levels that is read: nil, or with its cells. -/
def LRead (w : World) (v : Value) (xs : List Lv) : Prop := ∃ a c, v = .slice a xs.length c ∧ ∀ i, i < xs.length → ∃ b off, a = some ⟨b, off, none⟩ ∧ LCells w b off xs

set_option maxRecDepth 100000 in
set_option maxHeartbeats 4000000 in
theorem ends_any (va vb : Value) (a b : List Lv) (f : Int) (w : World) (hna : a.length ≤ 1048576) (hnb : b.length ≤ 1048576) (ha : LRow w va a) (hb : LRow w vb b) :
    Calls Try.prog 35 #[va, vb, .int .i64 f] w fun e w' => ∃ v, e = .returned v ∧ IOwn w' w.heap.size v (endsV f (tsOf a b)) ∧ Below w.heap.size w w' := by
  obtain ⟨i0, hi, hz0, hz1, hz2⟩ := info_parts Try.infoInt5
  have hts : (tsOf a b).length = a.length + b.length := by unfold tsOf; rw [List.length_append, ats_len, ats_len]
  have HE := Lib.hid (endsT_all f (tsOf a b))
  have HS := Lib.hid (endsT_succ f (tsOf a b))
  have HL := Lib.hid (endsT_len f (tsOf a b))
  have TL : Hid (∀ j, j < a.length → (tsOf a b).getD j 0 = (lv a j).1) := fun j h => tsOf_left h
  have TR : Hid (∀ j, a.length ≤ j → j - a.length < b.length → (tsOf a b).getD j 0 = (lv b (j - a.length)).1) := fun j h h2 => tsOf_right h h2
  have RA : Hid (∀ w1, Below w.heap.size w w1 → ∀ i, i < a.length → ∃ g off, va = .slice (some ⟨g, off, none⟩) a.length 0 ∨ True) := fun _ _ _ _ => ⟨0, 0, .inr trivial⟩
  clear RA
  obtain ⟨aa, ca, eva⟩ := ha.slice
  obtain ⟨ab, cb, evb⟩ := hb.slice
  have CA : Hid (∀ w1, Below w.heap.size w w1 → ∀ i, i < a.length → ∃ g off, aa = some ⟨g, off, none⟩ ∧ w1.cell? ⟨g, off + i * 2, none⟩ = some (.int .i64 (lv a i).1)) := fun w1 hB i hi => by
    rcases ha with ⟨rfl, _⟩ | ⟨g, off, c, e, _, _, _, hc⟩
    · simp at hi
    · rw [eva] at e
      cases e
      exact ⟨g, off, rfl, (hc.at hB hi).1⟩
  have CB : Hid (∀ w1, Below w.heap.size w w1 → ∀ i, i < b.length → ∃ g off, ab = some ⟨g, off, none⟩ ∧ w1.cell? ⟨g, off + i * 2, none⟩ = some (.int .i64 (lv b i).1)) := fun w1 hB i hi => by
    rcases hb with ⟨rfl, _⟩ | ⟨g, off, c, e, _, _, _, hc⟩
    · simp at hi
    · rw [evb] at e
      cases e
      exact ⟨g, off, rfl, (hc.at hB hi).1⟩
  subst eva evb
  clear ha hb
  generalize tsOf a b = ts at *
  go_enter Try.func35, Try.ntmps35
  go_wp2_with fail
  go_loopw [7, 8] (fun o i wr => ∃ j : Nat, j ≤ a.length + b.length ∧ i = .int .i64 j ∧ Hid (IOwn wr w.heap.size o (endsT f ts j)) ∧ Below w.heap.size w wr)
    (fun _ i _ => a.length + b.length - (RowKit.intOf i).toNat)
  case atStart => exact ⟨0, Nat.zero_le _, rfl, World.ownsRow_lit w #[.int .i64 f] 1 (Nat.le_refl _) (by decide) rfl, (Below.refl _ _).alloc (Nat.le_refl _) _⟩
  case round =>
    obtain ⟨j, hj, rfl, hown, hB⟩ := hrel
    obtain ⟨hl1, hl0⟩ := HL.out j
    obtain ⟨g, cap, rfl, hgb, hgs, hgc, hgm, hcells⟩ := iown_parts hown.out hl0
    have HG := Lib.hid hcells
    have HB := Lib.hid hB
    have hz : w.heap.size ≤ wr.heap.size := hB.size
    clear hcells
    by_cases hlt : j < a.length + b.length
    · have hlt' : decide ((j : Int) < (a.length : Int) + (b.length : Int)) = true := decide_eq_true (by omega)
      have hjs := Lib.hid (HS.out j (by omega))
      by_cases hja : j < a.length
      · have hja' : decide (j < a.length) = true := decide_eq_true hja
        have hja2 : (j : Int) < a.length := by omega
        obtain ⟨ga, oa, rfl, c0⟩ := CA.out _ HB.out j hja
        rw [TL.out j hja] at hjs
        generalize (lv a j).1 = t at *
        by_cases htf : t ≤ f
        · have u1 : decide (t ≤ f) = true := decide_eq_true htf
          have he := Lib.hid (hjs.out.trans (if_pos htf))
          clear hjs
          go_wp2_with fail
          go_roundw
          case rel => exact ⟨j + 1, hlt, by go_num, by unfold Hid; rw [he.out]; exact hown.out, HB.out⟩
          case measure => simp [RowKit.intOf]; omega
        · have u1 : decide (t ≤ f) = false := decide_eq_false htf
          have he := Lib.hid (hjs.out.trans (if_neg htf))
          clear hjs
          generalize endsT f ts j = L at *
          obtain ⟨w9, hw9⟩ : ∃ w9, w9 = wr := ⟨_, rfl⟩
          subst hw9
          go_wp2_with fail
          go_loopw [10, 11] (fun l i wr => ∃ k : Nat, k ≤ L.length ∧ i = .int .i64 k ∧ Hid (wr.ownsRow w9.heap.size 3 1 l k (intsL (L.take k))) ∧ Hid (∀ q, q < k → L.getD q 0 < t) ∧ Below w9.heap.size w9 wr) (fun _ i _ => L.length - (RowKit.intOf i).toNat)
          case atStart => exact ⟨0, Nat.zero_le _, rfl, World.ownsRow_nil _ _ _ _, (fun q hq => absurd hq (Nat.not_lt_zero _)), Below.refl _ _⟩
          case round =>
            obtain ⟨k, hk, rfl, HO, hlow, hBi⟩ := hrel
            have hzi : w9.heap.size ≤ wr.heap.size := hBi.size
            have HBi := Lib.hid hBi
            clear hBi
            by_cases hkl : k < L.length
            · have hkl' : decide (k < L.length) = true := decide_eq_true hkl
              have hki : (k : Int) < L.length := by omega
              have ck := cell_next HBi.out (HG.out k hkl)
              obtain ⟨y, hy⟩ : ∃ y, y = L.getD k 0 := ⟨_, rfl⟩
              rw [← hy] at ck
              have HY := Lib.hid hy
              clear hy
              by_cases hyt : y < t
              · have u2 : decide (y < t) = true := decide_eq_true hyt
                go_wp2_with (at_builtin; refine wpList_append_own _ rfl _ _ 54 rfl w9.heap.size 3 i0 _ 1 8 Try.underlying54 hi hz0 hz1 hz2 rfl (by decide) _ k _ rfl (World.ownsRow.alloc HO.out _) ⟨wr.heap.size, 0, none⟩ 1 1 [.int .i64 y] rfl rfl (news_alloc _ [.int .i64 y] _) (by simp [Value.oneCell']) (by unfold maxLen; omega) (by omega) (by simp; omega) ?_; intro v4 w4 hown4 hgrow4 _; have HO4 := Lib.hid hown4; have HG4 := Lib.hid hgrow4; clear hown4 hgrow4)
                go_roundw
                case rel =>
                  refine ⟨k + 1, hkl, by go_num, ?_, ?_, (HBi.out.alloc hzi _).grown HG4.out (by simp; omega) (fun q hq => (HO.out.lt q hq).1)⟩
                  · unfold Hid
                    rw [List.take_add_one, List.getElem?_eq_getElem hkl, intsL_app]
                    have e : L[k] = y := by rw [HY.out, List.getD_eq_getElem?_getD, List.getElem?_eq_getElem hkl]; rfl
                    rw [e]; exact HO4.out
                  · intro q hq
                    rcases Nat.lt_or_ge q k with h1 | h1
                    · exact hlow.out q h1
                    · rw [show q = k by omega, ← HY.out]; exact hyt
                case measure => simp [RowKit.intOf]; omega
              · have u2 : decide (y < t) = false := decide_eq_false hyt
                by_cases hye : y = t
                · have u3 : (y == t) = true := by rw [hye]; simp
                  have hsame := Lib.hid (insT_same hlow.out hkl (by rw [← HY.out]; exact hye))
                  clear hye
                  go_wp2_with fail
                  go_roundw
                  case rel => exact ⟨j + 1, hlt, by go_num, by unfold Hid; rw [he.out, hsame.out]; exact owns_older hown.out HBi.out, below_next HBi.out HB.out⟩
                  case measure => simp [RowKit.intOf]; omega
                · have u3 : (y == t) = false := by rw [beq_eq_false_iff_ne]; exact hye
                  have hins := Lib.hid (insT_at hlow.out hk fun _ => by rw [← HY.out]; omega)
                  have SRC1 : Hid (∀ w4, Below w9.heap.size w9 w4 → Src w4 1 (.slice (some ⟨g, k, none⟩) (L.length - k) (cap - k)) (L.length - k) (intsL (L.drop k))) := fun w4 HB4 => by
                    refine ⟨by rw [intsL_len, List.length_drop, Nat.mul_one], .inr ⟨⟨g, k, none⟩, _, rfl, fun q u hq => ?_⟩⟩
                    have hql : q < (L.drop k).length := by have := (List.getElem?_eq_some_iff.1 hq).1; rw [intsL_len] at this; exact this
                    have hql2 : k + q < L.length := by rw [List.length_drop] at hql; omega
                    rw [intsL_get hql] at hq
                    have e := cell_next HB4 (HG.out (k + q) hql2)
                    rw [Addr.add_lit, ← Option.some.inj hq, e]
                    congr 2
                    rw [List.getD_eq_getElem?_getD, List.getD_eq_getElem?_getD, List.getElem?_drop]
                  go_wp2_with (first | (at_builtin; refine wpList_append_own _ rfl _ _ 54 rfl w9.heap.size 3 i0 _ 1 8 Try.underlying54 hi hz0 hz1 hz2 rfl (by decide) _ k _ rfl (World.ownsRow.alloc HO.out _) ⟨wr.heap.size, 0, none⟩ 1 1 [.int .i64 t] rfl rfl (news_alloc _ [.int .i64 t] _) (by simp [Value.oneCell']) (by unfold maxLen; omega) (by omega) (by simp; omega) ?_; intro v4 w4 hown4 hgrow4 _; have HO4 := Lib.hid hown4; have HB4 := Lib.hid ((HBi.out.alloc hzi _).grown hgrow4 (by simp; omega) (fun q hq => (HO.out.lt q hq).1)); have hz4 : w9.heap.size ≤ w4.heap.size := HB4.out.size; clear hown4 hgrow4) | (at_builtin; refine wpList_app rfl _ _ 54 rfl w9.heap.size 3 i0 _ 1 8 Try.underlying54 hi hz0 hz1 hz2 rfl (by decide) _ (k + 1) _ rfl HO4.out _ (L.length - k) (intsL (L.drop k)) rfl (SRC1.out _ HB4.out) (intsL_one _) (by unfold maxLen; omega) (by omega) hz4 ?_; intro v5 w5 hown5 hgrow5 _; have HO5 := Lib.hid hown5; have HB5 := Lib.hid (HB4.out.grown hgrow5 hz4 (fun q hq => (HO4.out.lt q hq).1)); clear hown5 hgrow5))
                  go_roundw
                  case rel =>
                    refine ⟨j + 1, hlt, by go_num, ?_, below_next HB5.out HB.out⟩
                    have e1 : insT t L = (L.take (k) ++ [t]) ++ L.drop (k) := by rw [hins.out]; simp
                    have e2 : (insT t L).length = k + 1 + (L.length - k) := by rw [e1]; simp <;> omega
                    unfold Hid IOwn
                    rw [he.out, e2, e1, intsL_app, intsL_app]
                    exact HO5.out.mono hz
                  case measure => simp [RowKit.intOf]; omega
            · obtain rfl : k = L.length := by omega
              have hkl' : decide (L.length < L.length) = false := decide_eq_false hkl
              have hins := Lib.hid (insT_at hlow.out hk fun h => absurd h hkl)
              have hdr : L.drop L.length = [] := List.drop_length
              by_cases hcl : cap = L.length
              · subst hcl
                go_wp2_with (first | (at_builtin; refine wpList_append_own _ rfl _ _ 54 rfl w9.heap.size 3 i0 _ 1 8 Try.underlying54 hi hz0 hz1 hz2 rfl (by decide) _ L.length _ rfl (World.ownsRow.alloc HO.out _) ⟨wr.heap.size, 0, none⟩ 1 1 [.int .i64 t] rfl rfl (news_alloc _ [.int .i64 t] _) (by simp [Value.oneCell']) (by unfold maxLen; omega) (by omega) (by simp; omega) ?_; intro v4 w4 hown4 hgrow4 _; have HO4 := Lib.hid hown4; have HB4 := Lib.hid ((HBi.out.alloc hzi _).grown hgrow4 (by simp; omega) (fun q hq => (HO.out.lt q hq).1)); have hz4 : w9.heap.size ≤ w4.heap.size := HB4.out.size; clear hown4 hgrow4) | (at_builtin; refine wpList_app rfl _ _ 54 rfl w9.heap.size 3 i0 _ 1 8 Try.underlying54 hi hz0 hz1 hz2 rfl (by decide) _ (L.length + 1) _ rfl HO4.out _ 0 (intsL (L.drop L.length)) rfl (by rw [hdr]; exact ⟨rfl, .inr ⟨_, _, rfl, fun q u hq => by simp [intsL] at hq⟩⟩) (intsL_one _) (by unfold maxLen; omega) (by omega) hz4 ?_; intro v5 w5 hown5 hgrow5 _; have HO5 := Lib.hid hown5; have HB5 := Lib.hid (HB4.out.grown hgrow5 hz4 (fun q hq => (HO4.out.lt q hq).1)); clear hown5 hgrow5))
                go_roundw
                case rel =>
                  refine ⟨j + 1, hlt, by go_num, ?_, below_next HB5.out HB.out⟩
                  have e1 : insT t L = (L.take (L.length) ++ [t]) ++ L.drop (L.length) := by rw [hins.out]; simp
                  have e2 : (insT t L).length = L.length + 1 + 0 := by rw [e1]; simp <;> omega
                  unfold Hid IOwn
                  rw [he.out, e2, e1, intsL_app, intsL_app]
                  exact HO5.out.mono hz
                case measure => simp [RowKit.intOf]; omega
              · have hcl2 := hcl
                go_wp2_with (first | (at_builtin; refine wpList_append_own _ rfl _ _ 54 rfl w9.heap.size 3 i0 _ 1 8 Try.underlying54 hi hz0 hz1 hz2 rfl (by decide) _ L.length _ rfl (World.ownsRow.alloc HO.out _) ⟨wr.heap.size, 0, none⟩ 1 1 [.int .i64 t] rfl rfl (news_alloc _ [.int .i64 t] _) (by simp [Value.oneCell']) (by unfold maxLen; omega) (by omega) (by simp; omega) ?_; intro v4 w4 hown4 hgrow4 _; have HO4 := Lib.hid hown4; have HB4 := Lib.hid ((HBi.out.alloc hzi _).grown hgrow4 (by simp; omega) (fun q hq => (HO.out.lt q hq).1)); have hz4 : w9.heap.size ≤ w4.heap.size := HB4.out.size; clear hown4 hgrow4) | (at_builtin; refine wpList_app rfl _ _ 54 rfl w9.heap.size 3 i0 _ 1 8 Try.underlying54 hi hz0 hz1 hz2 rfl (by decide) _ (L.length + 1) _ rfl HO4.out _ 0 (intsL (L.drop L.length)) rfl (by rw [hdr]; exact ⟨rfl, .inr ⟨_, _, rfl, fun q u hq => by simp [intsL] at hq⟩⟩) (intsL_one _) (by unfold maxLen; omega) (by omega) hz4 ?_; intro v5 w5 hown5 hgrow5 _; have HO5 := Lib.hid hown5; have HB5 := Lib.hid (HB4.out.grown hgrow5 hz4 (fun q hq => (HO4.out.lt q hq).1)); clear hown5 hgrow5))
                go_roundw
                case rel =>
                  refine ⟨j + 1, hlt, by go_num, ?_, below_next HB5.out HB.out⟩
                  have e1 : insT t L = (L.take (L.length) ++ [t]) ++ L.drop (L.length) := by rw [hins.out]; simp
                  have e2 : (insT t L).length = L.length + 1 + 0 := by rw [e1]; simp <;> omega
                  unfold Hid IOwn
                  rw [he.out, e2, e1, intsL_app, intsL_app]
                  exact HO5.out.mono hz
                case measure => simp [RowKit.intOf]; omega
      · have hja' : decide (j < a.length) = false := decide_eq_false hja
        have hja1 : decide ((j : Int) < a.length) = false := decide_eq_false (by omega)
        obtain ⟨m, hm⟩ : ∃ m, m = j - a.length := ⟨_, rfl⟩
        have em : (j : Int) - (a.length : Int) = (m : Int) := by omega
        have hmb : m < b.length := by omega
        have hmi : (m : Int) < b.length := by omega
        obtain ⟨ga, oa, rfl, c0⟩ := CB.out _ HB.out m hmb
        have hTR := TR.out j (by omega) (by omega)
        rw [← hm] at hTR
        rw [hTR] at hjs
        clear hTR hm
        generalize (lv b m).1 = t at *
        by_cases htf : t ≤ f
        · have u1 : decide (t ≤ f) = true := decide_eq_true htf
          have he := Lib.hid (hjs.out.trans (if_pos htf))
          clear hjs
          go_wp2_with fail
          go_roundw
          case rel => exact ⟨j + 1, hlt, by go_num, by unfold Hid; rw [he.out]; exact hown.out, HB.out⟩
          case measure => simp [RowKit.intOf]; omega
        · have u1 : decide (t ≤ f) = false := decide_eq_false htf
          have he := Lib.hid (hjs.out.trans (if_neg htf))
          clear hjs
          generalize endsT f ts j = L at *
          obtain ⟨w9, hw9⟩ : ∃ w9, w9 = wr := ⟨_, rfl⟩
          subst hw9
          go_wp2_with fail
          go_loopw [10, 11] (fun l i wr => ∃ k : Nat, k ≤ L.length ∧ i = .int .i64 k ∧ Hid (wr.ownsRow w9.heap.size 3 1 l k (intsL (L.take k))) ∧ Hid (∀ q, q < k → L.getD q 0 < t) ∧ Below w9.heap.size w9 wr) (fun _ i _ => L.length - (RowKit.intOf i).toNat)
          case atStart => exact ⟨0, Nat.zero_le _, rfl, World.ownsRow_nil _ _ _ _, (fun q hq => absurd hq (Nat.not_lt_zero _)), Below.refl _ _⟩
          case round =>
            obtain ⟨k, hk, rfl, HO, hlow, hBi⟩ := hrel
            have hzi : w9.heap.size ≤ wr.heap.size := hBi.size
            have HBi := Lib.hid hBi
            clear hBi
            by_cases hkl : k < L.length
            · have hkl' : decide (k < L.length) = true := decide_eq_true hkl
              have hki : (k : Int) < L.length := by omega
              have ck := cell_next HBi.out (HG.out k hkl)
              obtain ⟨y, hy⟩ : ∃ y, y = L.getD k 0 := ⟨_, rfl⟩
              rw [← hy] at ck
              have HY := Lib.hid hy
              clear hy
              by_cases hyt : y < t
              · have u2 : decide (y < t) = true := decide_eq_true hyt
                go_wp2_with (at_builtin; refine wpList_append_own _ rfl _ _ 54 rfl w9.heap.size 3 i0 _ 1 8 Try.underlying54 hi hz0 hz1 hz2 rfl (by decide) _ k _ rfl (World.ownsRow.alloc HO.out _) ⟨wr.heap.size, 0, none⟩ 1 1 [.int .i64 y] rfl rfl (news_alloc _ [.int .i64 y] _) (by simp [Value.oneCell']) (by unfold maxLen; omega) (by omega) (by simp; omega) ?_; intro v4 w4 hown4 hgrow4 _; have HO4 := Lib.hid hown4; have HG4 := Lib.hid hgrow4; clear hown4 hgrow4)
                go_roundw
                case rel =>
                  refine ⟨k + 1, hkl, by go_num, ?_, ?_, (HBi.out.alloc hzi _).grown HG4.out (by simp; omega) (fun q hq => (HO.out.lt q hq).1)⟩
                  · unfold Hid
                    rw [List.take_add_one, List.getElem?_eq_getElem hkl, intsL_app]
                    have e : L[k] = y := by rw [HY.out, List.getD_eq_getElem?_getD, List.getElem?_eq_getElem hkl]; rfl
                    rw [e]; exact HO4.out
                  · intro q hq
                    rcases Nat.lt_or_ge q k with h1 | h1
                    · exact hlow.out q h1
                    · rw [show q = k by omega, ← HY.out]; exact hyt
                case measure => simp [RowKit.intOf]; omega
              · have u2 : decide (y < t) = false := decide_eq_false hyt
                by_cases hye : y = t
                · have u3 : (y == t) = true := by rw [hye]; simp
                  have hsame := Lib.hid (insT_same hlow.out hkl (by rw [← HY.out]; exact hye))
                  clear hye
                  go_wp2_with fail
                  go_roundw
                  case rel => exact ⟨j + 1, hlt, by go_num, by unfold Hid; rw [he.out, hsame.out]; exact owns_older hown.out HBi.out, below_next HBi.out HB.out⟩
                  case measure => simp [RowKit.intOf]; omega
                · have u3 : (y == t) = false := by rw [beq_eq_false_iff_ne]; exact hye
                  have hins := Lib.hid (insT_at hlow.out hk fun _ => by rw [← HY.out]; omega)
                  have SRC1 : Hid (∀ w4, Below w9.heap.size w9 w4 → Src w4 1 (.slice (some ⟨g, k, none⟩) (L.length - k) (cap - k)) (L.length - k) (intsL (L.drop k))) := fun w4 HB4 => by
                    refine ⟨by rw [intsL_len, List.length_drop, Nat.mul_one], .inr ⟨⟨g, k, none⟩, _, rfl, fun q u hq => ?_⟩⟩
                    have hql : q < (L.drop k).length := by have := (List.getElem?_eq_some_iff.1 hq).1; rw [intsL_len] at this; exact this
                    have hql2 : k + q < L.length := by rw [List.length_drop] at hql; omega
                    rw [intsL_get hql] at hq
                    have e := cell_next HB4 (HG.out (k + q) hql2)
                    rw [Addr.add_lit, ← Option.some.inj hq, e]
                    congr 2
                    rw [List.getD_eq_getElem?_getD, List.getD_eq_getElem?_getD, List.getElem?_drop]
                  go_wp2_with (first | (at_builtin; refine wpList_append_own _ rfl _ _ 54 rfl w9.heap.size 3 i0 _ 1 8 Try.underlying54 hi hz0 hz1 hz2 rfl (by decide) _ k _ rfl (World.ownsRow.alloc HO.out _) ⟨wr.heap.size, 0, none⟩ 1 1 [.int .i64 t] rfl rfl (news_alloc _ [.int .i64 t] _) (by simp [Value.oneCell']) (by unfold maxLen; omega) (by omega) (by simp; omega) ?_; intro v4 w4 hown4 hgrow4 _; have HO4 := Lib.hid hown4; have HB4 := Lib.hid ((HBi.out.alloc hzi _).grown hgrow4 (by simp; omega) (fun q hq => (HO.out.lt q hq).1)); have hz4 : w9.heap.size ≤ w4.heap.size := HB4.out.size; clear hown4 hgrow4) | (at_builtin; refine wpList_app rfl _ _ 54 rfl w9.heap.size 3 i0 _ 1 8 Try.underlying54 hi hz0 hz1 hz2 rfl (by decide) _ (k + 1) _ rfl HO4.out _ (L.length - k) (intsL (L.drop k)) rfl (SRC1.out _ HB4.out) (intsL_one _) (by unfold maxLen; omega) (by omega) hz4 ?_; intro v5 w5 hown5 hgrow5 _; have HO5 := Lib.hid hown5; have HB5 := Lib.hid (HB4.out.grown hgrow5 hz4 (fun q hq => (HO4.out.lt q hq).1)); clear hown5 hgrow5))
                  go_roundw
                  case rel =>
                    refine ⟨j + 1, hlt, by go_num, ?_, below_next HB5.out HB.out⟩
                    have e1 : insT t L = (L.take (k) ++ [t]) ++ L.drop (k) := by rw [hins.out]; simp
                    have e2 : (insT t L).length = k + 1 + (L.length - k) := by rw [e1]; simp <;> omega
                    unfold Hid IOwn
                    rw [he.out, e2, e1, intsL_app, intsL_app]
                    exact HO5.out.mono hz
                  case measure => simp [RowKit.intOf]; omega
            · obtain rfl : k = L.length := by omega
              have hkl' : decide (L.length < L.length) = false := decide_eq_false hkl
              have hins := Lib.hid (insT_at hlow.out hk fun h => absurd h hkl)
              have hdr : L.drop L.length = [] := List.drop_length
              by_cases hcl : cap = L.length
              · subst hcl
                go_wp2_with (first | (at_builtin; refine wpList_append_own _ rfl _ _ 54 rfl w9.heap.size 3 i0 _ 1 8 Try.underlying54 hi hz0 hz1 hz2 rfl (by decide) _ L.length _ rfl (World.ownsRow.alloc HO.out _) ⟨wr.heap.size, 0, none⟩ 1 1 [.int .i64 t] rfl rfl (news_alloc _ [.int .i64 t] _) (by simp [Value.oneCell']) (by unfold maxLen; omega) (by omega) (by simp; omega) ?_; intro v4 w4 hown4 hgrow4 _; have HO4 := Lib.hid hown4; have HB4 := Lib.hid ((HBi.out.alloc hzi _).grown hgrow4 (by simp; omega) (fun q hq => (HO.out.lt q hq).1)); have hz4 : w9.heap.size ≤ w4.heap.size := HB4.out.size; clear hown4 hgrow4) | (at_builtin; refine wpList_app rfl _ _ 54 rfl w9.heap.size 3 i0 _ 1 8 Try.underlying54 hi hz0 hz1 hz2 rfl (by decide) _ (L.length + 1) _ rfl HO4.out _ 0 (intsL (L.drop L.length)) rfl (by rw [hdr]; exact ⟨rfl, .inr ⟨_, _, rfl, fun q u hq => by simp [intsL] at hq⟩⟩) (intsL_one _) (by unfold maxLen; omega) (by omega) hz4 ?_; intro v5 w5 hown5 hgrow5 _; have HO5 := Lib.hid hown5; have HB5 := Lib.hid (HB4.out.grown hgrow5 hz4 (fun q hq => (HO4.out.lt q hq).1)); clear hown5 hgrow5))
                go_roundw
                case rel =>
                  refine ⟨j + 1, hlt, by go_num, ?_, below_next HB5.out HB.out⟩
                  have e1 : insT t L = (L.take (L.length) ++ [t]) ++ L.drop (L.length) := by rw [hins.out]; simp
                  have e2 : (insT t L).length = L.length + 1 + 0 := by rw [e1]; simp <;> omega
                  unfold Hid IOwn
                  rw [he.out, e2, e1, intsL_app, intsL_app]
                  exact HO5.out.mono hz
                case measure => simp [RowKit.intOf]; omega
              · have hcl2 := hcl
                go_wp2_with (first | (at_builtin; refine wpList_append_own _ rfl _ _ 54 rfl w9.heap.size 3 i0 _ 1 8 Try.underlying54 hi hz0 hz1 hz2 rfl (by decide) _ L.length _ rfl (World.ownsRow.alloc HO.out _) ⟨wr.heap.size, 0, none⟩ 1 1 [.int .i64 t] rfl rfl (news_alloc _ [.int .i64 t] _) (by simp [Value.oneCell']) (by unfold maxLen; omega) (by omega) (by simp; omega) ?_; intro v4 w4 hown4 hgrow4 _; have HO4 := Lib.hid hown4; have HB4 := Lib.hid ((HBi.out.alloc hzi _).grown hgrow4 (by simp; omega) (fun q hq => (HO.out.lt q hq).1)); have hz4 : w9.heap.size ≤ w4.heap.size := HB4.out.size; clear hown4 hgrow4) | (at_builtin; refine wpList_app rfl _ _ 54 rfl w9.heap.size 3 i0 _ 1 8 Try.underlying54 hi hz0 hz1 hz2 rfl (by decide) _ (L.length + 1) _ rfl HO4.out _ 0 (intsL (L.drop L.length)) rfl (by rw [hdr]; exact ⟨rfl, .inr ⟨_, _, rfl, fun q u hq => by simp [intsL] at hq⟩⟩) (intsL_one _) (by unfold maxLen; omega) (by omega) hz4 ?_; intro v5 w5 hown5 hgrow5 _; have HO5 := Lib.hid hown5; have HB5 := Lib.hid (HB4.out.grown hgrow5 hz4 (fun q hq => (HO4.out.lt q hq).1)); clear hown5 hgrow5))
                go_roundw
                case rel =>
                  refine ⟨j + 1, hlt, by go_num, ?_, below_next HB5.out HB.out⟩
                  have e1 : insT t L = (L.take (L.length) ++ [t]) ++ L.drop (L.length) := by rw [hins.out]; simp
                  have e2 : (insT t L).length = L.length + 1 + 0 := by rw [e1]; simp <;> omega
                  unfold Hid IOwn
                  rw [he.out, e2, e1, intsL_app, intsL_app]
                  exact HO5.out.mono hz
                case measure => simp [RowKit.intOf]; omega
    · have hje : j = a.length + b.length := by omega
      have hlt' : decide ((j : Int) < (a.length : Int) + (b.length : Int)) = false := decide_eq_false (by omega)
      have hfin : Hid (endsT f ts j = endsV f ts) := by
        have := HE.out
        rw [hts, ← hje] at this; exact this
      clear hje
      go_wp2_with fail
      go_ret
      exact ⟨_, rfl, by have := hown.out; rw [hfin.out] at this; rw [← hfin.out]; rw [hfin.out]; exact this, HB.out⟩
end Go.Proofs.Ytnbgipegfnpobaa
