/-
  slices.Clone at levels, profile.split: at any levels.
-/
import Derived.Test.YtnbgipegfnpobaaLvG
import Derived.Test.YtnbgipegfnpobaaSlInsLevel
import Derived.Maps.AppendAt
namespace Go.Proofs.Ytnbgipegfnpobaa
open Go Go.RowKit Go.Lib
set_option linter.unusedVariables false

theorem Try.infoLv : (Try.prog.info? 49).map (fun i => (i.zero, i.size, i.bytes)) = some (some (.agg #[.int .i64 0, .int .i64 0]), 2, 16) := by kernel_rfl
def encV (x : Lv) : List Value := [.int .i64 x.1, .int .i64 x.2]
/-- The levels' cells, one behind the other. -/
def flV (xs : List Lv) : List Value := xs.flatMap encV
theorem flV_len (xs : List Lv) : (flV xs).length = xs.length * 2 := by
  induction xs with
  | nil => rfl
  | cons x xs ih => show (encV x ++ flV xs).length = _; rw [List.length_append, ih]; simp [encV]; omega
theorem flV_append (xs ys : List Lv) : flV (xs ++ ys) = flV xs ++ flV ys := by simp [flV]
theorem flV_get (xs : List Lv) : ∀ j i, j < xs.length → i < 2 → (flV xs)[j * 2 + i]? = (encV (lv xs j))[i]? := by
  induction xs with
  | nil => intro j i h; simp at h
  | cons x xs ih =>
    intro j i hj hi
    show (encV x ++ flV xs)[j * 2 + i]? = _
    rw [List.getElem?_append]
    cases j with
    | zero => rw [if_pos (by simp [encV]; omega)]; simp [lv]
    | succ j =>
      rw [if_neg (by simp [encV]; omega)]
      have e : (j + 1) * 2 + i - (encV x).length = j * 2 + i := by simp [encV]; omega
      rw [e, ih j i (by simpa using hj) hi]
      rfl
theorem flV_one (xs : List Lv) : ∀ u ∈ flV xs, u.oneCell' = true := by
  intro u hu
  obtain ⟨x, _, hx⟩ := List.mem_flatMap.1 hu
  simp [encV] at hx
  rcases hx with rfl | rfl <;> rfl
theorem flV_take (xs : List Lv) (p : Nat) (h : p ≤ xs.length) : flV (xs.take p) = (flV xs).take (p * 2) := by
  have e : flV xs = flV (xs.take p) ++ flV (xs.drop p) := by rw [← flV_append, List.take_append_drop]
  rw [e, List.take_left' (by rw [flV_len, List.length_take]; omega)]
theorem flV_drop (xs : List Lv) (p : Nat) (h : p ≤ xs.length) : flV (xs.drop p) = (flV xs).drop (p * 2) := by
  have e : flV xs = flV (xs.take p) ++ flV (xs.drop p) := by rw [← flV_append, List.take_append_drop]
  rw [e, List.drop_left' (by rw [flV_len, List.length_take]; omega)]
/-- What is owned may be read. -/
abbrev LOwn (w : World) (base : Nat) (v : Value) (xs : List Lv) : Prop := w.ownsRow base 49 2 v xs.length (flV xs)
theorem lrow_of_owns {w : World} {base : Nat} {v : Value} {xs : List Lv} (h : LOwn w base v xs) : LRow w v xs := by
  obtain ⟨hl, ⟨rfl, hn⟩ | ⟨g, cap, cur, rfl, hg, hcur, hcap, hmax, hsz, htk⟩⟩ := h
  · exact .inl ⟨List.eq_nil_of_length_eq_zero hn, none, 0, rfl, Nat.zero_le _⟩
  · rcases Nat.eq_zero_or_pos xs.length with h0 | h0
    · rw [h0]; exact .inl ⟨List.eq_nil_of_length_eq_zero h0, some ⟨g, 0, none⟩, cap, rfl, hmax⟩
    · refine .inr ⟨g, 0, cap, rfl, h0, hcap, hmax, lt_of_block hcur, fun j hj => ?_⟩
      have hc : ∀ i, i < 2 → w.cell? ⟨g, 0 + j * 2 + i, none⟩ = (encV (lv xs j))[i]? := by
        intro i hi
        rw [← flV_get xs j i hj hi, ← htk, List.getElem?_take_of_lt (by omega)]
        simp [World.cell?, hcur]
      exact ⟨hc 0 (by omega), hc 1 (by omega)⟩
theorem newsV_of_row {w : World} {b off : Nat} {xs : List Lv} (h : LCells w b off xs) : ∀ j u, (flV xs)[j]? = some u → w.cell? ((⟨b, off, none⟩ : Addr).add j) = some u := by
  intro t u hu
  have ht : t < xs.length * 2 := by rw [← flV_len]; exact (List.getElem?_eq_some_iff.1 hu).1
  have hj : t / 2 < xs.length := by omega
  have h1 := flV_get xs (t / 2) (t % 2) hj (by omega)
  rw [show t / 2 * 2 + t % 2 = t by omega, hu] at h1
  rw [Addr.add_lit]
  obtain ⟨h2, h3⟩ := h.2 (t / 2) hj
  have e : t = t / 2 * 2 + t % 2 := by omega
  rcases (by omega : t % 2 = 0 ∨ t % 2 = 1) with hm | hm
  · rw [hm] at e h1; rw [e, ← Nat.add_assoc, Nat.add_zero]; rw [h2, h1]; rfl
  · rw [hm] at e h1; rw [e, ← Nat.add_assoc]; rw [h3, h1]; rfl

set_option maxRecDepth 100000 in
/-- slices.Clone at levels. -/
theorem cloneV_some (a : Addr) (c : Nat) (xs : List Lv) (w : World) (hn : xs.length ≤ 1048576) (hc : ∀ j u, (flV xs)[j]? = some u → w.cell? (a.add j) = some u) :
    Calls Try.prog 39 #[.slice (some a) xs.length c] w
      fun e w' => ∃ v', e = .returned v' ∧ LOwn w' w.heap.size v' xs ∧ Below w.heap.size w w' := by
  obtain ⟨i0, hi, hz0, hz1, hz2⟩ := info_parts Try.infoLv
  have HC := Lib.hid hc
  clear hc
  have q : ∀ (w : World) (a : Option Addr) (n c n' c' : Nat), (binOp .eql 22 (.slice a n c) (.slice none n' c')).run Try.prog w = .ok (.bool a.isNone) w := fun w a n c n' c' => Lib.run_eql_slice_nil w _ _ a n c n' c' Try.underlying22
  go_enter Try.func39, Try.ntmps39
  go_wp2_with (at_builtin; refine wpList_append_own _ rfl _ _ 22 rfl w.heap.size 49 i0 _ 2 16 Try.underlying22 hi hz0 hz1 hz2 rfl (by decide) _ _ _ rfl (World.ownsRow_made w #[] 0 (Nat.le_refl _) (Nat.zero_le _) (by simp)) a xs.length c (flV xs) rfl (flV_len xs) ?qc1 (flV_one xs) ?qc2 ?qc3 ?qc4 ?_)
  case qc1 => exact fun j u hj => Lib.cell?_alloc_some _ (HC.out j u hj)
  case qc2 => unfold maxLen; omega
  case qc3 => omega
  case qc4 => simp
  intro v' w1 hown hgrow hnil
  go_wp2_with fail
  go_ret
  exact ⟨v', rfl, by simpa using hown, ((Below.refl _ w).alloc (Nat.le_refl _) _).grown hgrow (by simp) (by intro k hk; simp [Value.ownBlock] at hk; omega)⟩
theorem cloneV_any (v : Value) (xs : List Lv) (w : World) (hn : xs.length ≤ 1048576) (h0 : xs ≠ []) (h : LRow w v xs) :
    Calls Try.prog 39 #[v] w fun e w' => ∃ v', e = .returned v' ∧ LOwn w' w.heap.size v' xs ∧ Below w.heap.size w w' := by
  rcases h with ⟨rfl, _⟩ | ⟨b, off, c, rfl, _, h1, h2, hc⟩
  · exact absurd rfl h0
  · exact cloneV_some _ c xs w hn (newsV_of_row hc)
theorem alloc_bigV (w : World) (o : Obj) : ¬ (w.alloc o).drew.heap.size ≤ w.heap.size := by
  have : (w.alloc o).drew.heap.size = w.heap.size + 1 := Array.size_push _
  omega
def insV (xs : List Lv) (p : Nat) (x : Lv) : List Lv := xs.take p ++ x :: xs.drop p
theorem insV_len (xs : List Lv) (p : Nat) (x : Lv) (h : p ≤ xs.length) : (insV xs p x).length = xs.length + 1 := by unfold insV; simp; omega
theorem ins_lv (W0 : World) (base : Nat) (v : Value) (xs : List Lv) (x : Lv) (p vb : Nat) (t : TypeId) (W : World) (hn : xs.length ≤ 1048576) (h : p ≤ xs.length)
    (hbase : W0.heap.size ≤ base) (hbW : base ≤ W.heap.size) (hown : LOwn W base v xs) (hB : Blk W vb #[.int .i64 x.1, .int .i64 x.2] t) (hne : some vb ≠ v.ownBlock) (hbel : Below W0.heap.size W0 W) :
    Calls Try.prog 46 #[v, .int .i64 (p : Nat), .slice (some ⟨vb, 0, none⟩) 1 1] W
      fun e w' => ∃ v', e = .returned v' ∧ LOwn w' W0.heap.size v' (insV xs p x) ∧ Below W0.heap.size W0 w' := by
  refine (insILevel_any base v xs.length p 1 1 vb _ t (flV xs) (encV x) W (by omega) h (by omega) hbW hown (flV_one xs) hB hne rfl rfl (by intro u hu; simp [encV] at hu; rcases hu with rfl | rfl <;> rfl)).mono ?_
  rintro e w' ⟨v', rfl, ho, hg⟩
  refine ⟨v', rfl, ?_, hbel.grown hg hbel.size fun j hj => Nat.le_trans hbase (hown.lt j hj).1⟩
  unfold LOwn
  rw [insV_len _ _ _ h]
  have e : flV (insV xs p x) = (flV xs).take (p * 2) ++ encV x ++ (flV xs).drop (p * 2) := by
    unfold insV
    rw [flV_append, flV_take xs p h, show flV (x :: xs.drop p) = encV x ++ flV (xs.drop p) from rfl, flV_drop xs p h, List.append_assoc]
  rw [e]
  exact ho.mono hbase

set_option maxHeartbeats 2000000 in
theorem split_any (v : Value) (xs : List Lv) (t : Int) (w : World) (hn : xs.length ≤ 1048576) (h0 : xs ≠ []) (h : LRow w v xs) (hi : Inc xs) (ht : (lv xs 0).1 ≤ t) :
    Calls Try.prog 36 #[v, .int .i64 t] w fun e w' => ∃ v', e = .returned v' ∧ LOwn w' w.heap.size v' (splitV xs t) ∧ Below w.heap.size w w' := by
  have hn0 : num xs t ≠ 0 := fun e => by have := (num_pos hi h0 (t := t)).1 e; omega
  obtain ⟨k, hk⟩ : ∃ k, num xs t = k + 1 := ⟨num xs t - 1, by omega⟩
  have hkn : k < xs.length := by have := num_le xs t; omega
  have hki : (k : Int) < xs.length := by omega
  have F := Lib.hid (find_any v xs t w hn h0 h hi)
  rw [hk, show (((k + 1 : Nat) : Int) - 1) = (k : Nat) by omega] at F
  have hv : vA xs t = (lv xs k).2 := by rw [vA_num hi, if_neg hn0, hk, Nat.add_sub_cancel]
  have HSP : Hid (splitV xs t = if (lv xs k).1 = t then xs else insV xs (k + 1) (t, (lv xs k).2)) := by
    unfold Hid splitV insV
    rw [hk, Nat.add_sub_cancel, hv]
  have CL : Hid (∀ w1, Below w.heap.size w w1 → Calls Try.prog 39 #[v] w1 fun e w' => ∃ v', e = .returned v' ∧ LOwn w' w1.heap.size v' xs ∧ Below w1.heap.size w1 w') := fun w1 hb => cloneV_any v xs w1 hn h0 (h.kept hb)
  have IN : Hid (∀ base v vb t' W, w.heap.size ≤ base → base ≤ W.heap.size → LOwn W base v xs → Blk W vb #[.int .i64 t, .int .i64 (lv xs k).2] t' → some vb ≠ v.ownBlock → Below w.heap.size w W →
      Calls Try.prog 46 #[v, .int .i64 (IntKind.i64.wrap ((k : Int) + 1)), .slice (some ⟨vb, 0, none⟩) 1 1] W
        fun e w' => ∃ v', e = .returned v' ∧ LOwn w' w.heap.size v' (insV xs (k + 1) (t, (lv xs k).2)) ∧ Below w.heap.size w w') := fun base v vb t' W a1 a2 a3 a4 a5 a6 => by
    have e : IntKind.i64.wrap ((k : Int) + 1) = ((k + 1 : Nat) : Int) := by rw [IntKind.wrap_i64]; omega
    rw [e]
    exact ins_lv w base v xs (t, (lv xs k).2) (k + 1) vb t' W hn (by omega) a1 a2 a3 a4 a5 a6
  rcases h with ⟨rfl, _⟩ | ⟨b, off, c, rfl, _, h1, h2, hc⟩
  · exact absurd rfl h0
  · have HC := Lib.hid hc
    clear hc hi hv hn0 hk ht
    generalize splitV xs t = sp at *
    by_cases he : (lv xs k).1 = t
    · have hsp : Hid (sp = xs) := HSP.out.trans (if_pos he)
      clear HSP IN
      go_enter Try.func36, Try.ntmps36
      go_wp2_with fail
      refine F.out.mono ?_; rintro e w1 ⟨rfl, b1⟩
      obtain ⟨c0, c1⟩ := HC.out.at b1 hkn
      rw [he] at c0
      have B1 := Lib.hid b1
      clear b1 he
      go_wp2_with fail
      refine (CL.out _ B1.out).mono ?_; rintro e w2 ⟨v2, rfl, o2, b2⟩
      have O2 := Lib.hid (o2.mono B1.out.size)
      have B2 := Lib.hid (below_next b2 B1.out)
      clear b2 o2
      go_wp2_with fail
      go_ret
      exact ⟨v2, rfl, by rw [hsp.out]; exact O2.out, B2.out⟩
    · have hsp : Hid (sp = insV xs (k + 1) (t, (lv xs k).2)) := HSP.out.trans (if_neg he)
      have he' : ((lv xs k).1 == t) = false := beq_eq_false_iff_ne.2 he
      clear HSP
      generalize insV xs (k + 1) (t, (lv xs k).2) = res at *
      obtain ⟨x, hx⟩ : ∃ x, x = lv xs k := ⟨_, rfl⟩
      rw [← hx] at he' IN
      have HX := Lib.hid hx
      clear he hx
      obtain ⟨x1, x2⟩ := x
      dsimp only at he' IN
      go_enter Try.func36, Try.ntmps36
      go_wp2_with fail
      refine F.out.mono ?_; rintro e w1 ⟨rfl, b1⟩
      obtain ⟨c0, c1⟩ := HC.out.at b1 hkn
      rw [← HX.out] at c0 c1
      dsimp only at c0 c1
      have B1 := Lib.hid b1
      have hz1' : w.heap.size ≤ w1.heap.size := b1.size
      clear b1
      go_wp2_with fail
      go_region_with (first
        | (go_at_call 39; refine (CL.out _ ?_).mono ?_; (first | exact B1.out.drew | exact (B1.out.alloc hz1' _).drew); rintro e w4 ⟨v4, rfl, o4, b4⟩; (try have x1' := cell_next b4 c1))
        | (go_at_call 46;
           (first
             | refine (IN.out w1.drew.heap.size v4 w4.heap.size 49 _ hz1' (Nat.le_trans b4.size ((Below.refl _ w4).alloc (Nat.le_refl _) _).size) (World.ownsRow.alloc o4 _) (Blk.new _ _ _) (fun h => by have := (o4.lt _ h.symm).2; omega) ((below_next b4 B1.out.drew).alloc (Nat.le_trans hz1' b4.size) _)).mono ?_
             | refine (IN.out _ v4 w1.heap.size 49 w4 (Nat.le_trans hz1' ((Below.refl _ w1).alloc (Nat.le_refl _) _).size) b4.size o4 (Blk.kept (Blk.drew (Blk.new w1 #[.int .i64 t, .int .i64 x2] 49)) b4) (fun h => absurd (o4.lt _ h.symm).1 (alloc_bigV _ _)) (below_next b4 (B1.out.alloc hz1' _).drew)).mono ?_);
           rintro e w5 ⟨v5, rfl, o5, b5⟩))
      all_goals
        go_wp2_with fail
        go_ret
        exact ⟨v5, rfl, by rw [hsp.out]; exact o5, b5⟩
end Go.Proofs.Ytnbgipegfnpobaa
