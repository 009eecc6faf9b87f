/-
  gangerref03.Put, gangerref03.Drop: at any keys.
-/
import Derived.Test.YtpgiladbljnpcaaKeyP
namespace Go.Proofs.Ytpgiladbljnpcaa
open Go.ChangeShapes Go.WideShapes Go.ChangeAt Go.RowKit Go.Lib Go.Sort Go.Maps
set_option linter.unusedVariables false
attribute [local go_sem ↓] key_eql key_neq key_grd

theorem refPut_bad (v : Value) (xs : List Key) (k : Key) (w : World) (hn : xs.length ≤ 1048576) (h : KRow w v xs) (hc : checkV xs ≠ 0) :
    Calls Try.prog 21 #[v, keyV k] w fun e w' => e = .returned (.tuple #[.slice none 0 0, .int .i64 (checkV xs)]) ∧ Below w.heap.size w w' := by
  have H1 : Hid (∀ w1, Below w.heap.size w w1 → Calls Try.prog 18 #[v] w1 fun e w' => e = .returned (.int .i64 (checkV xs)) ∧ Below w1.heap.size w1 w') := fun w1 hb => refCheck_any v xs w1 hn (h.kept hb)
  unfold keyV
  have t : (checkV xs != 0) = true := bne_iff_ne.2 hc
  clear h hn hc
  generalize checkV xs = cv at *
  go_enter Try.func21, Try.ntmps21
  go_wp2_with fail
  refine (H1.out _ ((Below.refl _ _).alloc (Nat.le_refl _) _)).mono ?_; rintro e w1 ⟨rfl, b1⟩
  go_wp2_with fail
  go_ret2
  exact ⟨rfl, below_next b1 ((Below.refl _ _).alloc (Nat.le_refl _) _)⟩

theorem refPut_nil (a : Option Addr) (c : Nat) (k : Key) (w : World) (h : KRow w (.slice a 0 c) []) :
    Calls Try.prog 21 #[.slice a 0 c, keyV k] w fun e w' => ∃ v', e = .returned (.tuple #[v', .int .i64 0]) ∧ KRow w' v' (layK [] k) ∧ Below w.heap.size w w' := by
  have H1 : Hid (∀ w1, Below w.heap.size w w1 → Calls Try.prog 18 #[.slice a 0 c] w1 fun e w' => e = .returned (.int .i64 0) ∧ Below w1.heap.size w1 w') := fun w1 hb => refCheck_any _ [] w1 (by simp) (h.kept hb)
  have H2 : Hid (∀ w1, Below w.heap.size w w1 → Calls Try.prog 38 #[.slice a 0 c, .agg #[.int .i64 k.1, .int .i64 k.2.1, .int .u32 k.2.2]] w1
      fun e w' => ∃ v', e = .returned v' ∧ KRow w' v' (layK [] k) ∧ Below w1.heap.size w1 w') := fun w1 hb => by
    refine (lay_any _ [] k w1 (by simp) (h.kept hb)).mono ?_
    rintro e w' ⟨v', rfl, ho, hb'⟩
    exact ⟨v', rfl, krow_owned (by simp [layK]) ho, hb'⟩
  unfold keyV
  obtain ⟨kp, kt, ki⟩ := k
  dsimp only at *
  generalize layK [] (kp, kt, ki) = res at *
  clear h
  go_enter Try.func21, Try.ntmps21
  go_wp2_with fail
  refine (H1.out _ ((Below.refl _ _).alloc (Nat.le_refl _) _)).mono ?_; rintro e w1 ⟨rfl, b1⟩
  have B1 := Lib.hid (below_next b1 ((Below.refl _ _).alloc (Nat.le_refl _) _))
  have KB := Lib.hid ((Blk.new w #[.int .i64 kp, .int .i64 kt, .int .u32 ki] 24).kept b1)
  have d0 := KB.out.cell 0; simp at d0
  have d1 := KB.out.cell 1; simp at d1
  have d2 := KB.out.cell 2; simp at d2
  clear b1
  go_wp2_with fail
  refine wp_loop_rounds 1 ?_
  rw [rounds_succ]
  go_wp2_with fail
  refine (H2.out _ B1.out).mono ?_; rintro e w2 ⟨v2, rfl, hk2, b2⟩
  have K2 := Lib.hid hk2
  clear hk2
  go_wp2_with fail
  go_ret2
  exact ⟨v2, rfl, K2.out, below_next b2 B1.out⟩

set_option maxHeartbeats 1000000 in
theorem refPut_row (b off c : Nat) (xs : List Key) (k : Key) (w : World) (hn : xs.length ≤ 1048576) (h : KRow w (.slice (some ⟨b, off, none⟩) xs.length c) xs) (hcl : KCells w b off xs) (hc : checkV xs = 0) :
    Calls Try.prog 21 #[.slice (some ⟨b, off, none⟩) xs.length c, keyV k] w fun e w' => ∃ v', e = .returned (.tuple #[v', .int .i64 (putE xs k)]) ∧ KRow w' v' (putL xs k) ∧ Below w.heap.size w w' := by
  have H1 : Hid (∀ w1, Below w.heap.size w w1 → Calls Try.prog 18 #[.slice (some ⟨b, off, none⟩) xs.length c] w1 fun e w' => e = .returned (.int .i64 0) ∧ Below w1.heap.size w1 w') := fun w1 hb => by
    have := refCheck_any _ xs w1 hn (h.kept hb); rw [hc] at this; exact this
  have H2 : Hid (∀ w1, Below w.heap.size w w1 → Calls Try.prog 38 #[.slice (some ⟨b, off, none⟩) xs.length c, .agg #[.int .i64 k.1, .int .i64 k.2.1, .int .u32 k.2.2]] w1
      fun e w' => ∃ v', e = .returned v' ∧ KRow w' v' (layK xs k) ∧ Below w1.heap.size w1 w') := fun w1 hb => by
    refine (lay_any _ xs k w1 hn (h.kept hb)).mono ?_
    rintro e w' ⟨v', rfl, ho, hb'⟩
    exact ⟨v', rfl, krow_owned (by rw [(layK_perm xs k).length_eq, List.length_cons]) ho, hb'⟩
  have E1 : Hid (0 ≤ idxK xs k.2.2 → putE xs k = 30 ∧ putL xs k = []) := fun hi => by
    have : putE xs k = 30 := by unfold putE; rw [if_neg (by simp [hc]), if_pos hi]
    refine ⟨this, ?_⟩; unfold putL; rw [this]; rfl
  have E2 : Hid (¬ 0 ≤ idxK xs k.2.2 → putE xs k = 0 ∧ putL xs k = layK xs k) := fun hi => by
    have : putE xs k = 0 := by unfold putE; rw [if_neg (by simp [hc]), if_neg hi]
    refine ⟨this, ?_⟩; unfold putL; rw [this]; rfl
  have HC := Lib.hid hcl
  unfold keyV
  obtain ⟨kp, kt, ki⟩ := k
  dsimp only at *
  generalize putE xs (kp, kt, ki) = pe at *
  generalize putL xs (kp, kt, ki) = pl at *
  generalize layK xs (kp, kt, ki) = res at *
  clear h hcl hc
  go_enter Try.func21, Try.ntmps21
  go_wp2_with fail
  refine (H1.out _ ((Below.refl _ _).alloc (Nat.le_refl _) _)).mono ?_; rintro e w1 ⟨rfl, b1⟩
  have B1 := Lib.hid (below_next b1 ((Below.refl _ _).alloc (Nat.le_refl _) _))
  have KB := Lib.hid ((Blk.new w #[.int .i64 kp, .int .i64 kt, .int .u32 ki] 24).kept b1)
  clear b1 H1
  go_wp2_with fail
  go_loopw [7] (fun i wr => ∃ j : Nat, j ≤ xs.length ∧ i = .int .i64 j ∧ Hid (∀ q, q < j → (at_ xs q).2.2 ≠ ki) ∧ Blk wr w.heap.size #[.int .i64 kp, .int .i64 kt, .int .u32 ki] 24 ∧ Below w.heap.size w wr) (fun i _ => xs.length - (intOf i).toNat)
  case atStart => exact ⟨0, Nat.zero_le _, rfl, fun q h => by omega, KB.out, B1.out⟩
  case round =>
    obtain ⟨j, hj, rfl, hq0, hb0, hB⟩ := hrel
    have d0 := hb0.cell 0; simp at d0
    have d1 := hb0.cell 1; simp at d1
    have d2 := hb0.cell 2; simp at d2
    have HB0 := Lib.hid hb0
    clear hb0
    by_cases hlt : j < xs.length
    · have hlt' : decide (j < xs.length) = true := decide_eq_true hlt
      have hlt2 : (j : Int) < xs.length := by omega
      obtain ⟨c0, c1, c2⟩ := HC.out.at hB hlt
      obtain ⟨x, hx⟩ : ∃ x, x = at_ xs j := ⟨_, rfl⟩
      have HX := Lib.hid hx
      rw [← hx] at c0 c1 c2
      clear hx
      cases hf : (x.2.2 == ki)
      · go_wp2_with fail
        go_quiet (fail)
        go_wp2_with fail
        go_roundw
        case rel =>
          refine ⟨j + 1, hlt, by go_num, fun q h => ?_, HB0.out.kept (below_drewN (Below.refl _ _) _), below_drewN hB _⟩
          rcases Nat.lt_or_ge q j with h1 | h1
          · exact hq0.out q h1
          · obtain rfl : q = j := by omega
            rw [← HX.out]; simpa using hf
        case measure => simp [intOf]; omega
      · have E : Hid (pe = 30 ∧ pl = []) := E1.out (by rw [idxK_at hlt hq0.out (by rw [← HX.out]; simpa using hf)]; omega)
        go_wp2_with fail
        go_quiet (fail)
        go_wp2_with fail
        go_ret2
        rw [E.out.1, E.out.2]
        exact ⟨_, rfl, .inl ⟨rfl, none, 0, rfl, Nat.zero_le _⟩, below_drewN hB _⟩
    · obtain rfl : j = xs.length := by omega
      have hlt' : decide (xs.length < xs.length) = false := decide_eq_false (by omega)
      have E : Hid (pe = 0 ∧ pl = res) := E2.out (by rw [idxK_none hq0.out]; omega)
      go_wp2_with fail
      refine (H2.out _ hB).mono ?_; rintro e w2 ⟨v2, rfl, hk2, b2⟩
      have K2 := Lib.hid hk2
      clear hk2
      go_wp2_with fail
      go_ret2
      rw [E.out.1, E.out.2]
      exact ⟨v2, rfl, K2.out, below_next b2 hB⟩

theorem refPut_any (v : Value) (xs : List Key) (k : Key) (w : World) (hn : xs.length ≤ 1048576) (h : KRow w v xs) :
    Calls Try.prog 21 #[v, keyV k] w fun e w' => ∃ v', e = .returned (.tuple #[v', .int .i64 (putE xs k)]) ∧ KRow w' v' (putL xs k) ∧ Below w.heap.size w w' := by
  by_cases hc : checkV xs = 0
  · rcases id h with ⟨rfl, a, c, rfl, _⟩ | ⟨b, off, c, rfl, h0, h1, h2, hcl⟩
    · have e : putE [] k = 0 := by unfold putE; rw [if_neg (by simp [hc]), if_neg (by simp [idxK])]
      refine (refPut_nil a c k w h).mono ?_
      rintro e' w' ⟨v', rfl, hk, hb⟩
      refine ⟨v', by rw [e], ?_, hb⟩
      unfold putL; rw [if_pos e]; exact hk
    · exact refPut_row b off c xs k w hn h hcl hc
  · have e : putE xs k = checkV xs := by unfold putE; rw [if_pos hc]
    refine (refPut_bad v xs k w hn h hc).mono ?_
    rintro e' w' ⟨rfl, hb⟩
    refine ⟨_, by rw [e], ?_, hb⟩
    unfold putL; rw [if_neg (by rw [e]; exact hc)]
    exact .inl ⟨rfl, none, 0, rfl, Nat.zero_le _⟩

theorem id_of {p : Prop} (h : p) : p := h
theorem refDrop_bad (v : Value) (xs : List Key) (id : Int) (w : World) (hn : xs.length ≤ 1048576) (h : KRow w v xs) (hc : checkV xs ≠ 0) :
    Calls Try.prog 23 #[v, .int .u32 id] w fun e w' => e = .returned (.tuple #[.slice none 0 0, .bool false]) ∧ Below w.heap.size w w' := by
  have H1 : Hid (Calls Try.prog 18 #[v] w fun e w' => e = .returned (.int .i64 (checkV xs)) ∧ Below w.heap.size w w') := refCheck_any v xs w hn h
  have t : (checkV xs != 0) = true := bne_iff_ne.2 hc
  clear h hn hc
  generalize checkV xs = cv at *
  go_enter Try.func23, Try.ntmps23
  go_wp2_with fail
  refine H1.out.mono ?_; rintro e w1 ⟨rfl, b1⟩
  go_wp2_with fail
  go_ret2
  exact ⟨rfl, b1⟩
theorem refDrop_nil (a : Option Addr) (c : Nat) (id : Int) (w : World) (h : KRow w (.slice a 0 c) []) :
    Calls Try.prog 23 #[.slice a 0 c, .int .u32 id] w fun e w' => e = .returned (.tuple #[.slice none 0 0, .bool false]) ∧ Below w.heap.size w w' := by
  have H1 : Hid (Calls Try.prog 18 #[.slice a 0 c] w fun e w' => e = .returned (.int .i64 0) ∧ Below w.heap.size w w') := refCheck_any _ [] w (by simp) h
  clear h
  go_enter Try.func23, Try.ntmps23
  go_wp2_with fail
  refine H1.out.mono ?_; rintro e w1 ⟨rfl, b1⟩
  go_wp2_with fail
  refine wp_loop_rounds 1 ?_
  rw [rounds_succ]
  go_wp2_with fail
  go_ret2
  exact ⟨rfl, b1⟩

def restK (xs : List Key) (id : Int) (j : Nat) : List Key := (xs.take j).filter fun x => x.2.2 != id
theorem restK_succ {xs : List Key} {id : Int} {j : Nat} (h : j < xs.length) : restK xs id (j + 1) = restK xs id j ++ (if (at_ xs j).2.2 != id then [at_ xs j] else []) := by
  unfold restK
  rw [List.take_add_one, at_get h, List.filter_append]
  congr 1
  rw [Option.toList_some, List.filter_cons, List.filter_nil]
theorem restK_len (xs : List Key) (id : Int) (j : Nat) : (restK xs id j).length ≤ xs.length := by
  unfold restK
  exact Nat.le_trans (List.length_filter_le _ _) (by rw [List.length_take]; omega)

set_option maxHeartbeats 1000000 in
theorem refDrop_row (b off c : Nat) (xs : List Key) (id : Int) (w : World) (hn : xs.length ≤ 1048576) (h : KRow w (.slice (some ⟨b, off, none⟩) xs.length c) xs) (hcl : KCells w b off xs) (hc : checkV xs = 0) :
    Calls Try.prog 23 #[.slice (some ⟨b, off, none⟩) xs.length c, .int .u32 id] w fun e w' => ∃ v', e = .returned (.tuple #[v', .bool (dropB xs id)]) ∧ KRow w' v' (dropL xs id) ∧ Below w.heap.size w w' := by
  obtain ⟨i0, hi, hz0, hz1, hz2⟩ := info_parts Try.infoKey
  have H1 : Hid (Calls Try.prog 18 #[.slice (some ⟨b, off, none⟩) xs.length c] w fun e w' => e = .returned (.int .i64 0) ∧ Below w.heap.size w w') := by
    have := refCheck_any _ xs w hn h; rw [hc] at this; exact this
  have hdl : dropL xs id = restK xs id xs.length := by unfold dropL restK; rw [if_neg (by simp [hc]), List.take_length]
  have hdb : dropB xs id = ((restK xs id xs.length).length != xs.length) := by
    rw [← hdl]
    unfold dropB dropL
    rw [if_neg (by simp [hc]), decide_eq_true hc, Bool.true_and]
    by_cases hi : 0 ≤ idxK xs id
    · obtain ⟨i, hix, hil, hie⟩ := idxK_some hi
      rw [filter_at (ids_of_check hc) hil hie, decide_eq_true hi, List.length_append, List.length_take, List.length_drop]
      symm
      rw [bne_iff_ne]
      omega
    · rw [filter_all hi, decide_eq_false hi]; simp
  rw [hdl, hdb]
  clear hdl hdb
  have HC := Lib.hid hcl
  have HS : Hid (∀ j, j < xs.length → restK xs id (j + 1) = restK xs id j ++ (if (at_ xs j).2.2 != id then [at_ xs j] else [])) := fun j hj => restK_succ hj
  have HL : Hid (∀ j, (restK xs id j).length ≤ xs.length) := restK_len xs id
  have hnn := hn
  clear h hcl hc
  obtain ⟨rr, hrr⟩ : ∃ rr, rr = restK xs id xs.length := ⟨_, rfl⟩
  rw [← hrr]
  have HRR := Lib.hid hrr
  clear hrr
  obtain ⟨fl, hfl⟩ : ∃ fl, fl = (rr.length != xs.length) := ⟨_, rfl⟩
  rw [← hfl]
  have HFL := Lib.hid hfl
  clear hfl
  go_enter Try.func23, Try.ntmps23
  go_wp2_with fail
  refine H1.out.mono ?_; rintro e w1 ⟨rfl, b1⟩
  go_wp2_with fail
  go_loopw [7, 8] (fun o i wr => ∃ j : Nat, j ≤ xs.length ∧ i = .int .i64 j ∧ wr.ownsRow w.heap.size 24 3 o (restK xs id j).length (flatL (restK xs id j)) ∧ Below w.heap.size w wr) (fun _ i _ => xs.length - (intOf i).toNat)
  case atStart => exact ⟨0, Nat.zero_le _, rfl, by simpa [restK, flatL] using World.ownsRow_nil _ _ _ _, b1⟩
  case round =>
    obtain ⟨j, hj, rfl, ho, hB⟩ := hrel
    have HO := Lib.hid ho
    have HB := Lib.hid hB
    clear ho
    by_cases hlt : j < xs.length
    · have hlt' : decide (j < xs.length) = true := decide_eq_true hlt
      have hlt2 : (j : Int) < xs.length := by omega
      obtain ⟨c0, c1, c2⟩ := HC.out.at hB hlt
      have HSj := Lib.hid (HS.out j hlt)
      have HLj := HL.out j
      obtain ⟨x, hx⟩ : ∃ x, x = at_ xs j := ⟨_, rfl⟩
      rw [← hx] at c0 c1 c2 HSj
      have hsz := hB.size
      clear hx hB
      generalize hr0 : restK xs id j = r0 at *
      cases hf : (x.2.2 != id)
      · have E : Hid (restK xs id (j + 1) = r0) := by rw [HSj.out, hf]; simp [Hid]
        go_wp2_with fail
        go_roundw
        case rel => exact ⟨j + 1, hlt, by go_num, by rw [E.out]; exact HO.out, HB.out⟩
        case measure => simp [intOf]; omega
      · have E : Hid (restK xs id (j + 1) = r0 ++ [x]) := by rw [HSj.out, hf]; simp [Hid]
        go_wp2_with (at_builtin; refine wpList_append_own _ rfl _ _ 28 rfl w.heap.size 24 i0 _ 3 24 Try.underlying28 hi hz0 hz1 hz2 rfl (by decide) _ r0.length _ rfl (World.ownsRow.alloc HO.out _) ⟨wr.heap.size, 0, none⟩ 1 1 (encK x) rfl rfl (news_key (x := x) (Blk.new _ _ _)) (encK_one x) (by unfold maxLen; omega) (by omega) (Nat.le_trans hsz (by simp)) ?_; intro v4 w4 hown4 hgrow4 _)
        have HO4 := Lib.hid hown4
        have HB4 : Hid (Below w.heap.size w w4) := below_grown (HB.out.alloc hsz _) hgrow4 fun k hk => (HO.out.lt k hk).1
        clear hown4 hgrow4
        go_wp2_with fail
        go_roundw
        case rel =>
          refine ⟨j + 1, hlt, by go_num, ?_, HB4.out⟩
          have e2 : flatL [x] = encK x := by simp [flatL]
          rw [E.out, flatL_append, e2, List.length_append]
          exact HO4.out
        case measure => simp [intOf]; omega
    · obtain rfl : j = xs.length := by omega
      have hlt' : decide (xs.length < xs.length) = false := decide_eq_false (by omega)
      have hl := HL.out xs.length
      have HK : Hid (KRow wr _ (restK xs id xs.length)) := krow_of_owns HO.out
      rw [← HRR.out] at HK hl
      clear HO
      obtain ⟨A, ca, e⟩ := krow_slice HK.out
      subst e
      have hfl1 : (rr.length != xs.length) = fl := HFL.out.symm
      have hfl2 : ((rr.length : Int) != (xs.length : Int)) = fl := by rw [← hfl1, Bool.eq_iff_iff, bne_iff_ne, bne_iff_ne]; omega
      go_wp2_with fail
      go_ret2
      exact ⟨_, rfl, HK.out, HB.out⟩
theorem refDrop_any (v : Value) (xs : List Key) (id : Int) (w : World) (hn : xs.length ≤ 1048576) (h : KRow w v xs) :
    Calls Try.prog 23 #[v, .int .u32 id] w fun e w' => ∃ v', e = .returned (.tuple #[v', .bool (dropB xs id)]) ∧ KRow w' v' (dropL xs id) ∧ Below w.heap.size w w' := by
  by_cases hc : checkV xs = 0
  · rcases id_of h with ⟨rfl, a, c, rfl, _⟩ | ⟨b, off, c, rfl, h0, h1, h2, hcl⟩
    · refine (refDrop_nil a c id w h).mono ?_
      rintro e' w' ⟨rfl, hb⟩
      refine ⟨.slice none 0 0, by simp [dropB, idxK], ?_, hb⟩
      rw [show dropL [] id = [] by simp [dropL]]
      exact .inl ⟨rfl, none, 0, rfl, Nat.zero_le _⟩
    · exact refDrop_row b off c xs id w hn h hcl hc
  · refine (refDrop_bad v xs id w hn h hc).mono ?_
    rintro e' w' ⟨rfl, hb⟩
    refine ⟨.slice none 0 0, by simp [dropB, hc], ?_, hb⟩
    unfold dropL; rw [if_pos hc]
    exact .inl ⟨rfl, none, 0, rfl, Nat.zero_le _⟩

theorem put_any (v : Value) (xs : List Key) (k : Key) (w : World) (hn : xs.length ≤ 1048576) (hid : ∀ x ∈ xs, (Lit.int .u32 x.2.2).wf = true) (h : KRow w v xs) :
    Calls Try.prog 20 #[v, keyV k] w fun e w' => ∃ v', e = .returned (.tuple #[v', .int .i64 (putE xs k)]) ∧ w'.ownsRow w.heap.size 24 3 v' (putL xs k).length (flatL (putL xs k)) ∧ Below w.heap.size w w' := by
  by_cases hc : checkV xs = 0
  · by_cases hi : 0 ≤ idxK xs k.2.2
    · have e : putE xs k = 30 := by unfold putE; rw [if_neg (by simp [hc]), if_pos hi]
      have e2 : putL xs k = [] := by unfold putL; rw [e]; rfl
      refine (put_bad2 v xs k w hn hid h hc hi).mono ?_
      rintro e' w' ⟨rfl, hb⟩
      rw [e, e2]
      exact ⟨_, rfl, World.ownsRow_nil _ _ _ _, hb⟩
    · have e : putE xs k = 0 := by unfold putE; rw [if_neg (by simp [hc]), if_neg hi]
      have e2 : putL xs k = layK xs k := by unfold putL; rw [e]; rfl
      refine (put_ok v xs k w hn hid h hc hi).mono ?_
      rintro e' w' ⟨v', rfl, ho, hb⟩
      rw [e, e2, (layK_perm xs k).length_eq, List.length_cons]
      exact ⟨_, rfl, ho, hb⟩
  · have e : putE xs k = checkV xs := by unfold putE; rw [if_pos hc]
    have e2 : putL xs k = [] := by unfold putL; rw [if_neg (by rw [e]; exact hc)]
    refine (put_bad1 v xs k w hn hid h hc).mono ?_
    rintro e' w' ⟨rfl, hb⟩
    rw [e, e2]
    exact ⟨_, rfl, World.ownsRow_nil _ _ _ _, hb⟩
theorem drop_any (v : Value) (xs : List Key) (id : Int) (w : World) (hn : xs.length ≤ 1048576) (hid : ∀ x ∈ xs, (Lit.int .u32 x.2.2).wf = true) (h : KRow w v xs) :
    Calls Try.prog 22 #[v, .int .u32 id] w fun e w' => ∃ v', e = .returned (.tuple #[v', .bool (dropB xs id)]) ∧ w'.ownsRow w.heap.size 24 3 v' (dropL xs id).length (flatL (dropL xs id)) ∧ Below w.heap.size w w' := by
  by_cases hc : checkV xs = 0
  · exact drop_ok v xs id w hn hid h hc
  · refine (drop_bad v xs id w hn hid h hc).mono ?_
    rintro e' w' ⟨rfl, hb⟩
    have e1 : dropB xs id = false := by simp [dropB, hc]
    have e2 : dropL xs id = [] := by unfold dropL; rw [if_pos hc]
    rw [e1, e2]
    exact ⟨_, rfl, World.ownsRow_nil _ _ _ _, hb⟩
theorem putL_len (xs : List Key) (k : Key) : (putL xs k).length ≤ xs.length + 1 := by
  unfold putL
  split
  · rw [(layK_perm xs k).length_eq, List.length_cons]; exact Nat.le_refl _
  · simp
theorem dropL_len (xs : List Key) (id : Int) : (dropL xs id).length ≤ xs.length := by
  unfold dropL
  split
  · simp
  · exact List.length_filter_le _ _
theorem owned_form {w : World} {base n : Nat} {v : Value} {zs : List Value} (h : w.ownsRow base 24 3 v n zs) : ∃ A c, v = .slice A n c := by
  obtain ⟨_, ⟨rfl, rfl⟩ | ⟨g, cap, cur, rfl, _⟩⟩ := h
  · exact ⟨none, 0, rfl⟩
  · exact ⟨_, _, rfl⟩
theorem grownBy_setCell (w : World) (b o : Nat) (u : Value) : w.grownBy (w.setCell ⟨b, o, none⟩ u) (some b) := grownBy_setCells b [u] o w
end Go.Proofs.Ytpgiladbljnpcaa
