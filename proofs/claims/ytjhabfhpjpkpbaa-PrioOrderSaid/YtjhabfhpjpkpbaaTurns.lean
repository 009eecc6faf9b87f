/-
  gangerlaw12.PrioTurns: the walk.
-/
import Derived.Test.YtjhabfhpjpkpbaaAskArgs
import Derived.Test.YtjhabfhpjpkpbaaPrioKnown
namespace Go.Proofs.Ytjhabfhpjpkpbaa
open Go.ChangeShapes Go.WideShapes Go.ChangeAt Go.RowKit Go.Lib Go.Sort Go.Maps
set_option linter.unusedVariables false
attribute [local go_sem ↓] key_eql key_neq key_grd

/-- The jobs, turned: from the k-th on, then the others. -/
def rotA (l : List AskS) (k : Nat) : List AskS := l.drop k ++ l.take k
theorem rotA_perm (l : List AskS) (k : Nat) : (rotA l k).Perm l := by
  unfold rotA
  exact List.perm_append_comm.trans (by rw [List.take_append_drop])
theorem rotA_len (l : List AskS) (k : Nat) : (rotA l k).length = l.length := (rotA_perm l k).length_eq
theorem rotA_at (l : List AskS) (k j : Nat) (hk : k < l.length) (hj : j < l.length) : aAt (rotA l k) j = aAt l ((j + k) % l.length) := by
  unfold aAt rotA
  rw [List.getD_eq_getElem?_getD, List.getD_eq_getElem?_getD, List.getElem?_append]
  congr 1
  by_cases h : j < l.length - k
  · rw [if_pos (by simpa using h), List.getElem?_drop, Nat.mod_eq_of_lt (by omega), Nat.add_comm]
  · rw [if_neg (by simpa using h), List.length_drop]
    have e : (j + k) % l.length = j - (l.length - k) := by
      rw [show j + k = (j - (l.length - k)) + l.length by omega, Nat.add_mod_right, Nat.mod_eq_of_lt (by omega)]
    rw [e, List.getElem?_take_of_lt (by omega)]
theorem allB_perm {W : WtS} {now all : Int} {l m : List AskS} (h : l.Perm m) : allB W now all l = allB W now all m := by
  unfold allB
  rw [Bool.eq_iff_iff, List.all_eq_true, List.all_eq_true]
  exact ⟨fun hh x hx => hh x (h.mem_iff.2 hx), fun hh x hx => hh x (h.mem_iff.1 hx)⟩
theorem twice_perm {xs ys : List Key} (h : xs.Perm ys) : twiceB xs = twiceB ys := by
  unfold twiceB
  congr 1
  rw [decide_eq_decide]
  exact h.pairwise_iff fun {a b} hh e => hh e.symm
theorem sortK_of_perm {xs ys : List Key} (h : xs.Perm ys) : sortK xs = sortK ys := sortK_eq ((sortK_perm xs).trans h) (sortK_sorted xs)
theorem keysE_perm {W : WtS} {now all : Int} {l m : List AskS} (h : l.Perm m) : keysE W now all l = keysE W now all m := by
  unfold keysE; rw [allB_perm h, twice_perm (show (keysR W now all l).Perm (keysR W now all m) from h.map _)]
theorem keysL_perm {W : WtS} {now all : Int} {l m : List AskS} (h : l.Perm m) : keysL W now all l = keysL W now all m := by
  unfold keysL; rw [keysE_perm h, sortK_of_perm (show (keysR W now all l).Perm (keysR W now all m) from h.map _)]
theorem keysE_zero {W : WtS} {now all : Int} {l : List AskS} (h : keysE W now all l = 0) : allB W now all l = true ∧ twiceB (keysR W now all l) = false := by
  unfold keysE at h
  cases ha : allB W now all l
  · rw [ha] at h; simp at h
  · cases ht : twiceB (keysR W now all l)
    · exact ⟨rfl, rfl⟩
    · rw [ha, ht] at h; simp at h
theorem pE_zero {W : WtS} {now all : Int} {l : List AskS} (h : keysE W now all l = 0) {j : Nat} (hj : j < l.length) : pE W now all (aAt l j) = 0 := by
  have := List.all_eq_true.1 (keysE_zero h).1 _ (aAt_mem hj)
  simpa using this
/-- Each job's key stands once among the ranked keys. -/
theorem once {W : WtS} {now all : Int} {l : List AskS} (h : keysE W now all l = 0) {j : Nat} (hj : j < l.length) : (keysL W now all l).count (keyOf W now all (aAt l j)) = 1 := by
  have ht := ids_of_twice (keysE_zero h).2
  have e : keysL W now all l = sortK (keysR W now all l) := by unfold keysL; rw [if_pos h]
  rw [e, (sortK_perm _).count_eq]
  have hn : (keysR W now all l).Nodup := by
    unfold idsOk at ht
    exact ht.imp fun {a b} hh e => hh (by rw [e])
  have hm : keyOf W now all (aAt l j) ∈ keysR W now all l := List.mem_map.2 ⟨_, aAt_mem hj, rfl⟩
  have h1 := List.nodup_iff_count.1 hn (keyOf W now all (aAt l j))
  have h2 := List.count_pos_iff.2 hm
  omega
theorem count_snoc (xs : List Key) (x : Key) (k : Nat) (h : k < xs.length) : (xs.take (k + 1)).count x = (xs.take k).count x + if at_ xs k = x then 1 else 0 := by
  rw [List.take_add_one, at_get h, List.count_append]
  simp [List.count_singleton]
theorem flatA_snoc (l : List AskS) (k : Nat) (h : k < l.length) : flatA (l.take (k + 1)) = flatA (l.take k) ++ encA (aAt l k) := by
  rw [List.take_add_one, aAt_get h, flatA_append]; simp [flatA]
theorem news_ask {w : World} {b : Nat} {x : AskS} {t : TypeId} (h : Blk w b #[.int .u32 x.id, .int .i64 x.since, .int .i64 x.size, .int .i64 x.nice, .int .i64 x.qos, .int .i64 x.part, .int .i64 x.factor] t) : ∀ j u, (encA x)[j]? = some u → w.cell? ((⟨b, 0, none⟩ : Addr).add j) = some u :=
  news_blk (cs := encA x) h

theorem turn_of (turn : Int) (n : Nat) (h0 : 0 < n) (hn : n ≤ 100) : ∃ k : Nat, wrap64 ((IntKind.u64.wrap turn).tmod n) = k ∧ k < n := by
  have hu : 0 ≤ IntKind.u64.wrap turn := by simp [IntKind.wrap, IntKind.bits, IntKind.signed]; omega
  generalize IntKind.u64.wrap turn = u at *
  rw [Int.tmod_eq_emod_of_nonneg hu]
  have h1 := Int.emod_nonneg u (show (n : Int) ≠ 0 by omega)
  have h2 := Int.emod_lt_of_pos u (show (0 : Int) < n by omega)
  refine ⟨(u % n).toNat, ?_, by omega⟩
  generalize u % (n : Int) = x at *
  unfold wrap64; omega

set_option maxRecDepth 100000 in
set_option maxHeartbeats 4000000 in
theorem turns_row (f a s q p : Int) (b off c : Nat) (l : List AskS) (now all turn : Int) (w : World) (h0 : 0 < l.length) (hc1 : l.length ≤ c) (hc2 : c ≤ maxLen) (hc : ACells w b off l) (hok : ∀ x ∈ l, AskOk x) (h : ¬ 100 < l.length) (hnow : I64 now) (hall : I64 all) :
    Calls Try.prog 9 #[.agg #[.int .i64 f, .int .i64 a, .int .i64 s, .int .i64 q, .int .i64 p], .slice (some ⟨b, off, none⟩) l.length c, .int .i64 now, .int .i64 all, .int .i64 turn] w fun e w' => e = .returned (.bool true) ∧ Below w.heap.size w w' := by
  obtain ⟨i0, hi, hz0, hz1, hz2⟩ := info_parts Try.infoAsk
  have hn : l.length ≤ 100 := by omega
  have t : decide ((l.length : Int) > 100) = false := decide_eq_false (by omega)
  have t' : decide (100 < l.length) = false := decide_eq_false h
  have t0 : (l.length == 0) = false := beq_eq_false_iff_ne.2 (by omega)
  have t1 : ((l.length : Int) == 0) = false := beq_eq_false_iff_ne.2 (by omega)
  obtain ⟨k, hk, hkn⟩ := turn_of turn l.length h0 hn
  have HM : Hid (rotA l k = rotA l k) := rfl
  have KL : Hid (∀ v w1, ARow w1 v l → Calls Try.prog 19 #[.agg #[.int .i64 f, .int .i64 a, .int .i64 s, .int .i64 q, .int .i64 p], v, .int .i64 now, .int .i64 all] w1 fun e w' => ∃ v', e = .returned (.tuple #[v', .int .i64 (keysE ⟨f, a, s, q, p⟩ now all l)]) ∧ KRow w' v' (keysL ⟨f, a, s, q, p⟩ now all l) ∧ Below w1.heap.size w1 w') :=
    fun v w1 hv => keys_any v ⟨f, a, s, q, p⟩ l now all w1 (by omega) hnow hall hok hv
  have KM : Hid (∀ v w1, ARow w1 v (rotA l k) → Calls Try.prog 19 #[.agg #[.int .i64 f, .int .i64 a, .int .i64 s, .int .i64 q, .int .i64 p], v, .int .i64 now, .int .i64 all] w1 fun e w' => ∃ v', e = .returned (.tuple #[v', .int .i64 (keysE ⟨f, a, s, q, p⟩ now all l)]) ∧ KRow w' v' (keysL ⟨f, a, s, q, p⟩ now all l) ∧ Below w1.heap.size w1 w') := by
    intro v w1 hv
    have := keys_any v ⟨f, a, s, q, p⟩ (rotA l k) now all w1 (by rw [rotA_len]; omega) hnow hall (fun x hx => hok x ((rotA_perm l k).mem_iff.1 hx)) hv
    rw [keysE_perm (rotA_perm l k), keysL_perm (rotA_perm l k)] at this; exact this
  have PR : Hid (∀ j, j < l.length → ∀ w, Calls Try.prog 17 #[.agg #[.int .i64 f, .int .i64 a, .int .i64 s, .int .i64 q, .int .i64 p], .agg (encA (aAt l j)).toArray, .int .i64 now, .int .i64 all] w
      fun e w' => e = .returned (.tuple #[.int .i64 (keyOf ⟨f, a, s, q, p⟩ now all (aAt l j)).1, .int .i64 (pE ⟨f, a, s, q, p⟩ now all (aAt l j))]) ∧ Below w.heap.size w w') := fun j hj w => prio_ask ⟨f, a, s, q, p⟩ now all hnow hall _ (hok _ (aAt_mem hj)) w
  have PZ : Hid (keysE ⟨f, a, s, q, p⟩ now all l = 0 → ∀ j, j < l.length → pE ⟨f, a, s, q, p⟩ now all (aAt l j) = 0) := fun h j hj => pE_zero h hj
  have PO : Hid (keysE ⟨f, a, s, q, p⟩ now all l = 0 → ∀ j, j < l.length → (keysL ⟨f, a, s, q, p⟩ now all l).count (keyOf ⟨f, a, s, q, p⟩ now all (aAt l j)) = 1) := fun h j hj => once h hj
  have hKL : Hid (keysE ⟨f, a, s, q, p⟩ now all l = 0 → (keysL ⟨f, a, s, q, p⟩ now all l).length = l.length) := fun h => by
    unfold keysL; rw [if_pos h, (sortK_perm _).length_eq]; simp [keysR]
  have hKB : Hid (keysE ⟨f, a, s, q, p⟩ now all l ≠ 0 → keysL ⟨f, a, s, q, p⟩ now all l = []) := keysL_bad
  have hKN : Hid ((keysL ⟨f, a, s, q, p⟩ now all l).length ≤ 1048576) := by
    unfold Hid keysL; split
    · rw [(sortK_perm _).length_eq]; simp [keysR]; omega
    · simp
  have KO : Hid (∀ x : AskS, (keyOf ⟨f, a, s, q, p⟩ now all x).2.1 = x.since ∧ (keyOf ⟨f, a, s, q, p⟩ now all x).2.2 = x.id) := fun x => ⟨rfl, rfl⟩
  have HC := Lib.hid hc
  have HS : Hid (∀ j, j < l.length → flatA ((rotA l k).take (j + 1)) = flatA ((rotA l k).take j) ++ encA (aAt l ((j + k) % l.length))) := fun j hj => by
    rw [flatA_snoc _ j (by rw [rotA_len]; exact hj), rotA_at l k j hkn hj]
  have HT : Hid ((rotA l k).take l.length = rotA l k) := by unfold Hid; rw [List.take_of_length_le (by rw [rotA_len]; exact Nat.le_refl _)]
  have HR : Hid (∀ base v w1, w1.ownsRow base 29 7 v l.length (flatA (rotA l k)) → ARow w1 v (rotA l k)) := fun base v w1 ho => arow_of_owns (rotA_len l k).symm ho
  have HA0 : Hid (∀ w1, Below w.heap.size w w1 → ARow w1 (.slice (some ⟨b, off, none⟩) l.length c) l) := fun w1 hb => .inr ⟨b, off, c, rfl, h0, hc1, hc2, hc.kept hb⟩
  unfold encA at PR
  clear hc hok h hnow hall hc1 hc2
  generalize keysE ⟨f, a, s, q, p⟩ now all l = ke at *
  generalize keysL ⟨f, a, s, q, p⟩ now all l = kl at *
  generalize rotA l k = mm at *
  go_enter Try.func9, Try.ntmps9
  go_wp2_with fail
  clear hk
  go_loopw [11, 13] (fun m i wr => ∃ j : Nat, j ≤ l.length ∧ i = .int .i64 j ∧ wr.ownsRow (w.heap.size + 1) 29 7 m j (flatA (mm.take j)) ∧ Blk wr w.heap.size #[.int .i64 f, .int .i64 a, .int .i64 s, .int .i64 q, .int .i64 p] 26 ∧ Below w.heap.size w wr) (fun _ i _ => l.length - (intOf i).toNat)
  case atStart => exact ⟨0, Nat.zero_le _, rfl, World.ownsRow_nil _ _ _ _, Blk.new _ _ _, (Below.refl _ _).alloc (Nat.le_refl _) _⟩
  case round =>
    obtain ⟨j, hj, rfl, hown, hwb, hB⟩ := hrel
    have HO := Lib.hid hown
    have HWB := Lib.hid hwb
    have HB := Lib.hid hB
    clear hown hwb hB
    by_cases hlt : j < l.length
    · have hlt' : decide (j < l.length) = true := decide_eq_true hlt
      have hlt2 : (j : Int) < l.length := by omega
      have HS1 := Lib.hid (HS.out j hlt)
      obtain ⟨r, hr⟩ : ∃ r, r = (j + k) % l.length := ⟨_, rfl⟩
      have hrn : r < l.length := by rw [hr]; exact Nat.mod_lt _ (by omega)
      have e1 : ((j : Int) + (k : Int)) % (l.length : Int) = (r : Int) := by rw [hr]; simp
      have e2 : ((j : Int) + (k : Int)).tmod (l.length : Int) = (r : Int) := by rw [Int.tmod_eq_emod_of_nonneg (by omega)]; exact e1
      rw [← hr] at HS1
      clear hr
      have hrn2 : (r : Int) < l.length := by omega
      obtain ⟨c0, c1, c2, c3, c4, c5, c6⟩ := (HC.out.kept HB.out).2 r hrn
      generalize aAt l r = x at *
      go_wp2_with (at_builtin; refine wpList_append_own _ rfl _ _ 36 rfl (w.heap.size + 1) 29 i0 _ 7 56 Try.underlying36 hi hz0 hz1 hz2 rfl (by decide) _ j _ rfl (World.ownsRow.alloc HO.out _) ⟨wr.heap.size, 0, none⟩ 1 1 (encA x) rfl rfl (news_ask (Blk.new _ _ _)) (encA_one x) (by unfold maxLen; omega) (by omega) (by have := HWB.out.lt; simp; omega) ?_; intro v4 w4 hown4 hgrow4 _)
      go_roundw
      case rel =>
        have hz := HWB.out.lt
        refine ⟨j + 1, hlt, by go_num, by rw [HS1.out]; exact hown4, (HWB.out.old _).grown hgrow4 (fun e => ?_), (HB.out.alloc HB.out.size _).grown hgrow4 (by simp; omega) (fun i hi' => ?_)⟩
        · have := (HO.out.lt w.heap.size e.symm).1; omega
        · have := (HO.out.lt i hi').1; omega
      case measure => simp [intOf]; omega
    · obtain rfl : j = l.length := by omega
      have hlt' : decide (l.length < l.length) = false := decide_eq_false (by omega)
      have RM := Lib.hid (HR.out (w.heap.size + 1) _ _ (by have := HO.out; rw [HT.out] at this; exact this))
      clear HO HR HT HS
      have g0 := HWB.out.cell 0; simp at g0
      have g1 := HWB.out.cell 1; simp at g1
      have g2 := HWB.out.cell 2; simp at g2
      have g3 := HWB.out.cell 3; simp at g3
      have g4 := HWB.out.cell 4; simp at g4
      go_wp2_with fail
      refine (KL.out _ _ (HA0.out _ HB.out)).mono ?_; rintro e w2 ⟨x2, rfl, hx2, b2⟩
      have KX2 := Lib.hid hx2
      have X2 := Lib.hid (HWB.out.kept b2)
      have R2 := Lib.hid (RM.out.kept b2)
      have B2 := Lib.hid (below_next b2 HB.out)
      clear hx2 b2 g0 g1 g2 g3 g4 HWB RM HB
      have g0 := X2.out.cell 0; simp at g0
      have g1 := X2.out.cell 1; simp at g1
      have g2 := X2.out.cell 2; simp at g2
      have g3 := X2.out.cell 3; simp at g3
      have g4 := X2.out.cell 4; simp at g4
      go_wp2_with fail
      refine (KM.out _ _ R2.out).mono ?_; rintro e w3 ⟨y3, rfl, hy3, b3⟩
      have KY3 := Lib.hid hy3
      have KX3 := Lib.hid (KX2.out.kept b3)
      have X3 := Lib.hid (X2.out.kept b3)
      have B3 := Lib.hid (below_next b3 B2.out)
      clear hy3 b3 g0 g1 g2 g3 g4 X2 R2 B2 KX2 KL KM
      have HSa : Hid (Calls Try.prog 23 #[x2, y3] w3 fun e w' => e = .returned (.bool true) ∧ Below w3.heap.size w3 w') := by
        have := same_any x2 y3 kl kl w3 hKN.out hKN.out KX3.out KY3.out
        rw [decide_eq_true rfl] at this; exact this
      by_cases hke : ke = 0
      · have PZ1 := Lib.hid (PZ.out hke)
        have PO1 := Lib.hid (PO.out hke)
        have KN1 := Lib.hid (hKL.out hke)
        subst hke
        clear PZ PO hKL hKB
        obtain ⟨bk, ok, ck, rfl, hck, hkc⟩ : ∃ b off c, x2 = .slice (some ⟨b, off, none⟩) l.length c ∧ l.length ≤ 9223372036854775807 ∧ KCells w3 b off kl := by
          rcases KX3.out with ⟨hh, _⟩ | ⟨b, off, c, hv, _, h1, h2, hc⟩
          · have := KN1.out; rw [hh] at this; simp at this; omega
          · exact ⟨b, off, c, by rw [hv, KN1.out], by omega, hc⟩
        have KC := Lib.hid hkc
        clear hkc KX3 KY3
        have tl : ((l.length : Int) == (l.length : Int)) = true := by simp
        have tl' : (l.length == l.length) = true := by simp
        go_wp2_with fail
        refine HSa.out.mono ?_; rintro e w4 ⟨rfl, b4⟩
        have X4 := Lib.hid (X3.out.kept b4)
        have B4 := Lib.hid (below_next b4 B3.out)
        have C4 := Lib.hid (KC.out.kept b4)
        clear b4 X3 B3 KC HSa
        go_wp2_with fail
        go_loopw [18] (fun i wr => ∃ j : Nat, j ≤ l.length ∧ i = .int .i64 j ∧ Below w4.heap.size w4 wr) (fun i _ => l.length - (intOf i).toNat)
        case atStart => exact ⟨0, Nat.zero_le _, rfl, Below.refl _ _⟩
        case round =>
          obtain ⟨j, hj, rfl, hB⟩ := hrel
          have HB2 := Lib.hid hB
          clear hB
          by_cases hlt : j < l.length
          · have hlt' : decide (j < l.length) = true := decide_eq_true hlt
            have hlt2 : (j : Int) < l.length := by omega
            have HP1 := Lib.hid (PR.out j hlt)
            rw [PZ1.out j hlt] at HP1
            have HO1 := Lib.hid (PO1.out j hlt)
            have hx2 := X4.out.kept HB2.out
            have g0 := hx2.cell 0; simp at g0
            have g1 := hx2.cell 1; simp at g1
            have g2 := hx2.cell 2; simp at g2
            have g3 := hx2.cell 3; simp at g3
            have g4 := hx2.cell 4; simp at g4
            obtain ⟨c0, c1, c2, c3, c4, c5, c6⟩ := (HC.out.kept (below_next HB2.out B4.out)).2 j hlt
            obtain ⟨x, hx⟩ : ∃ x, x = aAt l j := ⟨_, rfl⟩
            rw [← hx] at HP1 HO1 c0 c1 c2 c3 c4 c5 c6
            obtain ⟨ko1, ko2⟩ := KO.out x
            obtain ⟨ky, hky⟩ : ∃ y, y = keyOf ⟨f, a, s, q, p⟩ now all x := ⟨_, rfl⟩
            rw [← hky] at HP1 HO1 ko1 ko2
            have KO1 := Lib.hid ko1
            have KO2 := Lib.hid ko2
            clear hx hx2 ko1 ko2 hky
            go_wp2_with fail
            go_region_held3 (fun w' => w'.cell? ⟨w.heap.size, 0, none⟩ = some (.int .i64 f) ∧ w'.cell? ⟨w.heap.size, 1, none⟩ = some (.int .i64 a) ∧ w'.cell? ⟨w.heap.size, 2, none⟩ = some (.int .i64 s) ∧ w'.cell? ⟨w.heap.size, 3, none⟩ = some (.int .i64 q) ∧ w'.cell? ⟨w.heap.size, 4, none⟩ = some (.int .i64 p) ∧ w'.cell? ⟨b, off + j * 7, none⟩ = some (.int .u32 x.id) ∧ w'.cell? ⟨b, off + j * 7 + 1, none⟩ = some (.int .i64 x.since) ∧ w'.cell? ⟨b, off + j * 7 + 2, none⟩ = some (.int .i64 x.size) ∧ w'.cell? ⟨b, off + j * 7 + 3, none⟩ = some (.int .i64 x.nice) ∧ w'.cell? ⟨b, off + j * 7 + 4, none⟩ = some (.int .i64 x.qos) ∧ w'.cell? ⟨b, off + j * 7 + 5, none⟩ = some (.int .i64 x.part) ∧ w'.cell? ⟨b, off + j * 7 + 6, none⟩ = some (.int .i64 x.factor) ∧ Below wr.heap.size wr w')
              (first
                | exact ⟨g0, g1, g2, g3, g4, c0, c1, c2, c3, c4, c5, c6, (Below.refl _ _).drew⟩
                | (rcases ‹_ ∧ _ ∧ _ ∧ _ ∧ _ ∧ _ ∧ _ ∧ _ ∧ _ ∧ _ ∧ _ ∧ _ ∧ Below _ _ _› with ⟨q0, q1, q2, q3, q4, q5, q6, q7, q8, q9, q10, q11, q12⟩; exact ⟨cell_next (by assumption) q0, cell_next (by assumption) q1, cell_next (by assumption) q2, cell_next (by assumption) q3, cell_next (by assumption) q4, cell_next (by assumption) q5, cell_next (by assumption) q6, cell_next (by assumption) q7, cell_next (by assumption) q8, cell_next (by assumption) q9, cell_next (by assumption) q10, cell_next (by assumption) q11, below_next (by assumption) q12⟩))
              (first
                | (go_at_call 17; ((with_reducible refine (HP1.out _).mono ?_); rintro e w5 ⟨rfl, b5⟩)))
            rcases ‹_ ∧ _ ∧ _ ∧ _ ∧ _ ∧ _ ∧ _ ∧ _ ∧ _ ∧ _ ∧ _ ∧ _ ∧ Below _ _ _› with ⟨_, _, _, _, _, y0, y1, _, _, _, _, _, b5'⟩
            have B5 : Hid (Below w4.heap.size w4 w5) := below_next b5' HB2.out
            clear c0 c1 c2 c3 c4 c5 c6 g0 g1 g2 g3 g4 b5' b5
            go_wp2_with fail
            go_loopw [21, 22] (fun n i wr => ∃ m : Nat, m ≤ l.length ∧ i = .int .i64 m ∧ n = .int .i64 ((kl.take m).count ky : Nat) ∧ (kl.take m).count ky ≤ m ∧ Below w5.heap.size w5 wr) (fun _ i _ => l.length - (intOf i).toNat)
            case atStart => exact ⟨0, Nat.zero_le _, rfl, rfl, Nat.le_refl _, Below.refl _ _⟩
            case round =>
              obtain ⟨m, hm, rfl, rfl, hle, hB3⟩ := hrel
              have HB3 := Lib.hid hB3
              clear hB3
              by_cases hmt : m < l.length
              · have hmt' : decide (m < l.length) = true := decide_eq_true hmt
                have hmt2 : (m : Int) < l.length := by omega
                obtain ⟨d0, d1, d2⟩ := C4.out.at (below_next HB3.out B5.out) (show m < kl.length by rw [KN1.out]; exact hmt)
                have z0 := cell_next HB3.out y0
                have z1 := cell_next HB3.out y1
                have HCS := Lib.hid (count_snoc kl ky m (by rw [KN1.out]; exact hmt))
                obtain ⟨kk, hkk⟩ : ∃ y, y = at_ kl m := ⟨_, rfl⟩
                rw [← hkk] at HCS
                rw [← hkk] at d0 d1 d2
                clear hkk
                have HQ : Hid (keqB kk.1 kk.2.1 kk.2.2 ky.1 x.since x.id = decide (kk = ky)) := by
                  unfold Hid keqB
                  rw [← KO1.out, ← KO2.out]
                cases hq : keqB kk.1 kk.2.1 kk.2.2 ky.1 x.since x.id
                · have E : Hid ((kl.take (m + 1)).count ky = (kl.take m).count ky) := by
                    rw [HCS.out, if_neg (by have := HQ.out; rw [hq] at this; simpa using this.symm)]; rfl
                  generalize (kl.take m).count ky = cn at *
                  go_wp2_with fail
                  go_quiet (fail)
                  go_wp2_with fail
                  go_roundw
                  case rel => exact ⟨m + 1, hmt, by go_num, by rw [E.out], by rw [E.out]; omega, below_drewN HB3.out _⟩
                  case measure => simp [intOf]; omega
                · have E : Hid ((kl.take (m + 1)).count ky = (kl.take m).count ky + 1) := by
                    rw [HCS.out, if_pos (by have := HQ.out; rw [hq] at this; simpa using this.symm)]; rfl
                  generalize (kl.take m).count ky = cn at *
                  go_wp2_with fail
                  go_quiet (fail)
                  go_wp2_with fail
                  go_roundw
                  case rel => exact ⟨m + 1, hmt, by go_num, by rw [E.out]; go_num, by rw [E.out]; omega, below_drewN HB3.out _⟩
                  case measure => simp [intOf]; omega
              · obtain rfl : m = l.length := by omega
                have hmt' : decide (l.length < l.length) = false := decide_eq_false (by omega)
                have E : (kl.take l.length).count ky = 1 := by
                  rw [List.take_of_length_le (by rw [KN1.out]; exact Nat.le_refl _)]; exact HO1.out
                rw [E]
                clear E hle
                go_wp2_with fail
                go_roundw
                case rel => exact ⟨j + 1, hlt, by go_num, below_next HB3.out B5.out⟩
                case measure => simp [intOf]; omega
          · obtain rfl : j = l.length := by omega
            have hlt' : decide (l.length < l.length) = false := decide_eq_false (by omega)
            go_wp2_with fail
            refine (known12_any _).mono ?_; rintro e w7 ⟨rfl, b7⟩
            go_wp2_with fail
            go_ret
            exact ⟨rfl, below_next b7 (below_next HB2.out B4.out)⟩
      · have hkl := hKB.out hke
        have tk : (ke == 0) = false := by simpa using hke
        have tk' : (ke != 0) = true := by simpa using hke
        subst hkl
        obtain ⟨xa, xc, rfl⟩ : ∃ a c, x2 = .slice a 0 c := by
          rcases KX3.out with ⟨_, a, c, hv, _⟩ | ⟨b, off, c, hv, hh, _⟩
          · exact ⟨a, c, hv⟩
          · simp at hh
        clear hke PZ PO hKL hKB KX3 KY3
        go_wp2_with fail
        refine HSa.out.mono ?_; rintro e w4 ⟨rfl, b4⟩
        go_wp2_with fail
        refine (known12_any _).mono ?_; rintro e w5 ⟨rfl, b5⟩
        go_wp2_with fail
        go_ret
        exact ⟨rfl, below_next b5 (below_next b4 B3.out)⟩
end Go.Proofs.Ytjhabfhpjpkpbaa
