/-
  RankBack: sorted, put one by one, dropped: so the law returns true for every input.
-/
import Derived.Test.YtpgiladbljnpcaaKeyArgs
import Derived.Test.YtpgiladbljnpcaaKeyPR
import Derived.Test.YtpgiladbljnpcaaKeyBack
import Derived.Test.YtpgiladbljnpcaaRows
import Derived.Test.YtpgiladbljnpcaaArgs2
namespace Go.Proofs.Ytpgiladbljnpcaa.rankBack
open Go.ChangeShapes Go.WideShapes Go.ChangeAt Go.RowKit
set_option linter.unusedVariables false

theorem own : ownKnob Try.prog.godebug = none := by kernel_rfl

open Go.ChangeShapes Go.WideShapes Go.ChangeAt Go.RowKit Go.Lib Go.Sort
attribute [local go_sem ↓] key_eql key_neq key_grd
theorem long (a : Option Addr) (n c : Nat) (turn kp kt ki : Int) (w : World) (h : 60 < n) (hm : n ≤ maxLen) :
    Calls Try.prog 7 #[.slice a n c, .int .i64 turn, .agg #[.int .i64 kp, .int .i64 kt, .int .u32 ki]] w fun e w' => e = .returned (.bool true) ∧ Below w.heap.size w w' := by
  have t : decide (60 < n) = true := decide_eq_true h
  have t2 : decide ((n : Int) > 60) = true := decide_eq_true (by omega)
  clear h hm
  go_enter Try.func7, Try.ntmps7
  go_wp2_with fail
  refine (known3_any _).mono ?_; rintro e w2 ⟨rfl, b2⟩
  go_wp2_with fail
  go_ret
  exact ⟨rfl, below_next b2 ((Below.refl _ _).alloc (Nat.le_refl _) _)⟩

set_option maxRecDepth 100000 in
set_option maxHeartbeats 1000000 in
theorem twice (a : Option Addr) (c : Nat) (xs : List Key) (turn kp kt ki : Int) (w : World) (hk : KRow w (.slice a xs.length c) xs) (hok : ∀ x ∈ xs, KeyOk x) (h : ¬ 60 < xs.length) (ht : twiceB xs = true) :
    Calls Try.prog 7 #[.slice a xs.length c, .int .i64 turn, .agg #[.int .i64 kp, .int .i64 kt, .int .u32 ki]] w fun e w' => e = .returned (.bool true) ∧ Below w.heap.size w w' := by
  have HS : Hid (∀ w1, Below w.heap.size w w1 → Calls Try.prog 16 #[.slice a xs.length c] w1 fun e w' => e = .returned (.tuple #[.slice none 0 0, .int .i64 30]) ∧ Below w1.heap.size w1 w') := fun w1 hb => sort_twice _ xs w1 (by omega) (fun x hx => (hok x hx).2.2) (hk.kept hb) ht
  have t : decide (60 < xs.length) = false := decide_eq_false h
  have t2 : decide ((xs.length : Int) > 60) = false := decide_eq_false (by omega)
  clear hk hok h ht
  generalize xs.length = n at *
  go_enter Try.func7, Try.ntmps7
  go_wp2_with fail
  refine (HS.out _ ((Below.refl _ _).alloc (Nat.le_refl _) _)).mono ?_; rintro e w1 ⟨rfl, b1⟩
  have B1 := Lib.hid (below_next b1 ((Below.refl _ _).alloc (Nat.le_refl _) _))
  clear b1
  go_wp2_with fail
  refine (known3_any _).mono ?_; rintro e w2 ⟨rfl, b2⟩
  go_wp2_with fail
  go_ret
  exact ⟨rfl, below_next b2 B1.out⟩

theorem krow_pos {w : World} {a : Option Addr} {n c : Nat} {xs : List Key} (h : KRow w (.slice a n c) xs) (h0 : 0 < xs.length) : ∃ b off, a = some ⟨b, off, none⟩ ∧ KCells w b off xs := by
  rcases h with ⟨rfl, _⟩ | ⟨b, off, c', hv, _, _, _, hc⟩
  · simp at h0
  · simp only [Value.slice.injEq] at hv
    exact ⟨b, off, hv.1, hc⟩

set_option maxRecDepth 100000 in
set_option maxHeartbeats 4000000 in
theorem once (a : Option Addr) (c : Nat) (xs : List Key) (turn kp kt ki : Int) (w : World) (hk : KRow w (.slice a xs.length c) xs) (hok : ∀ x ∈ xs, KeyOk x) (hkid : (Lit.int .u32 ki).wf = true) (h : ¬ 60 < xs.length) (ht : twiceB xs = false) :
    Calls Try.prog 7 #[.slice a xs.length c, .int .i64 turn, .agg #[.int .i64 kp, .int .i64 kt, .int .u32 ki]] w fun e w' => e = .returned (.bool true) ∧ Below w.heap.size w w' := by
  have hids := ids_of_twice ht
  have hn : xs.length ≤ 1048576 := by omega
  have hid : ∀ x ∈ xs, (Lit.int .u32 x.2.2).wf = true := fun x hx => (hok x hx).2.2
  have hln : ∀ ys : List Key, (sortK ys).length = ys.length := fun ys => (sortK_perm ys).length_eq
  have HS : Hid (∀ w1, Below w.heap.size w w1 → Calls Try.prog 16 #[.slice a xs.length c] w1 fun e w' => ∃ v', e = .returned (.tuple #[v', .int .i64 0]) ∧ w'.ownsRow w1.heap.size 24 3 v' xs.length (flatL (sortK xs)) ∧ Below w1.heap.size w1 w') :=
    fun w1 hb => sort_ok _ xs w1 hn hid (hk.kept hb) ht
  obtain ⟨U, T, hT⟩ : ∃ U T : Nat, 0 < xs.length → IntKind.u64.wrap turn = (U : Int) ∧ (U : Int) % (xs.length : Int) = (T : Int) ∧ T < xs.length ∧ (U : Int).tmod (xs.length : Int) = (T : Int) ∧ ¬ (xs.length : Int) = 0 := by
    rcases Nat.eq_zero_or_pos xs.length with h0 | h0
    · exact ⟨0, 0, fun h => by omega⟩
    · obtain ⟨U, K, h1, h2, h3, _, _, h4, _, _, _, h5⟩ := mod_pick turn xs.length h0 (by omega)
      exact ⟨U, K, fun _ => ⟨h1, h2, h3, h5, h4⟩⟩
  have HT := Lib.hid hT
  have PB : Hid (∀ j M b w1, j < xs.length → M = (j + T) % xs.length → KRow w1 b (sortK (rotL xs T j)) → Calls Try.prog 20 #[b, .agg #[.int .i64 (at_ xs M).1, .int .i64 (at_ xs M).2.1, .int .u32 (at_ xs M).2.2]] w1
      fun e w' => ∃ v', e = .returned (.tuple #[v', .int .i64 0]) ∧ KRow w' v' (sortK (rotL xs T (j + 1))) ∧ Below w1.heap.size w1 w') := by
    intro j M b w1 hj hM hb
    have hTl := (hT (by omega)).2.2.1
    have hs := rot_succ xs T j
    have hi := rot_ids hTl (show j + 1 ≤ xs.length by omega) hids
    rw [hs] at hi
    obtain ⟨e1, e2⟩ := put_sort hi
    have hsub : ∀ x ∈ sortK (rotL xs T j), (Lit.int .u32 x.2.2).wf = true := fun x hx => by
      have hx' := (sortK_perm _).mem_iff.1 hx
      unfold rotL at hx'
      obtain ⟨i, hi', rfl⟩ := List.mem_map.1 hx'
      have hlt : (i + T) % xs.length < xs.length := Nat.mod_lt _ (by omega)
      exact hid _ (by rw [← at_getElem hlt]; exact List.getElem_mem hlt)
    refine (put_any b _ (at_ xs M) w1 (by rw [hln, rot_len]; omega) hsub hb).mono ?_
    rintro e w' ⟨v', rfl, ho, hB⟩
    rw [hM, e1, e2, ← hs] at *
    exact ⟨v', rfl, krow_of_owns ho, hB⟩
  have hidS : ∀ x ∈ sortK xs, (Lit.int .u32 x.2.2).wf = true := fun x hx => hid x ((sortK_perm xs).mem_iff.1 hx)
  have PK1 : Hid (idsOk (xs ++ [(kp, kt, ki)]) → ∀ v w1, KRow w1 v (sortK xs) → Calls Try.prog 20 #[v, .agg #[.int .i64 kp, .int .i64 kt, .int .u32 ki]] w1
      fun e w' => ∃ v', e = .returned (.tuple #[v', .int .i64 0]) ∧ KRow w' v' (sortK (xs ++ [(kp, kt, ki)])) ∧ Below w1.heap.size w1 w') := by
    intro hi v w1 hv
    obtain ⟨e1, e2⟩ := put_sort hi
    refine (put_any v _ (kp, kt, ki) w1 (by rw [hln]; omega) hidS hv).mono ?_
    rintro e w' ⟨v', rfl, ho, hB⟩
    rw [e1, e2] at *
    exact ⟨v', rfl, krow_of_owns ho, hB⟩
  have PK2 : Hid (¬ idsOk (xs ++ [(kp, kt, ki)]) → ∀ v w1, KRow w1 v (sortK xs) → Calls Try.prog 20 #[v, .agg #[.int .i64 kp, .int .i64 kt, .int .u32 ki]] w1
      fun e w' => ∃ v', e = .returned (.tuple #[v', .int .i64 30]) ∧ Below w1.heap.size w1 w') := by
    intro hi v w1 hv
    have e1 := put_twice hids hi
    refine (put_any v _ (kp, kt, ki) w1 (by rw [hln]; omega) hidS hv).mono ?_
    rintro e w' ⟨v', rfl, ho, hB⟩
    rw [e1]
    exact ⟨v', rfl, hB⟩
  have PD : Hid (idsOk (xs ++ [(kp, kt, ki)]) → ∀ v w1, KRow w1 v (sortK (xs ++ [(kp, kt, ki)])) → Calls Try.prog 22 #[v, .int .u32 ki] w1
      fun e w' => ∃ v', e = .returned (.tuple #[v', .bool true]) ∧ KRow w' v' (sortK xs) ∧ Below w1.heap.size w1 w') := by
    intro hi v w1 hv
    obtain ⟨e1, e2⟩ := drop_back hi
    refine (drop_any v _ ki w1 (by rw [hln]; simp; omega) (fun x hx => ?_) hv).mono ?_
    · rcases List.mem_append.1 ((sortK_perm _).mem_iff.1 hx) with h1 | h1
      · exact hid x h1
      · rw [List.mem_singleton.1 h1]; exact hkid
    · rintro e w' ⟨v', rfl, ho, hB⟩
      rw [e1, e2] at *
      exact ⟨v', rfl, krow_of_owns ho, hB⟩
  have CK : Hid (∀ v w1, KRow w1 v (sortK xs) → Calls Try.prog 15 #[v] w1 fun e w' => e = .returned (.int .i64 0) ∧ Below w1.heap.size w1 w') := fun v w1 hv => by
    have := check_any v _ w1 (by rw [hln]; omega) hidS hv
    rw [check_sort hids] at this; exact this
  have SM : Hid (∀ v v' w1, KRow w1 v (sortK xs) → KRow w1 v' (sortK xs) → Calls Try.prog 19 #[v, v'] w1 fun e w' => e = .returned (.bool true) ∧ Below w1.heap.size w1 w') := fun v v' w1 h1 h2 => by
    have := same_any v v' _ _ w1 (by rw [hln]; omega) (by rw [hln]; omega) h1 h2
    rw [decide_eq_true rfl] at this; exact this
  have RS : Hid (sortK (rotL xs T xs.length) = sortK xs) := by
    rcases Nat.eq_zero_or_pos xs.length with h0 | h0
    · have : xs = [] := List.eq_nil_of_length_eq_zero h0
      subst this; rfl
    · exact rot_sort (hT h0).2.2.1
  have C1 : Hid (∀ i, i < xs.length → cntK (sortK xs) (at_ xs i) xs.length = 1) := fun i hi => by
    have := cnt_one hids hi; rw [hln] at this; exact this
  have C2 : Hid (∀ x j, j < xs.length → cntK (sortK xs) x (j + 1) = cntK (sortK xs) x j + (if keqB (at_ (sortK xs) j).1 (at_ (sortK xs) j).2.1 (at_ (sortK xs) j).2.2 x.1 x.2.1 x.2.2 then 1 else 0)) := fun x j hj => cnt_succ x (by rw [hln]; exact hj)
  have C3 : Hid (∀ x j, cntK (sortK xs) x j ≤ j) := fun x j => cnt_le _ x j
  have C0 : Hid (∀ x, cntK (sortK xs) x 0 = 0) := fun x => by simp [cntK]
  have HL : Hid (xs.length = (sortK xs).length) := (hln xs).symm
  have HK := Lib.hid hk
  have R0 : Hid (sortK (rotL xs T 0) = []) := List.eq_nil_of_length_eq_zero (by rw [hln, rot_len])
  have t : decide (60 < xs.length) = false := decide_eq_false h
  have t2 : decide ((xs.length : Int) > 60) = false := decide_eq_false (by omega)
  have h60 : xs.length ≤ 60 := by omega
  have tn : ((xs.length : Int) != (xs.length : Int)) = false := by simp
  have tn2 : (xs.length != xs.length) = false := by simp
  clear hk hok hkid ht hids hn hid hln hT hidS h
  generalize hss : sortK xs = ss at *
  clear hss
  go_enter Try.func7, Try.ntmps7
  go_wp2_with fail
  refine (HS.out _ ((Below.refl _ _).alloc (Nat.le_refl _) _)).mono ?_; rintro e w2 ⟨va, rfl, oa, b1⟩
  have B2 := Lib.hid (below_next b1 ((Below.refl _ _).alloc (Nat.le_refl _) _))
  have KB := Lib.hid ((Blk.new w #[.int .i64 kp, .int .i64 kt, .int .u32 ki] 24).kept b1)
  have KA := Lib.hid (krow_owned HL.out oa)
  obtain ⟨A, ca, rfl⟩ := owned_form oa
  clear b1 HS oa
  go_wp2_with fail
  go_loopw [9, 10] (fun b i wr => ∃ j : Nat, j ≤ xs.length ∧ i = .int .i64 j ∧ KRow wr b (sortK (rotL xs T j)) ∧ Below w2.heap.size w2 wr) (fun _ i _ => xs.length - (intOf i).toNat)
  case atStart => exact ⟨0, Nat.zero_le _, rfl, by rw [R0.out]; exact .inl ⟨rfl, none, 0, rfl, Nat.zero_le _⟩, Below.refl _ _⟩
  case round =>
    obtain ⟨j, hj, rfl, hkb, hB⟩ := hrel
    have HKB := Lib.hid hkb
    have HB := Lib.hid hB
    clear hkb hB
    by_cases hlt : j < xs.length
    · have hlt' : decide (j < xs.length) = true := decide_eq_true hlt
      have hlt2 : (j : Int) < xs.length := by omega
      obtain ⟨hU, hUT, hTl, hUt, hn0⟩ := HT.out (by omega)
      obtain ⟨M, hM⟩ : ∃ M, M = (j + T) % xs.length := ⟨_, rfl⟩
      have hMl : M < xs.length := by rw [hM]; exact Nat.mod_lt _ (by omega)
      have hMi : ((j : Int) + (T : Int)) % (xs.length : Int) = (M : Int) := by rw [hM]; simp
      have hMt : ((j : Int) + (T : Int)).tmod (xs.length : Int) = (M : Int) := by rw [Int.tmod_eq_emod_of_nonneg (by omega)]; exact hMi
      have PBj := Lib.hid (PB.out j M _ wr hlt hM HKB.out)
      obtain ⟨bb, off, rfl, hc⟩ := krow_pos HK.out (by omega)
      obtain ⟨c0, c1, c2⟩ := hc.at (below_next HB.out B2.out) hMl
      clear hM hc
      go_wp2_with fail
      refine PBj.out.mono ?_; rintro e w3 ⟨v3, rfl, hk3, b3⟩
      have K3 := Lib.hid hk3
      clear hk3
      go_wp2_with fail
      go_roundw
      case rel => exact ⟨j + 1, hlt, by go_num, K3.out, below_next b3 HB.out⟩
      case measure => simp [intOf]; omega
    · obtain rfl : j = xs.length := by omega
      have hlt' : decide (xs.length < xs.length) = false := decide_eq_false (by omega)
      rw [RS.out] at HKB
      have KA9 := Lib.hid (KA.out.kept HB.out)
      have KB9 := Lib.hid (KB.out.kept HB.out)
      have HK9 := Lib.hid (HK.out.kept (below_next HB.out B2.out))
      have B9 := Lib.hid (below_next HB.out B2.out)
      clear HT PB RS R0 HB KA KB HK B2
      obtain ⟨w9, hw9⟩ : ∃ w9, w9 = wr := ⟨_, rfl⟩
      subst hw9
      go_wp2_with fail
      go_loopw [13] (fun i wr => ∃ j : Nat, j ≤ xs.length ∧ i = .int .i64 j ∧ Below w9.heap.size w9 wr) (fun i _ => xs.length - (intOf i).toNat)
      case atStart => exact ⟨0, Nat.zero_le _, rfl, Below.refl _ _⟩
      case round =>
        obtain ⟨i, hi, rfl, hB⟩ := hrel
        have HB := Lib.hid hB
        clear hB
        by_cases hil : i < xs.length
        · have hil' : decide (i < xs.length) = true := decide_eq_true hil
          have hil2 : (i : Int) < xs.length := by omega
          obtain ⟨w10, hw10⟩ : ∃ w10, w10 = wr := ⟨_, rfl⟩
          subst hw10
          go_wp2_with fail
          go_loopw [14, 15] (fun m q wr => ∃ j : Nat, j ≤ xs.length ∧ q = .int .i64 j ∧ m = .int .i64 (cntK ss (at_ xs i) j : Nat) ∧ Below w10.heap.size w10 wr) (fun _ q _ => xs.length - (intOf q).toNat)
          case atStart => exact ⟨0, Nat.zero_le _, rfl, by rw [C0.out]; rfl, Below.refl _ _⟩
          case round =>
            obtain ⟨q, hq, rfl, hm, hB3⟩ := hrel
            have HB3 := Lib.hid hB3
            clear hB3
            have HM := Lib.hid hm
            clear hm
            by_cases hql : q < xs.length
            · have hql' : decide (q < xs.length) = true := decide_eq_true hql
              have hql2 : (q : Int) < xs.length := by omega
              have B13 := below_next (below_next HB3.out HB.out) (Below.refl _ w9)
              obtain ⟨bb, off, rfl, hc⟩ := krow_pos HK9.out (by omega)
              obtain ⟨ba, offa, rfl, hca⟩ := krow_pos KA9.out (by rw [← HL.out]; omega)
              obtain ⟨c0, c1, c2⟩ := hc.at B13 hil
              obtain ⟨d0, d1, d2⟩ := hca.at B13 (show q < ss.length by rw [← HL.out]; exact hql)
              have E := Lib.hid (C2.out (at_ xs i) q hql)
              have hN := C3.out (at_ xs i) q
              obtain ⟨x, hx⟩ : ∃ x, x = at_ xs i := ⟨_, rfl⟩
              obtain ⟨y, hy⟩ : ∃ y, y = at_ ss q := ⟨_, rfl⟩
              rw [← hx] at c0 c1 c2 E hN HM
              rw [← hy] at d0 d1 d2 E
              have HX := Lib.hid hx
              clear hx hy hc hca B13
              generalize cntK ss x q = N at *
              obtain rfl := HM.out
              cases hf : keqB y.1 y.2.1 y.2.2 x.1 x.2.1 x.2.2
              · rw [hf] at E
                go_wp2_with fail
                go_quiet (fail)
                go_wp2_with fail
                go_roundw
                case rel => exact ⟨q + 1, hql, by go_num, by rw [← HX.out, E.out]; rfl, below_drewN HB3.out _⟩
                case measure => simp [intOf]; omega
              · rw [hf] at E
                go_wp2_with fail
                go_quiet (fail)
                go_wp2_with fail
                go_roundw
                case rel => exact ⟨q + 1, hql, by go_num, by rw [← HX.out, E.out]; rfl, below_drewN HB3.out _⟩
                case measure => simp [intOf]; omega
            · obtain rfl : q = xs.length := by omega
              have hql' : decide (xs.length < xs.length) = false := decide_eq_false (by omega)
              have hm1 := HM.out
              rw [C1.out i hil] at hm1
              obtain rfl : _ = Value.int .i64 1 := hm1
              clear HM
              go_wp2_with fail
              go_roundw
              case rel => exact ⟨i + 1, hil, by go_num, below_next HB3.out HB.out⟩
              case measure => simp [intOf]; omega
        · obtain rfl : i = xs.length := by omega
          have hil' : decide (xs.length < xs.length) = false := decide_eq_false (by omega)
          have KA10 := Lib.hid (KA9.out.kept HB.out)
          have HKB10 := Lib.hid (HKB.out.kept HB.out)
          have KB10 := Lib.hid (KB9.out.kept HB.out)
          have B10 := Lib.hid (below_next HB.out B9.out)
          clear KA9 KB9 HK9 B9 HKB HB C0 C1 C2 C3
          obtain ⟨w10, hw10⟩ : ∃ w10, w10 = wr := ⟨_, rfl⟩
          subst hw10
          go_wp2_with fail
          refine (SM.out _ _ _ KA10.out HKB10.out).mono ?_; rintro e w11 ⟨rfl, b11⟩
          have KA11 := Lib.hid (KA10.out.kept b11)
          have KB11 := Lib.hid (KB10.out.kept b11)
          have B11 := Lib.hid (below_next b11 B10.out)
          clear b11 KA10 HKB10 KB10 B10
          go_wp2_with fail
          refine (CK.out _ _ KA11.out).mono ?_; rintro e w12 ⟨rfl, b12⟩
          have KA12 := Lib.hid (KA11.out.kept b12)
          have KB12 := Lib.hid (KB11.out.kept b12)
          have B12 := Lib.hid (below_next b12 B11.out)
          clear b12 KA11 KB11 B11 CK
          have d0 := KB12.out.cell 0; simp at d0
          have d1 := KB12.out.cell 1; simp at d1
          have d2 := KB12.out.cell 2; simp at d2
          by_cases hio : idsOk (xs ++ [(kp, kt, ki)])
          · have P1 := Lib.hid (PK1.out hio)
            have P2 := Lib.hid (PD.out hio)
            clear PK1 PK2 PD hio
            generalize sortK (xs ++ [(kp, kt, ki)]) = pp at *
            go_wp2_with fail
            refine (P1.out _ _ KA12.out).mono ?_; rintro e w13 ⟨vp, rfl, hp13, b13⟩
            have HP := Lib.hid hp13
            have KA13 := Lib.hid (KA12.out.kept b13)
            have KB13 := Lib.hid (KB12.out.kept b13)
            have B13 := Lib.hid (below_next b13 B12.out)
            clear hp13 b13 KA12 KB12 B12 d0 d1 d2
            have d2 := KB13.out.cell 2; simp at d2
            go_wp2_with fail
            refine (P2.out _ _ HP.out).mono ?_; rintro e w14 ⟨vq, rfl, hq14, b14⟩
            have HQ := Lib.hid hq14
            have KA14 := Lib.hid (KA13.out.kept b14)
            have B14 := Lib.hid (below_next b14 B13.out)
            clear hq14 b14 KA13 KB13 B13 d2
            go_wp2_with fail
            refine (SM.out _ _ _ HQ.out KA14.out).mono ?_; rintro e w15 ⟨rfl, b15⟩
            have B15 := Lib.hid (below_next b15 B14.out)
            clear b15
            go_wp2_with fail
            refine (known3_any _).mono ?_; rintro e w16 ⟨rfl, b16⟩
            go_wp2_with fail
            go_ret
            exact ⟨rfl, below_next b16 B15.out⟩
          · have P1 := Lib.hid (PK2.out hio)
            clear PK1 PK2 PD hio
            go_wp2_with fail
            refine (P1.out _ _ KA12.out).mono ?_; rintro e w13 ⟨vp, rfl, b13⟩
            have B13 := Lib.hid (below_next b13 B12.out)
            clear b13
            go_wp2_with fail
            refine (known3_any _).mono ?_; rintro e w16 ⟨rfl, b16⟩
            go_wp2_with fail
            go_ret
            exact ⟨rfl, below_next b16 B13.out⟩

theorem walk (v : Value) (xs : List Key) (turn kp kt ki : Int) (w : World) (w0 : KArg w v xs) (w1 : (Lit.int .i64 turn).wf = true) (w2_0 : (Lit.int .i64 kp).wf = true) (w2_1 : (Lit.int .i64 kt).wf = true) (w2_2 : (Lit.int .u32 ki).wf = true) :
    Calls Try.prog 7 #[v, .int .i64 turn, .agg #[.int .i64 kp, .int .i64 kt, .int .u32 ki]] w fun e w' => e = .returned (.bool true) ∧ Below w.heap.size w w' := by
  obtain ⟨hk, ⟨a, c, rfl⟩, hm, hok⟩ := w0
  by_cases h : 60 < xs.length
  · exact long a xs.length c turn kp kt ki w h hm
  · cases ht : twiceB xs
    · exact once a c xs turn kp kt ki w hk hok w2_2 h ht
    · exact twice a c xs turn kp kt ki w hk hok h ht


set_option maxRecDepth 100000 in
theorem lifted (os : Os) (started : os.Started) (H : Type) (enc : TypeId × Value → H) :
    ReturnsInHanded {} Try.checked os 7 .any (Rows.rankBackSpec.pre6 enc Try.prog Try.f7 Rows.rankBackRow.domain false) (Rows.rankBackSpec.post enc Try.prog Try.f7 false true false false) := by
  refine returnsInHanded_of_change (C := Try.checked) own started (by kernel_rfl) Try.func7
    (ChangeSpec.witness6 (enc := enc) (C := Try.checked) false ⟨#[], #[.slice none 0 0, .int .i64 0, .agg #[.int .i64 0, .int .i64 0, .int .u32 0]], []⟩ 8 (by kernel_rfl) (by kernel_rfl) (by kernel_rfl) (by kernel_rfl)) ?_
  intro W base args ds gs before hval0 hW _ _
  have hval : ∀ (j : Nat) t v, Try.f7.params[j]? = some t → args[j]? = some v → Value.okWide Try.prog W .any base t v := hval0
  have hW' := hW
  obtain ⟨p, q, hA0, hV, rfl, hfz, hnd⟩ := hW
  have hA : DataW.TrodAll enc Try.prog W 0 (fun _ => true) true Try.f7.params.toList args.toList ds p := hA0
  rw [Try.params7] at hA hval
  obtain ⟨v0, vs0, d0, ds0, p0, q0, hargs, rfl, rfl, h0, r0⟩ := trodAll_cons hA
  obtain ⟨v1, vs1, d1, ds1, p1, q1, rfl, rfl, rfl, h1, r1⟩ := trodAll_cons r0
  obtain ⟨v2, vs2, d2, ds2, p2, q2, rfl, rfl, rfl, h2, r2⟩ := trodAll_cons r1
  obtain ⟨rfl, rfl, rfl⟩ := trodAll_nil r2
  obtain rfl : args = #[v0, v1, v2] := by cases args; simp_all
  obtain ⟨l, w0⟩ := open_keys_arg h0 (okWide_slice Try.underlying28 (hval 0 28 v0 rfl rfl))
  obtain ⟨turn, rfl, rfl, rfl, w1⟩ := open_int Try.underlying3 (hval 1 3 v1 rfl rfl) h1
  obtain ⟨cs2, rfl, hs2, hf2⟩ := open_plain_struct Try.underlying24 (by kernel_rfl) (by kernel_rfl) (hval 2 24 v2 rfl rfl) h2
  obtain ⟨c2_0, y2_0, n2_0, e2_0, t2_0⟩ := hf2 0 _ rfl
  obtain ⟨kp, rfl, w2_0⟩ := field_int Try.underlying3 t2_0
  obtain ⟨c2_1, y2_1, n2_1, e2_1, t2_1⟩ := hf2 1 _ rfl
  obtain ⟨kt, rfl, w2_1⟩ := field_int Try.underlying3 t2_1
  obtain ⟨c2_2, y2_2, n2_2, e2_2, t2_2⟩ := hf2 2 _ rfl
  obtain ⟨ki, rfl, w2_2⟩ := field_int Try.underlying22 t2_2
  obtain rfl : cs2 = #[.int .i64 kp, .int .i64 kt, .int .u32 ki] := arr_of cs2 [.int .i64 kp, .int .i64 kt, .int .u32 ki] hs2 (fun j hj => by match j, hj with | 0, _ => exact e2_0 | 1, _ => exact e2_1 | 2, _ => exact e2_2 | j + 3, hj => exact absurd hj (by simp))
  clear hA0 hval0
  refine (walk v0 l turn kp kt ki W w0 w1 w2_0 w2_1 w2_2).mono fun e W' ⟨he, hb⟩ => ?_
  subst he
  exact ⟨_, rfl, law_post (by kernel_rfl) (by kernel_rfl) rfl Try.underlying4 rfl hW' rfl hb⟩

theorem over : Rows.rankBackRow.holds Try.pinned (OpenSpec.ofChange Rows.rankBackSpec) :=
  OpenClaim.holds_of_wide 7 Try.f7 rfl rfl rfl rfl rfl rfl rfl ⟨rfl, rfl, rfl, rfl, rfl⟩ rfl rfl rfl rfl rfl (by kernel_rfl) Try.func7 (by kernel_rfl)
    (of_decide_eq_true (by kernel_rfl)) (by unfold Func.isWrapper; first | (rw [if_pos (by decide +kernel)]; kernel_rfl) | (rw [if_neg (by decide +kernel)]; exact ⟨rfl, rfl⟩))
    (fun os started H enc _ => lifted os started H enc)

theorem proved : Rows.RankBackSaid :=
  over
#print axioms proved
end Go.Proofs.Ytpgiladbljnpcaa.rankBack
