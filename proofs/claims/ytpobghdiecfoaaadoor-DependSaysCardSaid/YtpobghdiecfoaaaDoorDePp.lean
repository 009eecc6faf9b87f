/-
  depend.Parse: at any text.
-/
import Derived.Test.YtpobghdiecfoaaaDoorDePkn
import Derived.Test.YtpobghdiecfoaaaDoorDePr
import Derived.Lib.IndexAny
namespace Go.Proofs.YtpobghdiecfoaaaDoor
open Go Go.RowKit Go.Lib
set_option linter.unusedVariables false

theorem jobsA_small : ∀ (k : Nat) (s : Bs) (l : List Nat), s.length ≤ k → jobsA s = some l → l.length ≤ s.length + 1 ∧ ∀ j ∈ l, j < 4294967296 := by
  intro k
  induction k with
  | zero =>
    intro s l hk h
    have hs : s = [] := List.eq_nil_of_length_eq_zero (by omega)
    subst hs
    rw [jobsA_none (by rfl)] at h
    cases hn : numJ [] with
    | none => rw [hn] at h; cases h
    | some n =>
      rw [hn] at h; cases h
      exact ⟨by simp, fun j hj => by rw [List.mem_singleton.1 hj]; exact (numJ_some hn).2⟩
  | succ k ih =>
    intro s l hk h
    cases hc : cut1 58 s with
    | none =>
      rw [jobsA_none hc] at h
      cases hn : numJ s with
      | none => rw [hn] at h; cases h
      | some n =>
        rw [hn] at h; cases h
        exact ⟨by simp, fun j hj => by rw [List.mem_singleton.1 hj]; exact (numJ_some hn).2⟩
    | some p =>
      obtain ⟨a, r⟩ := p
      have hsh := cut1_short hc
      rw [jobsA_some hc] at h
      cases hn : numJ a with
      | none => rw [hn] at h; cases h
      | some n =>
        rw [hn] at h
        dsimp only at h
        cases hr : jobsA r with
        | none => rw [hr] at h; cases h
        | some l' =>
          rw [hr] at h; cases h
          obtain ⟨h1, h2⟩ := ih r l' (by omega) hr
          exact ⟨by rw [List.length_cons]; omega, fun j hj => by
            rcases List.mem_cons.1 hj with rfl | hj
            · exact (numJ_some hn).2
            · exact h2 j hj⟩
theorem needA_small {t : Bs} {n : Nd} (h : needA t = some n) : n.2.length ≤ t.length + 1 ∧ ∀ j ∈ n.2, j < 4294967296 := by
  unfold needA at h
  split at h
  · split at h
    · cases h; exact ⟨by simp, fun j hj => by simp at hj⟩
    · cases h
  · rename_i a r hc
    split at h
    · cases h
    · cases hr : jobsA r with
      | none => rw [hr] at h; cases h
      | some l =>
        rw [hr] at h; cases h
        obtain ⟨h1, h2⟩ := jobsA_small _ r l (Nat.le_refl _) hr
        have := cut1_short hc
        exact ⟨by dsimp only; omega, h2⟩
theorem needsA_cut (c : UInt8) (s : Bs) : needsA c s = match needA (cutV c s).1 with | none => none | some n => if (cutV c s).2.2 = true then (needsA c (cutV c s).2.1).map fun l => n :: l else some [n] := by
  unfold cutV
  cases hc : cut1 c s with
  | none =>
    rw [needsA_none hc]
    dsimp only
    cases needA s <;> rfl
  | some p =>
    obtain ⟨a, r⟩ := p
    rw [needsA_some hc]
    dsimp only
    cases needA a <;> rfl
def NRest (c : UInt8) (r0 : Bs) (m : Bool) (r : Bs) (l : List Nd) : Prop := needsA c r0 = if m = true then (needsA c r).map fun k => l ++ k else some l
theorem NRest.next {c : UInt8} {r0 r : Bs} {l : List Nd} (h : NRest c r0 true r l) {n : Nd} (hn : needA (cutV c r).1 = some n) : NRest c r0 (cutV c r).2.2 (cutV c r).2.1 (l ++ [n]) := by
  unfold NRest at *
  rw [h, if_pos rfl, needsA_cut c r, hn]
  dsimp only
  cases (cutV c r).2.2
  · rfl
  · rw [if_pos rfl, if_pos rfl, Option.map_map]
    congr 1
    funext l
    simp
theorem NRest.bad {c : UInt8} {r0 r : Bs} {l : List Nd} (h : NRest c r0 true r l) (hn : needA (cutV c r).1 = none) : needsA c r0 = none := by
  unfold NRest at h
  rw [h, if_pos rfl, needsA_cut c r, hn]; rfl
theorem leftC_next (c : UInt8) (r : Bs) : leftJ (cutV c r).2.2 (cutV c r).2.1 + 1 ≤ leftJ true r := by
  unfold cutV
  cases hc : cut1 c r with
  | none => simp [leftJ]
  | some p =>
    obtain ⟨a, b⟩ := p
    have := cut1_short hc
    simp [leftJ]; omega
/-! Needs that the call made: their row, and each one's jobs. -/
structure NdOwn (w : World) (base : Nat) (v : Value) (l : List NdM) : Prop where
  row : w.ownsRow base 46 2 v l.length (l.flatMap ndV)
  jobs : ∀ p ∈ l, UOwn w base p.2.1 p.2.2
theorem NdOwn.nil (w : World) (base : Nat) : NdOwn w base (.slice none 0 0) [] := ⟨⟨rfl, .inl ⟨rfl, rfl⟩⟩, fun p hp => nomatch hp⟩
theorem blk_ne8 {w : World} {b1 b2 n m s1 s2 : Nat} {e1 e2 : TypeId} {v1 v2 : Value} {xs ys : List Value} (h : w.ownsRow b1 e1 s1 v1 n xs) (ho : w.ownsRow b2 e2 s2 v2 m ys) (hne : e1 ≠ e2) : ∀ g, v1.ownBlock = some g → v2.ownBlock ≠ some g := by
  intro g h1 h2
  obtain ⟨_, ⟨rfl, _⟩ | ⟨g1, _, c1, rfl, _, hc1, _⟩⟩ := h
  · cases h1
  obtain ⟨_, ⟨rfl, _⟩ | ⟨g2, _, c2, rfl, _, hc2, _⟩⟩ := ho
  · cases h2
  obtain rfl : g1 = g := by simpa [Value.ownBlock] using h1
  obtain rfl : g2 = g1 := by simpa [Value.ownBlock] using h2
  rw [hc1] at hc2
  injection hc2 with hc2
  injection hc2 with _ e _
  exact hne e
theorem NdOwn.chg {own : Nat → Prop} {w w' : World} {base : Nat} {v : Value} {l : List NdM} (h : NdOwn w base v l) (hc : Chg own w w') (ho : ∀ k, base ≤ k → k < w.heap.size → ¬ own k) : NdOwn w' base v l :=
  ⟨own_chg h.row hc fun k hk => ho k (h.row.lt k hk).1 (h.row.lt k hk).2, fun p hp => own_chg (h.jobs p hp) hc fun k hk => ho k ((h.jobs p hp).lt k hk).1 ((h.jobs p hp).lt k hk).2⟩
theorem NdOwn.older {w w' : World} {base : Nat} {v : Value} {l : List NdM} (h : NdOwn w base v l) (hb : Below w.heap.size w w') : NdOwn w' base v l :=
  ⟨own_older h.row hb, fun p hp => own_older (h.jobs p hp) hb⟩
theorem NdOwn.lower {w : World} {b b' : Nat} {v : Value} {l : List NdM} (h : NdOwn w b v l) (hb : b' ≤ b) : NdOwn w b' v l := ⟨h.row.mono hb, fun p hp => (h.jobs p hp).lower hb⟩
theorem NdOwn.app {w w' : World} {base : Nat} {v v' : Value} {l : List NdM} {p : NdM} (h : NdOwn w base v l) (hp : UOwn w base p.2.1 p.2.2) (hg : w.grownBy w' v.ownBlock) (hr : w'.ownsRow base 46 2 v' (l.length + 1) (l.flatMap ndV ++ ndV p)) : NdOwn w' base v' (l ++ [p]) := by
  have hc : Chg (fun g => v.ownBlock = some g) w w' := Chg.of_grown hg fun g e => e
  refine ⟨?_, fun q hq => ?_⟩
  · rw [List.length_append, List.flatMap_append]
    simpa using hr
  · have hu : UOwn w base q.2.1 q.2.2 := by
      rcases List.mem_append.1 hq with hq | hq
      · exact h.jobs q hq
      · rw [List.mem_singleton.1 hq]; exact hp
    exact own_chg hu hc fun k hk e => blk_ne8 h.row hu (by decide) k e hk
theorem NdOwn.nrw {w : World} {base : Nat} {v : Value} {l : List NdM} (h : NdOwn w base v l) (h1 : l.length ≤ 1048576) (h2 : ∀ p ∈ l, p.2.2.length ≤ 1048576) (h3 : ∀ p ∈ l, ∀ j ∈ p.2.2, j < 4294967296) : NRw w v l :=
  ⟨rowG_of_own ndV_len h.row, fun p hp => urow_of_own (h.jobs p hp), h1, h2, h3⟩
theorem Tryd.infoNeed8 : (Tryd.prog.info? 46).map (fun i => (i.zero, i.size, i.bytes)) = some (some (.agg #[.int .i64 0, .slice none 0 0]), 2, 32) := by kernel_rfl
/-- A dependency that was read. -/
def DepTo (R : Bool × List Nd × Int) (base : Nat) (e : Ending) (w : World) : Prop :=
  ∃ v l, e = .returned (.tuple #[.agg #[.bool R.1, v], .int .i64 R.2.2]) ∧ NdOwn w base v l ∧ ndsOf l = R.2.1 ∧ l.length ≤ 1048576 ∧ (∀ p ∈ l, p.2.2.length ≤ 1048576) ∧ ∀ p ∈ l, ∀ j ∈ p.2.2, j < 4294967296
theorem DepTo.none {e : Ending} {w : World} {base : Nat} {x : Int} (h : e = .returned (.tuple #[.agg #[.bool false, .slice Option.none 0 0], .int .i64 x])) : DepTo (false, [], x) base e w :=
  ⟨_, [], h, NdOwn.nil w base, rfl, by simp, fun p hp => (nomatch hp), fun p hp => (nomatch hp)⟩
theorem needTo_some {k : Int} {js : List Nat} {base : Nat} {e : Ending} {w : World} (h : NeedTo (some (k, js)) base e w) : ∃ pa pc, e = .returned (.tuple #[.agg #[.int .i64 k, .slice pa js.length pc], .bool true]) ∧ UOwn w base (.slice pa js.length pc) js := by
  obtain ⟨pv, he, ho⟩ := h
  obtain ⟨pa, pc, rfl⟩ := own_slice ho
  exact ⟨pa, pc, he, ho⟩
theorem has_sign (s : Bs) (c : UInt8) (w : World) : Calls Tryd.prog 33 #[.string (strB s), .string ⟨#[c]⟩] w fun e w' => e = .returned (.bool (decide (c ∈ s))) ∧ w' = w := by
  have h := Tryd.strings_Contains_one (strB s) c w
  rw [strB_list, ← Lib.contains_iff_indexByte, List.contains_eq_mem] at h
  exact h
set_option maxRecDepth 100000 in
set_option maxHeartbeats 4000000 in
theorem parse8_any (t : Bs) (m : Int) (w : World) (hs : t.length ≤ 1000000) (hm : w.cell? ⟨1, 0, none⟩ = some (.int .i64 m)) :
    Calls Tryd.prog 21 #[.string (strB t)] w fun e w' => DepTo (parseA8 t) w.heap.size e w' ∧ Below w.heap.size w w' := by
  have HM : Hid (∀ w', Below w.heap.size w w' → w'.cell? ⟨1, 0, none⟩ = some (.int .i64 m)) := fun w' hb => cell_next hb hm
  obtain ⟨G2, hG2⟩ : ∃ g, g = w.heap.size := ⟨_, rfl⟩
  have HG2 := Lib.hid hG2
  obtain ⟨X, hX⟩ : ∃ X, X = w.alloc (.cells #[.bool false, .slice none 0 0] 24) := ⟨_, rfl⟩
  have HXX := Lib.hid hX
  have HBX : Hid (Below w.heap.size w X) := by unfold Hid; rw [hX]; exact (Below.refl _ _).alloc (Nat.le_refl _) _
  have HBK : Hid (Blk X G2 #[.bool false, .slice none 0 0] 24) := by unfold Hid; rw [hX, hG2]; exact Blk.new w _ _
  clear hX hG2
  by_cases he : t = []
  · have HP : Hid (parseA8 t = (false, [], 0)) := if_pos he
    rw [HP.out]
    subst he
    have hk2 := HBK.out
    have g0 := hk2.cell 0
    have g1 := hk2.cell 1
    simp at g0 g1
    have f0 := hk2.free 0
    have f1 := hk2.free 1
    have hgw : w.heap.size ≤ G2 := by rw [HG2.out]; exact Nat.le_refl _
    obtain ⟨W6, e6, z0, z1, _, hend⟩ := end2 hk2 HBX.out HBX.out.size hgw (.bool false) (.slice none 0 0)
    have E6 := Lib.hid e6
    have HEND := Lib.hid hend.1
    have qe : (strB []).toList.isEmpty = true := by rw [strB_toList]; rfl
    clear e6 hend hk2 hgw hm
    go_enter Tryd.func21, Tryd.ntmps21
    go_upto_region 1 with fail
    rw [← HG2.out, ← HXX.out]
    go_wp2_with fail
    rw [E6.out]
    refine bodyPost_ret (v := .tuple #[.agg #[.bool false, .slice none 0 0], .int .i64 0]) (by simp [results, Tryd.results21, go_sem, z0, z1]) rfl ⟨?_, HEND.out⟩
    exact DepTo.none rfl
  · have q1 : ((strB t).toList == []) = false := by rw [strB_toList]; simp; exact he
    have HPA : Hid (parseA8 t = if 63 ∈ t ∧ 44 ∈ t then (false, [], 60) else match needsA (sepA (decide (63 ∈ t))) t with | none => (false, [], 60) | some l => endD (decide (63 ∈ t)) l) := if_neg he
    have HQ : Hid (∀ w', Calls Tryd.prog 33 #[.string (strB t), .string ⟨#[63]⟩] w' fun e w2 => e = .returned (.bool (decide (63 ∈ t))) ∧ w2 = w') := fun w' => has_sign t 63 w'
    have HC : Hid (∀ w', Calls Tryd.prog 33 #[.string (strB t), .string ⟨#[44]⟩] w' fun e w2 => e = .returned (.bool (decide (44 ∈ t))) ∧ w2 = w') := fun w' => has_sign t 44 w'
    have HSEP : Hid (∀ b w', Calls Tryd.prog 28 #[.bool b] w' fun e w2 => e = .returned (.string ⟨#[sepA b]⟩) ∧ w2 = w') := fun b w' => sep_any b w'
    have HS1 : Hid (∀ w', Calls Tryd.prog 28 #[.bool true] w' fun e w2 => e = .returned (.string ⟨#[63]⟩) ∧ w2 = w') := fun w' => sep_any true w'
    have HS0 : Hid (∀ w', Calls Tryd.prog 28 #[.bool false] w' fun e w2 => e = .returned (.string ⟨#[44]⟩) ∧ w2 = w') := fun w' => sep_any false w'
    obtain ⟨any, hany⟩ : ∃ b, b = decide (63 ∈ t) := ⟨_, rfl⟩
    obtain ⟨com, hcom⟩ : ∃ b, b = decide (44 ∈ t) := ⟨_, rfl⟩
    have HPA2 : Hid (parseA8 t = if (any && com) = true then (false, [], 60) else match needsA (sepA any) t with | none => (false, [], 60) | some l => endD any l) := by
      unfold Hid
      rw [HPA.out, hany, hcom]
      congr 1
      simp
    rw [← hany] at HQ
    rw [← hcom] at HC
    obtain ⟨ST, hST⟩ : ∃ o, o = strB t := ⟨_, rfl⟩
    rw [← hST] at HQ HC q1 ⊢
    have HST := Lib.hid hST
    obtain ⟨R, hR⟩ : ∃ r, r = parseA8 t := ⟨_, rfl⟩
    rw [← hR] at HPA2 ⊢
    clear HPA hany hcom hST he hR hm
    go_enter Tryd.func21, Tryd.ntmps21
    go_upto_region 1 with fail
    rw [← HG2.out, ← HXX.out]
    go_wp2_with fail
    refine (HS1.out _).mono ?_; rintro e w3 ⟨rfl, hw3⟩
    subst hw3
    go_wp2_with fail
    refine (HQ.out _).mono ?_; rintro e w4 ⟨rfl, hw4⟩
    subst hw4
    obtain ⟨G4, hG4⟩ : ∃ g, g = w4.heap.size := ⟨_, rfl⟩
    obtain ⟨Y, hY⟩ : ∃ Y, Y = w4.alloc (.cells #[.bool any, .slice none 0 0] 24) := ⟨_, rfl⟩
    have hbY : Below w4.heap.size w4 Y := by rw [hY]; exact (Below.refl _ _).alloc (Nat.le_refl _) _
    have HK4 : Hid (Blk Y G4 #[.bool any, .slice none 0 0] 24) := by unfold Hid; rw [hY, hG4]; exact Blk.new _ _ _
    have HGG : Hid (w.heap.size ≤ G2 ∧ G2 < G4 ∧ G4 < Y.heap.size) := by
      refine ⟨Nat.le_of_eq HG2.out.symm, ?_, HK4.out.lt⟩
      rw [hG4]; exact HBK.out.lt
    have HBY := Lib.hid (below_next hbY HBX.out)
    have HK2Y := Lib.hid (HBK.out.kept hbY)
    have HG4 := Lib.hid hG4
    clear hG4 hbY HBX HBK HS1 HQ
    go_upto_region 4 with fail
    rw [← HG4.out, ← hY]
    clear hY HG4
    have d0 := HK4.out.cell 0
    simp at d0
    go_cut [24] from 18 to 24 (fun bv wx => bv = .bool (any && com) ∧ Hid (Y = wx))
    case first =>
      cases any with
      | true =>
        go_wp2_with fail
        refine (HS0.out _).mono ?_; rintro e w3 ⟨rfl, hw3⟩
        subst hw3
        go_wp2_with fail
        refine (HC.out _).mono ?_; rintro e w4 ⟨rfl, hw4⟩
        subst hw4
        go_wp2_with fail
        go_meet
        exact ⟨rfl, rfl⟩
      | false =>
        go_wp2_with fail
        go_meet
        exact ⟨rfl, rfl⟩
    case rest =>
    obtain ⟨rfl, hw⟩ := hcut
    replace hw := hw.out
    subst hw
    cases hac : (any && com) with
    | true =>
      have HN : Hid (R = (false, [], 60)) := by unfold Hid; rw [HPA2.out, if_pos hac]
      clear HPA2 hac
      have hk2 := HK2Y.out
      have g0 := hk2.cell 0
      have g1 := hk2.cell 1
      simp at g0 g1
      have f0 := hk2.free 0
      have f1 := hk2.free 1
      obtain ⟨W6, e6, z0, z1, _, hend⟩ := end2 hk2 HBY.out HBY.out.size HGG.out.1 (.bool false) (.slice none 0 0)
      have E6 := Lib.hid e6
      have HEND := Lib.hid hend.1
      clear e6 hend hk2
      go_wp2_with fail
      rw [E6.out]
      refine bodyPost_ret (v := .tuple #[.agg #[.bool false, .slice none 0 0], .int .i64 60]) (by simp [results, Tryd.results21, go_sem, z0, z1]) rfl ⟨?_, HEND.out⟩
      rw [HN.out]; exact DepTo.none rfl
    | false =>
    have HRR : Hid (R = match needsA (sepA any) t with | none => (false, [], 60) | some l => endD any l) := by unfold Hid; rw [HPA2.out, if_neg (by rw [hac]; decide)]
    clear HPA2 hac HS0 HC
    obtain ⟨i0, hi0, hz0, hz1, hz2⟩ := info_parts Tryd.infoNeed8
    have HI := Lib.hid (And.intro hi0 (And.intro hz0 (And.intro hz1 hz2)))
    clear hi0 hz0 hz1 hz2
    obtain ⟨BN, hBN⟩ : ∃ g, g = Y.heap.size := ⟨_, rfl⟩
    have HBN := Lib.hid hBN
    clear hBN
    go_wp2_with fail
    go_loopw [5, 6] (fun rv mv wr => ∃ (r' : Bs) (mo' : Bool) (l : List NdM) (v : Value), rv = .string (strB r') ∧ mv = .bool mo' ∧ r'.length ≤ 1000000 ∧ Hid (l.length + leftJ mo' r' ≤ 1000001) ∧ Hid (NRest (sepA any) t mo' r' (ndsOf l)) ∧ Hid (Blk wr G4 #[.bool any, v] 24) ∧ Hid (Blk wr G2 #[.bool false, .slice none 0 0] 24) ∧ Hid (NdOwn wr BN v l) ∧ Hid (∀ p ∈ l, p.2.2.length ≤ 1000001 ∧ ∀ j ∈ p.2.2, j < 4294967296) ∧ Hid (Below w.heap.size w wr) ∧ Hid (BN ≤ wr.heap.size)) (fun rv mv _ => meaJ rv mv)
    case atStart => exact ⟨t, true, [], .slice none 0 0, by rw [HST.out], rfl, hs, by unfold Hid leftJ; simp; omega, by unfold Hid NRest; simp [ndsOf], HK4.out, HK2Y.out, NdOwn.nil _ _, fun p hp => (nomatch hp), HBY.out, Nat.le_of_eq HBN.out⟩
    case round =>
      clear HK2Y HK4 HBY d0
      obtain ⟨r', mo', l, v, rfl, rfl, hr', HLJ, HNR, HK4, HK2, HOJ, HSM, HB, HBJr⟩ := hrel
      obtain ⟨va, vc, rfl⟩ := own_slice HOJ.out.row
      obtain ⟨LN, hLN⟩ : ∃ L, L = l.length := ⟨_, rfl⟩
      rw [← hLN] at HK4 HOJ
      have HLL := Lib.hid hLN
      clear hLN
      have d0 := HK4.out.cell 0
      have d1 := HK4.out.cell 1
      simp at d0 d1
      obtain ⟨w9, hw9⟩ : ∃ x, x = wr := ⟨_, rfl⟩
      subst hw9
      cases mo' with
      | true =>
        have CU := Lib.hid (cutS_any r' (sepA any) m w9 (by omega) (HM.out w9 HB.out))
        have hcl := cutV_len (sepA any) r'
        have HLN := Lib.hid (leftC_next (sepA any) r')
        have HNX : Hid (∀ n, needA (cutV (sepA any) r').1 = some n → NRest (sepA any) t (cutV (sepA any) r').2.2 (cutV (sepA any) r').2.1 (ndsOf l ++ [n])) := fun n hn => HNR.out.next hn
        have HBD : Hid (needA (cutV (sepA any) r').1 = none → R = (false, [], 60)) := fun hn => by
          rw [HRR.out, HNR.out.bad hn]
        obtain ⟨a', ha⟩ : ∃ a, a = (cutV (sepA any) r').1 := ⟨_, rfl⟩
        obtain ⟨r'', hr⟩ : ∃ a, a = (cutV (sepA any) r').2.1 := ⟨_, rfl⟩
        obtain ⟨m'', hm⟩ : ∃ a, a = (cutV (sepA any) r').2.2 := ⟨_, rfl⟩
        rw [← ha, ← hr, ← hm] at CU HNX
        rw [← ha] at HBD
        rw [← hr, ← hm] at HLN
        rw [← ha, ← hr] at hcl
        have PN : Hid (∀ w', Below w.heap.size w w' → Calls Tryd.prog 35 #[.string (strB a')] w' fun e w2 => NeedTo (needA a') w'.heap.size e w2 ∧ Below w'.heap.size w' w2) := fun w' hb => parseNeed_any a' m w' (by omega) (HM.out w' hb)
        have hal : a'.length ≤ 1000000 := by omega
        have HSA : Hid (∀ n, needA a' = some n → n.2.length ≤ 1000001 ∧ ∀ j ∈ n.2, j < 4294967296) := fun n hn => by
          obtain ⟨h1, h2⟩ := needA_small hn
          exact ⟨by omega, h2⟩
        have hr2 : r''.length ≤ 1000000 := by omega
        obtain ⟨SA', hSA⟩ : ∃ o, o = strB a' := ⟨_, rfl⟩
        obtain ⟨SR', hSR2⟩ : ∃ o, o = strB r' := ⟨_, rfl⟩
        obtain ⟨SR'', hSR3⟩ : ∃ o, o = strB r'' := ⟨_, rfl⟩
        rw [← hSA] at PN CU
        rw [← hSR2] at CU
        rw [← hSR3] at CU
        rw [← hSR2]
        have HS2 := Lib.hid hSR2
        have HS3 := Lib.hid hSR3
        obtain ⟨sp, hsp⟩ : ∃ o : ByteArray, o = ⟨#[sepA any]⟩ := ⟨_, rfl⟩
        have SE := Lib.hid (HSEP.out any w9)
        rw [← hsp] at SE CU
        clear ha hr hm hcl hSA hSR2 hSR3 HNR hsp hal
        go_wp2_with fail
        refine SE.out.mono ?_; rintro e w3 ⟨rfl, hw3⟩
        subst hw3
        go_wp2_with fail
        refine CU.out.mono ?_; rintro e w4 ⟨rfl, b4⟩
        have HB4 := Lib.hid b4
        clear b4 CU SE
        go_wp2_with fail
        refine (PN.out _ (below_next HB4.out HB.out)).mono ?_; rintro e w5 ⟨hnd, b5⟩
        have HB5 := Lib.hid (below_next b5 HB4.out)
        have HND := Lib.hid hnd
        have HLE : Hid (BN ≤ w4.heap.size) := Nat.le_trans HBJr.out HB4.out.size
        clear b5 HB4 PN hnd d0 d1
        have HK4' := Lib.hid (HK4.out.kept HB5.out)
        have HK2' := Lib.hid (HK2.out.kept HB5.out)
        have HOJ' := Lib.hid (HOJ.out.older HB5.out)
        have HBW := Lib.hid (below_next HB5.out HB.out)
        have HBJ' := Lib.hid (Nat.le_trans HBJr.out HB5.out.size)
        clear HK4 HK2 HOJ HB HB5 HBJr
        cases hO : needA a' with
        | none =>
          have HN := Lib.hid (HBD.out hO)
          rw [hO] at HND
          obtain rfl := HND.out
          clear HBD HNX hO HND HRR
          have hk2 := HK2'.out
          obtain ⟨W8, hW8⟩ : ∃ x, x = w5.alloc (.cells #[.int .i64 0, .slice none 0 0] 46) := ⟨_, rfl⟩
          have hk28 : Blk W8 G2 #[.bool false, .slice none 0 0] 24 := by rw [hW8]; exact hk2.old _
          have hb8 : Below w.heap.size w W8 := by rw [hW8]; exact HBW.out.alloc HBW.out.size _
          have g0 := hk28.cell 0
          have g1 := hk28.cell 1
          simp at g0 g1
          have f0 := hk28.free 0
          have f1 := hk28.free 1
          obtain ⟨W6, e6, z0, z1, _, hend⟩ := end2 hk28 hb8 hb8.size HGG.out.1 (.bool false) (.slice none 0 0)
          have E6 := Lib.hid e6
          have HEND := Lib.hid hend.1
          have HW8 := Lib.hid hW8
          clear e6 hend hk2 hk28 hb8 hW8
          go_upto_region 11 with fail
          rw [← HW8.out]
          go_wp2_with fail
          rw [E6.out]
          refine bodyPost_ret (v := .tuple #[.agg #[.bool false, .slice none 0 0], .int .i64 60]) (by simp [results, Tryd.results21, go_sem, z0, z1]) rfl ⟨?_, HEND.out⟩
          rw [HN.out]; exact DepTo.none rfl
        | some n =>
          have HNX2 := Lib.hid (HNX.out n hO)
          have HSN := Lib.hid (HSA.out n hO)
          rw [hO] at HND
          obtain ⟨k, js⟩ := n
          obtain ⟨pa, pc, he, hpo⟩ := needTo_some HND.out
          have HPO : Hid (UOwn w5 BN (.slice pa js.length pc) js) := hpo.lower HLE.out
          clear HBD HNX hO HND HRR hpo HSA
          obtain ⟨M, hM⟩ : ∃ M, M = js.length := ⟨_, rfl⟩
          dsimp only at HSN
          have HMM := Lib.hid hM
          rw [← hM] at HPO he
          subst he
          clear hM
          obtain ⟨G8, hG8⟩ : ∃ g, g = w5.heap.size := ⟨_, rfl⟩
          obtain ⟨W8, hW8⟩ : ∃ x, x = w5.alloc (.cells #[.int .i64 k, .slice pa M pc] 46) := ⟨_, rfl⟩
          have hb8 : Below w5.heap.size w5 W8 := by rw [hW8]; exact (Below.refl _ _).alloc (Nat.le_refl _) _
          have hk8 : Blk W8 G8 #[.int .i64 k, .slice pa M pc] 46 := by rw [hW8, hG8]; exact Blk.new _ _ _
          have n0 := hk8.cell 0
          have n1 := hk8.cell 1
          simp at n0 n1
          have HK48 := Lib.hid (HK4'.out.kept hb8)
          have HK28 := Lib.hid (HK2'.out.kept hb8)
          have HO8 := Lib.hid (HOJ'.out.older hb8)
          have HP8 : Hid (UOwn W8 BN (.slice pa M pc) js) := own_older HPO.out hb8
          have HB8 := Lib.hid (below_next hb8 HBW.out)
          have hBN8 : BN ≤ W8.heap.size := Nat.le_trans HBJ'.out hb8.size
          have d0 := HK48.out.cell 0
          have d1 := HK48.out.cell 1
          simp at d0 d1
          have HW8 := Lib.hid hW8
          have HG8 := Lib.hid hG8
          have hLb : LN ≤ 1000001 := by have := HLJ.out; have := HLL.out; omega
          have HRO : Hid (W8.ownsRow BN 46 2 (.slice va LN vc) LN (l.flatMap ndV)) := by
            have h := HO8.out.row
            rw [← HLL.out] at h
            exact h
          have HNO : Hid (∀ g, g = G4 ∨ g = G2 → some g ≠ (Value.slice va LN vc).ownBlock) := fun g hg e => by
            have := (HRO.out.lt g e.symm).1
            have := HGG.out
            have := HBN.out
            omega
          have HNX8 : Hid (∀ w8 o, (W8.alloc o).grownBy w8 (Value.slice va LN vc).ownBlock → Blk w8 G4 #[.bool any, .slice va LN vc] 24 ∧ Blk w8 G2 #[.bool false, .slice none 0 0] 24 ∧ Below w.heap.size w w8 ∧ BN ≤ w8.heap.size) := fun w8 o hg =>
            ⟨blk_grown8 (HK48.out.old o) hg (HNO.out _ (.inl rfl)), blk_grown8 (HK28.out.old o) hg (HNO.out _ (.inr rfl)), (HB8.out.alloc HB8.out.size o).grown hg (by have := HB8.out.size; simp; omega) (fun q hq => by have := (HRO.out.lt q hq).1; have := HBN.out; have := HGG.out; omega), Nat.le_trans (Nat.le_trans hBN8 (by simp)) hg.size⟩
          have HNA : Hid (∀ w8 v8 o, (W8.alloc o).grownBy w8 (Value.slice va LN vc).ownBlock → w8.ownsRow BN 46 2 v8 (LN + 1) (l.flatMap ndV ++ [.int .i64 k, .slice pa M pc]) → NdOwn w8 BN v8 (l ++ [(k, .slice pa M pc, js)])) := fun w8 v8 o hg hr => by
            have hA : Below W8.heap.size W8 (W8.alloc o) := (Below.refl _ _).alloc (Nat.le_refl _) _
            refine (HO8.out.older hA).app (p := (k, .slice pa M pc, js)) (own_older HP8.out hA) hg ?_
            rw [← HLL.out]
            exact hr
          obtain ⟨hi0, hz0, hz1, hz2⟩ := HI.out
          clear hb8 hk8 hW8 hG8 HNO HK4' HK2' HOJ' HBW HBJ' HPO
          go_upto_region 11 with fail
          rw [← HW8.out, ← HG8.out]
          clear HW8 HG8
          go_wp2_with (first | (at_builtin; refine wpList_app rfl _ _ 22 rfl BN 46 i0 _ 2 32 Tryd.underlying22 hi0 hz0 hz1 hz2 rfl (by decide) _ LN _ rfl (HRO.out.alloc _) _ 1 [.int .i64 k, .slice pa M pc] rfl ⟨rfl, .inr ⟨_, _, rfl, news_alloc W8 [.int .i64 k, .slice pa M pc] _⟩⟩ (fun u hu => by simp at hu; rcases hu with rfl | rfl <;> rfl) (by unfold maxLen; omega) (by omega) (by simp; omega) ?_; intro v8 w8 hown8 hgrow8 hat8; obtain ⟨hk8, hk2, hb8, hj8⟩ := HNX8.out w8 _ hgrow8; have y1 := hk8.cell 1; have f1 := hk8.free 1; simp at y1; have HK9 := Lib.hid hk8; have HK29 := Lib.hid hk2; have HB9 := Lib.hid hb8; have HJ9 := Lib.hid hj8; have HO9 := Lib.hid (HNA.out w8 v8 _ hgrow8 hown8); obtain ⟨a8, c8, rfl⟩ := own_slice hown8; clear hk8 hk2 hb8 hj8 hown8 hgrow8 hat8))
          have HKN : Hid (Blk (w8.setCell ⟨G4, 1, none⟩ (.slice a8 (LN + 1) c8)) G4 #[.bool any, .slice a8 (LN + 1) c8] 24) := HK9.out.set 1 _
          have HK2N : Hid (Blk (w8.setCell ⟨G4, 1, none⟩ (.slice a8 (LN + 1) c8)) G2 #[.bool false, .slice none 0 0] 24) := HK29.out.other (by show G2 ≠ G4; have := HGG.out; omega) _
          have hcs : Chg (One G4) w8 (w8.setCell ⟨G4, 1, none⟩ (.slice a8 (LN + 1) c8)) := Chg.setCell (own := One G4) 1 _ rfl
          have HBN2 : Hid (Below w.heap.size w (w8.setCell ⟨G4, 1, none⟩ (.slice a8 (LN + 1) c8))) := HB9.out.trans (hcs.to_below HB9.out.size fun k hk e => by have : k = G4 := e; have := HGG.out; omega)
          have HJN : Hid (BN ≤ (w8.setCell ⟨G4, 1, none⟩ (.slice a8 (LN + 1) c8)).heap.size) := Nat.le_trans HJ9.out hcs.size
          have HON : Hid (NdOwn (w8.setCell ⟨G4, 1, none⟩ (.slice a8 (LN + 1) c8)) BN (.slice a8 (LN + 1) c8) (l ++ [(k, .slice pa M pc, js)])) :=
            HO9.out.chg hcs fun q h1 _ e => by have : q = G4 := e; have := HGG.out; have := HBN.out; omega
          clear hcs
          go_wp2_with fail
          go_roundw
          case rel =>
            refine ⟨r'', m'', (l ++ [((k, Value.slice pa M pc, js) : NdM)]), _, by rw [HS3.out], rfl, hr2, ?_, ?_, HKN.out, HK2N.out, HON.out, ?_, HBN2.out, HJN.out⟩
            · have h1 := HLN.out
              have h2 := HLJ.out
              unfold Hid
              rw [List.length_append, List.length_singleton]
              omega
            · unfold Hid
              have e : ndsOf (l ++ [(k, .slice pa M pc, js)]) = ndsOf l ++ [(k, js)] := by simp [ndsOf, toNd]
              rw [e]
              exact HNX2.out
            · intro p hp
              rcases List.mem_append.1 hp with hp | hp
              · exact HSM.out p hp
              · rw [List.mem_singleton.1 hp]; exact HSN.out
          case measure =>
            have h1 := HLN.out
            have h2 : SR'.size = r'.length := by rw [HS2.out, strB_size]
            have h3 : SR''.size = r''.length := by rw [HS3.out, strB_size]
            unfold leftJ at h1
            cases m''
            · simp [meaJ]
            · simp [meaJ] at h1 ⊢; omega
      | false =>
        have HNL : Hid (needsA (sepA any) t = some (ndsOf l)) := by
          have h := HNR.out
          unfold NRest at h
          rw [if_neg (by decide)] at h
          exact h
        have HRE : Hid (R = endD any (ndsOf l)) := by unfold Hid; rw [HRR.out, HNL.out]
        have HLB : Hid (l.length ≤ 1048576) := by have := HLJ.out; unfold Hid; unfold leftJ at this; simp at this; omega
        have HSB : Hid (∀ p ∈ l, p.2.2.length ≤ 1048576) := fun p hp => by have := (HSM.out p hp).1; omega
        have HSS : Hid (∀ p ∈ l, ∀ j ∈ p.2.2, j < 4294967296) := fun p hp => (HSM.out p hp).2
        have CK := check_any any (.slice va LN vc) l w9 (by
          have h := HOJ.out
          exact h.nrw HLB.out HSB.out HSS.out)
        obtain ⟨C, hC⟩ : ∃ c, c = chkD any (ndsOf l) := ⟨_, rfl⟩
        rw [← hC] at CK
        have HCK := Lib.hid CK
        have HC := Lib.hid hC
        clear HNR HRR HNL HLJ CK hC HSM
        go_wp2_with fail
        refine HCK.out.mono ?_; rintro e w4 ⟨rfl, b4⟩
        have HK4' := Lib.hid (HK4.out.kept b4)
        have HK2' := Lib.hid (HK2.out.kept b4)
        have HOJ' := Lib.hid (HOJ.out.older b4)
        have HBW := Lib.hid (below_next b4 HB.out)
        have hk2 := HK2'.out
        have g0 := hk2.cell 0
        have g1 := hk2.cell 1
        simp at g0 g1
        have f0 := hk2.free 0
        have f1 := hk2.free 1
        have d0 := HK4'.out.cell 0
        have d1 := HK4'.out.cell 1
        simp at d0 d1
        clear b4 HCK HK4 HK2 HOJ HB
        by_cases hok : okD any (ndsOf l)
        · have hC0 : C = 0 := by rw [HC.out]; exact if_pos hok
          have HR2 : Hid (R = (any, ndsOf l, 0)) := by unfold Hid; rw [HRE.out]; exact if_pos hok
          subst hC0
          obtain ⟨W6, e6, z0, z1, _, hend⟩ := end2 hk2 HBW.out HBW.out.size HGG.out.1 (.bool any) (.slice va LN vc)
          have HO6 : Hid (NdOwn W6 w.heap.size (.slice va LN vc) l) := (HOJ'.out.chg hend.2 fun q h1 _ e => by have : q = G2 := e; have := HGG.out; have := HBN.out; omega).lower (by have := HGG.out; have := HBN.out; omega)
          have E6 := Lib.hid e6
          have HEND := Lib.hid hend.1
          clear e6 hend hk2 hok
          go_wp2_with fail
          rw [E6.out]
          refine bodyPost_ret (v := .tuple #[.agg #[.bool any, .slice va LN vc], .int .i64 0]) (by simp [results, Tryd.results21, go_sem, z0, z1]) rfl ⟨?_, HEND.out⟩
          rw [HR2.out]
          exact ⟨_, l, rfl, HO6.out, rfl, HLB.out, HSB.out, HSS.out⟩
        · have hC0 : C = 2 := by rw [HC.out]; exact if_neg hok
          have HR2 : Hid (R = (false, [], 2)) := by unfold Hid; rw [HRE.out]; exact if_neg hok
          subst hC0
          obtain ⟨W6, e6, z0, z1, _, hend⟩ := end2 hk2 HBW.out HBW.out.size HGG.out.1 (.bool false) (.slice none 0 0)
          have E6 := Lib.hid e6
          have HEND := Lib.hid hend.1
          clear e6 hend hk2 hok
          go_wp2_with fail
          rw [E6.out]
          refine bodyPost_ret (v := .tuple #[.agg #[.bool false, .slice none 0 0], .int .i64 2]) (by simp [results, Tryd.results21, go_sem, z0, z1]) rfl ⟨?_, HEND.out⟩
          rw [HR2.out]; exact DepTo.none rfl
end Go.Proofs.YtpobghdiecfoaaaDoor
