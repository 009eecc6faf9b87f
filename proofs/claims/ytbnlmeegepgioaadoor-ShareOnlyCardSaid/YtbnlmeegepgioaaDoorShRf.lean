/-
  gangerref11.Sums: at any accounts and numbers.
  gangerref11.Norms: at any accounts.
  gangerref11.Parts, gangerref11.Factors: at any accounts and numbers.
  gangerref11.Factors: at any accounts and numbers.
-/
import Derived.Test.YtbnlmeegepgioaaDoorShNm
import Derived.Test.YtbnlmeegepgioaaDoorShCk
import Derived.Test.YtbnlmeegepgioaaDoorNSet
import Derived.Test.YtbnlmeegepgioaaDoorNumRefMd
import Derived.Deep.RegionHeld3
namespace Go.Proofs.YtbnlmeegepgioaaDoor
set_option linter.unusedVariables false

section
open Go Go.RowKit Go.Lib
/-- A row and a code: the row is there with the code 0 alone. -/
def ResPost (l : List AcT) (own : List Int) (f : Nat → Nat) (w : World) (e : Ending) (w' : World) : Prop :=
  ∃ (er : Int) (v : Value) (L : List Int), e = .returned (.tuple #[v, .int .i64 er]) ∧ ShCode l own er ∧ ((er = 0 ∧ L = rowI f l.length) ∨ (er ≠ 0 ∧ L = [])) ∧ NOwn w' w.heap.size v L ∧ Below w.heap.size w w'
set_option maxRecDepth 100000 in
set_option maxHeartbeats 4000000 in
theorem refSums_any (v vo : Value) (l : List AcT) (own : List Int) (w : World) (hv : AcRow w v l) (hs : ∀ p ∈ l, Short p.1 ∧ Short p.2.1) (ho : GRow w vo own) (hn : own.length ≤ 1048576) (hB : ∀ x ∈ own, x ≤ 9223372036854775807) :
    Calls Tryd.prog 14 #[v, vo] w fun e w' => ResPost l own (sumI l (ownN own)) w e w' := by
  obtain ⟨i0, hi, hz0, hz1, hz2⟩ := info_parts Tryd.infoNum
  have CK := Lib.hid (refShCheck_any v vo l own w hv hs ho hn)
  have SI : Hid (AccOk l → OwnOk l own → ∀ i, i < l.length → ∀ w0, Below w.heap.size w w0 → Calls Tryd.prog 28 #[v, vo, .int .i64 (i : Nat)] w0 fun e w' => e = .returned (.int .i64 (sumI l (ownN own) i : Nat)) ∧ Below w0.heap.size w0 w') := fun h1 h2 i hi w0 hb => refSum_ind v vo l own w hv (Tree.mk' h1) ho h2 hB l.length i (by omega) hi w0 hb
  obtain ⟨va, vc, rfl⟩ := hv.slice
  obtain ⟨oa, oc, rfl⟩ := ho.slice
  obtain ⟨F, hF⟩ : ∃ F, F = sumI l (ownN own) := ⟨_, rfl⟩
  rw [← hF] at SI ⊢
  obtain ⟨LN, hLN⟩ : ∃ L, L = l.length := ⟨_, rfl⟩
  obtain ⟨LO, hLO⟩ : ∃ L, L = own.length := ⟨_, rfl⟩
  rw [← hLN, ← hLO] at CK SI ⊢
  have HLN := Lib.hid hLN
  clear hv hs ho hn hB hF hLN hLO
  go_enter Tryd.func14, Tryd.ntmps14
  go_wp2_with fail
  refine CK.out.mono ?_; rintro e w1 ⟨er, rfl, he, b1⟩
  have HB1 := Lib.hid b1
  have HER := Lib.hid he
  clear he b1 CK
  by_cases h0 : er = 0
  · subst h0
    obtain ⟨hA, hO⟩ : AccOk l ∧ OwnOk l own := by
      rcases HER.out with ⟨_, h1, h2⟩ | ⟨h, _⟩ | ⟨h, _⟩
      · exact ⟨h1, h2⟩
      · cases h
      · cases h
    have S2 := Lib.hid (SI.out hA hO)
    have h50 : LN ≤ 50 := by rw [HLN.out]; exact hA.2.1
    clear hA hO SI
    go_wp2_with fail
    go_loopw [7, 8] (fun rv iv wr => ∃ (k : Nat) (ra : Option Addr) (rc : Nat), k ≤ LN ∧ iv = .int .i64 k ∧ rv = .slice ra k rc ∧ Hid (NOwn wr w.heap.size (.slice ra k rc) (rowI F k)) ∧ Hid (Below w.heap.size w wr)) (fun _ iv _ => LN - (RowKit.intOf iv).toNat)
    case atStart => exact ⟨0, _, _, Nat.zero_le _, rfl, rfl, NOwn.none _ _, HB1⟩
    case round =>
      obtain ⟨k, ra, rc, hk, rfl, rfl, HO, HB⟩ := hrel
      by_cases hlt : k < LN
      · have hd : decide (k < LN) = true := decide_eq_true hlt
        have hki : (k : Int) < (LN : Int) := by omega
        have C := Lib.hid (S2.out k hlt wr HB.out)
        obtain ⟨X, hX⟩ : ∃ X, X = F k := ⟨_, rfl⟩
        rw [← hX] at C
        have HRS : Hid (rowI F (k + 1) = rowI F k ++ [(X : Int)]) := by unfold Hid; rw [rowI_succ, hX]
        obtain ⟨N, hN⟩ : ∃ N, N = (rowI F k).length := ⟨_, rfl⟩
        have hNk : N = k := by rw [hN, rowI_len]
        have hN50 : N ≤ 50 := by omega
        have HNN := Lib.hid hN
        have HNK := Lib.hid hNk
        clear hX hN hNk
        go_wp2_with fail
        refine C.out.mono ?_; rintro e w2 ⟨rfl, b2⟩
        have B2 := Lib.hid (below_next b2 HB.out)
        have HO2 : Hid (w2.ownsRow w.heap.size 3 1 (.slice ra k rc) N (numsL (rowI F k))) := by unfold Hid; rw [HNN.out]; exact own_older HO.out b2
        clear b2 C
        go_wp2_with (at_builtin; refine wpList_append_own_at _ rfl _ _ 23 rfl w.heap.size 3 i0 _ 1 8 Tryd.underlying23 hi hz0 hz1 hz2 rfl (by decide) (.slice ra k rc) N _ rfl (World.ownsRow.alloc HO2.out _) ⟨w2.heap.size, 0, none⟩ 1 1 [.int .i64 (X : Int)] rfl rfl (news_alloc _ [.int .i64 (X : Int)] _) (by simp [Value.oneCell']) (by unfold maxLen; omega) (by omega) (by have := B2.out.size; simp; omega) ?_; intro v4 w5 hown4 hgrow4 _ hat4)
        have HE6 : Hid (NOwn w5 w.heap.size v4 (rowI F (k + 1))) := by
          unfold Hid NOwn
          rw [HRS.out, numsL_app, List.length_append, ← HNN.out]
          exact hown4
        have HB6 : Hid (Below w.heap.size w w5) := (B2.out.alloc B2.out.size (.cells #[.int .i64 (X : Int)] 3)).grown hgrow4 (by simp; have := B2.out.size; omega) (fun q hq => (HO.out.lt q hq).1)
        obtain ⟨a4, c4, rfl⟩ := own_slice hown4
        rw [HNK.out] at HE6 ⊢
        go_roundw
        case rel => exact ⟨k + 1, a4, c4, hlt, by go_num, rfl, HE6, HB6⟩
        case measure => simp [RowKit.intOf]; omega
      · have hd : decide (k < LN) = false := decide_eq_false hlt
        have hki : ¬ (k : Int) < (LN : Int) := by omega
        have HR : Hid (NOwn wr w.heap.size (.slice ra k rc) (rowI F l.length)) := by
          have hkl : k = l.length := by rw [← HLN.out]; omega
          unfold Hid; rw [← hkl]; exact HO.out
        clear hlt hk
        go_wp2_with fail
        go_ret2
        exact ⟨0, _, _, rfl, HER.out, .inl ⟨rfl, rfl⟩, HR.out, HB.out⟩
  · have t1 : decide (er = 0) = false := decide_eq_false h0
    have t2 : (er != 0) = true := by simp [h0]
    have t3 : (er == 0) = false := by simp [h0]
    go_wp2_with fail
    go_ret2
    exact ⟨er, _, [], rfl, HER.out, .inr ⟨h0, rfl⟩, NOwn.none _ _, HB1.out⟩
end

section
open Go Go.RowKit Go.Lib
def zerosI (n : Nat) : List Int := List.replicate n 0
theorem zeros_len (n : Nat) : (zerosI n).length = n := List.length_replicate
theorem zeros_ok (l : List AcT) : OwnOk l (zerosI l.length) := ⟨zeros_len _, fun x hx => by rw [List.eq_of_mem_replicate hx]; omega⟩
theorem zeros_made {w : World} {base n : Nat} {v : Value} (h : w.ownsRow base 3 1 v n (madeCells (Value.int .i64 0).cells (n * 1)).toList) : NOwn w base v (zerosI n) := by
  have e : (madeCells (Value.int .i64 0).cells (n * 1)).toList = numsL (zerosI n) := by
    rw [Nat.mul_one]
    unfold zerosI
    rw [show (Value.int .i64 0).cells = #[Value.int .i64 0] from rfl, toList_madeCells_one]
    simp [numsL]
  unfold NOwn
  rw [← e, zeros_len]; exact h
set_option maxRecDepth 100000 in
set_option maxHeartbeats 4000000 in
theorem refNorms_any (v : Value) (l : List AcT) (w : World) (hv : AcRow w v l) (hs : ∀ p ∈ l, Short p.1 ∧ Short p.2.1) (hl : l.length ≤ 1000) :
    Calls Tryd.prog 17 #[v] w fun e w' => ResPost l (zerosI l.length) (normI l) w e w' := by
  obtain ⟨i0, hi, hz0, hz1, hz2⟩ := info_parts Tryd.infoNum
  have CK : Hid (∀ vo w1, Below w.heap.size w w1 → GRow w1 vo (zerosI l.length) → Calls Tryd.prog 27 #[v, vo] w1 fun e w' => ShPost l (zerosI l.length) w1 e w') := fun vo w1 hb hg => refShCheck_any v vo l (zerosI l.length) w1 (hv.kept hb) hs hg (by rw [zeros_len]; omega)
  have SI : Hid (AccOk l → ∀ i, i < l.length → ∀ w0, Below w.heap.size w w0 → Calls Tryd.prog 31 #[v, .int .i64 (i : Nat)] w0 fun e w' => e = .returned (.int .i64 (normI l i : Nat)) ∧ Below w0.heap.size w0 w') := fun h1 i hi w0 hb => refNorm_ind v l w hv (Tree.mk' h1) i i (Nat.le_refl _) hi w0 hb
  obtain ⟨va, vc, rfl⟩ := hv.slice
  obtain ⟨F, hF⟩ : ∃ F, F = normI l := ⟨_, rfl⟩
  rw [← hF] at SI ⊢
  obtain ⟨LN, hLN⟩ : ∃ L, L = l.length := ⟨_, rfl⟩
  rw [← hLN] at CK SI hl ⊢
  have HLN := Lib.hid hLN
  clear hv hs hF hLN
  go_enter Tryd.func17, Tryd.ntmps17
  go_wp2_with (refine wpList_make_full _ rfl _ _ 23 rfl w.heap.size 3 i0 _ 1 Tryd.underlying23 hi hz0 hz1 .i64 .i64 LN LN LN rfl rfl rfl rfl (by rw [hz2]; omega) (by unfold maxLen; omega) (by simp) ?_; intro w0 hmk hgr; have HZ0 := Lib.hid (zeros_made hmk); have HB00 : Hid (Below w.heap.size w w0) := (Below.refl _ w).grown hgr (by simp) (fun j hj => by simp at hj))
  have C1 := Lib.hid (CK.out _ w0 HB00.out (grow_of_own HZ0.out))
  clear hmk hgr CK
  refine C1.out.mono ?_; rintro e w1 ⟨er, rfl, he, b1⟩
  have HB1 : Hid (Below w.heap.size w w1) := below_next b1 HB00.out
  have HER : Hid (ShCode l (zerosI LN) er) := he
  clear he b1 C1 HB00 HZ0
  by_cases h0 : er = 0
  · subst h0
    have hA : AccOk l := by
      rcases HER.out with ⟨_, h1, h2⟩ | ⟨h, _⟩ | ⟨h, _⟩
      · exact h1
      · cases h
      · cases h
    have S2 := Lib.hid (SI.out hA)
    have h50 : LN ≤ 50 := by rw [HLN.out]; exact hA.2.1
    clear hA SI
    go_wp2_with fail
    go_loopw [5, 6] (fun rv iv wr => ∃ (k : Nat) (ra : Option Addr) (rc : Nat), k ≤ LN ∧ iv = .int .i64 k ∧ rv = .slice ra k rc ∧ Hid (NOwn wr w.heap.size (.slice ra k rc) (rowI F k)) ∧ Hid (Below w.heap.size w wr)) (fun _ iv _ => LN - (RowKit.intOf iv).toNat)
    case atStart => exact ⟨0, _, _, Nat.zero_le _, rfl, rfl, NOwn.none _ _, HB1⟩
    case round =>
      obtain ⟨k, ra, rc, hk, rfl, rfl, HO, HB⟩ := hrel
      by_cases hlt : k < LN
      · have hd : decide (k < LN) = true := decide_eq_true hlt
        have hki : (k : Int) < (LN : Int) := by omega
        have C := Lib.hid (S2.out k hlt wr HB.out)
        obtain ⟨X, hX⟩ : ∃ X, X = F k := ⟨_, rfl⟩
        rw [← hX] at C
        have HRS : Hid (rowI F (k + 1) = rowI F k ++ [(X : Int)]) := by unfold Hid; rw [rowI_succ, hX]
        obtain ⟨N, hN⟩ : ∃ N, N = (rowI F k).length := ⟨_, rfl⟩
        have hNk : N = k := by rw [hN, rowI_len]
        have hN50 : N ≤ 50 := by omega
        have HNN := Lib.hid hN
        have HNK := Lib.hid hNk
        clear hX hN hNk
        go_wp2_with fail
        refine C.out.mono ?_; rintro e w2 ⟨rfl, b2⟩
        have B2 := Lib.hid (below_next b2 HB.out)
        have HO2 : Hid (w2.ownsRow w.heap.size 3 1 (.slice ra k rc) N (numsL (rowI F k))) := by unfold Hid; rw [HNN.out]; exact own_older HO.out b2
        clear b2 C
        go_wp2_with (at_builtin; refine wpList_append_own_at _ rfl _ _ 23 rfl w.heap.size 3 i0 _ 1 8 Tryd.underlying23 hi hz0 hz1 hz2 rfl (by decide) (.slice ra k rc) N _ rfl (World.ownsRow.alloc HO2.out _) ⟨w2.heap.size, 0, none⟩ 1 1 [.int .i64 (X : Int)] rfl rfl (news_alloc _ [.int .i64 (X : Int)] _) (by simp [Value.oneCell']) (by unfold maxLen; omega) (by omega) (by have := B2.out.size; simp; omega) ?_; intro v4 w5 hown4 hgrow4 _ hat4)
        have HE6 : Hid (NOwn w5 w.heap.size v4 (rowI F (k + 1))) := by
          unfold Hid NOwn
          rw [HRS.out, numsL_app, List.length_append, ← HNN.out]
          exact hown4
        have HB6 : Hid (Below w.heap.size w w5) := (B2.out.alloc B2.out.size (.cells #[.int .i64 (X : Int)] 3)).grown hgrow4 (by simp; have := B2.out.size; omega) (fun q hq => (HO.out.lt q hq).1)
        obtain ⟨a4, c4, rfl⟩ := own_slice hown4
        rw [HNK.out] at HE6 ⊢
        go_roundw
        case rel => exact ⟨k + 1, a4, c4, hlt, by go_num, rfl, HE6, HB6⟩
        case measure => simp [RowKit.intOf]; omega
      · have hd : decide (k < LN) = false := decide_eq_false hlt
        have hki : ¬ (k : Int) < (LN : Int) := by omega
        have HR : Hid (NOwn wr w.heap.size (.slice ra k rc) (rowI F l.length)) := by
          have hkl : k = l.length := by rw [← HLN.out]; omega
          unfold Hid; rw [← hkl]; exact HO.out
        clear hlt hk
        go_wp2_with fail
        go_ret2
        exact ⟨0, _, _, rfl, HER.out, .inl ⟨rfl, rfl⟩, HR.out, HB.out⟩
  · have t1 : decide (er = 0) = false := decide_eq_false h0
    have t2 : (er != 0) = true := by simp [h0]
    have t3 : (er == 0) = false := by simp [h0]
    go_wp2_with fail
    go_ret2
    exact ⟨er, _, [], rfl, HER.out, .inr ⟨h0, rfl⟩, NOwn.none _ _, HB1.out⟩
end

section
open Go Go.RowKit Go.Lib
theorem md_part (s a : Nat) (w : World) (hs : s ≤ a) (h0 : 0 < a) (ha : a ≤ 9223372036854775807) :
    Calls Tryd.prog 32 #[.int .i64 (s : Nat), .int .i64 65536, .int .i64 (a : Nat)] w fun e w' => e = .returned (.tuple #[.int .i64 (65536 * s / a : Nat), .int .i64 0]) ∧ Below w.heap.size w w' := by
  have h := MulDiv_any (s : Int) 65536 (a : Int) w (by unfold I64; omega) (by unfold I64; omega) (by unfold I64; omega)
  have hq : 65536 * s / a ≤ 65536 := Nat.div_le_of_le_mul (by rw [Nat.mul_comm a]; exact Nat.mul_le_mul_left _ hs)
  have hqi : (s : Int) * 65536 / (a : Int) = ((65536 * s / a : Nat) : Int) := by rw [Int.natCast_ediv, Int.natCast_mul, Int.mul_comm]; rfl
  obtain ⟨Q, hQ⟩ : ∃ Q, Q = 65536 * s / a := ⟨_, rfl⟩
  rw [← hQ] at hq hqi ⊢
  have e1 : mdE (s : Int) 65536 (a : Int) = 0 := by unfold mdE; rw [if_neg (by omega), hqi]; unfold fitE; first | rw [if_pos (by unfold I64; omega)] | simp <;> omega
  have e2 : mdV (s : Int) 65536 (a : Int) = (Q : Int) := by unfold mdV; rw [if_neg (by omega), hqi]; unfold fitV; first | rw [if_pos (by unfold I64; omega)] | simp <;> omega
  rwa [e1, e2] at h
theorem partI_zero {l : List AcT} {own : Nat → Nat} (h : sumI l own 0 = 0) (i : Nat) : partI l own i = 0 := by unfold partI; rw [h, Nat.div_zero]
set_option maxRecDepth 100000 in
set_option maxHeartbeats 4000000 in
theorem refParts_any (v vo : Value) (l : List AcT) (own : List Int) (w : World) (hv : AcRow w v l) (hs : ∀ p ∈ l, Short p.1 ∧ Short p.2.1) (ho : GRow w vo own) (hn : own.length ≤ 1048576) (hB : ∀ x ∈ own, x ≤ 9223372036854775807) :
    Calls Tryd.prog 19 #[v, vo] w fun e w' => ResPost l own (partI l (ownN own)) w e w' := by
  obtain ⟨i0, hi, hz0, hz1, hz2⟩ := info_parts Tryd.infoNum
  have SU := Lib.hid (refSums_any v vo l own w hv hs ho hn hB)
  have MD : Hid (∀ (s a : Nat) w, s ≤ a → 0 < a → a ≤ 9223372036854775807 → Calls Tryd.prog 32 #[.int .i64 (s : Nat), .int .i64 65536, .int .i64 (a : Nat)] w fun e w' => e = .returned (.tuple #[.int .i64 (65536 * s / a : Nat), .int .i64 0]) ∧ Below w.heap.size w w') := md_part
  obtain ⟨va, vc, rfl⟩ := hv.slice
  obtain ⟨oa, oc, rfl⟩ := ho.slice
  have PZ : Hid (sumI l (ownN own) 0 = 0 → ∀ i, partI l (ownN own) i = 0) := fun h i => partI_zero h i
  have PE : Hid (∀ i, partI l (ownN own) i = 65536 * sumI l (ownN own) i / sumI l (ownN own) 0) := fun i => rfl
  have SB : Hid (AccOk l → ∀ i, i < l.length → sumI l (ownN own) i ≤ sumI l (ownN own) 0) := fun h i hi => by
    have := totI_top (Tree.mk' h) (ownN own) i i (Nat.le_refl _) hi
    unfold sumI capN; omega
  have S0 : Hid (sumI l (ownN own) 0 ≤ 9223372036854775807) := cap_le _
  have PB : Hid (AccOk l → ∀ i, i < l.length → partI l (ownN own) i ≤ 65536) := fun h i hi => partI_le (Tree.mk' h) (ownN own) hi
  obtain ⟨F, hF⟩ : ∃ F, F = sumI l (ownN own) := ⟨_, rfl⟩
  obtain ⟨G, hG⟩ : ∃ G, G = partI l (ownN own) := ⟨_, rfl⟩
  rw [← hF] at SU PZ PE SB S0
  rw [← hG] at PZ PE PB ⊢
  obtain ⟨LN, hLN⟩ : ∃ L, L = l.length := ⟨_, rfl⟩
  obtain ⟨LO, hLO⟩ : ∃ L, L = own.length := ⟨_, rfl⟩
  rw [← hLN, ← hLO] at SU ⊢
  rw [← hLN] at SB PB
  have HLN := Lib.hid hLN
  clear hv hs ho hn hB hF hG hLN hLO
  go_enter Tryd.func19, Tryd.ntmps19
  go_wp2_with fail
  refine SU.out.mono ?_; rintro e w1 ⟨er, v1, L, rfl, he, hL, hv1, b1⟩
  have HB1 := Lib.hid b1
  have HER := Lib.hid he
  clear he b1 SU
  rcases hL with ⟨rfl, rfl⟩ | ⟨h0, rfl⟩
  · have hA : AccOk l := by
      rcases HER.out with ⟨_, h1, h2⟩ | ⟨h, _⟩ | ⟨h, _⟩
      · exact h1
      · cases h
      · cases h
    have h50 : LN ≤ 50 := by rw [HLN.out]; exact hA.2.1
    have h1n : 1 ≤ LN := by rw [HLN.out]; exact hA.1
    have SB2 := Lib.hid (SB.out hA)
    have PB2 := Lib.hid (PB.out hA)
    clear hA SB PB
    have HV1 := Lib.hid hv1
    rw [← HLN.out] at HV1
    have hgr := grow_of_own HV1.out
    obtain ⟨g, c, hve, _, _, _, _, hcell⟩ := nown_parts HV1.out (by rw [rowI_len]; exact h1n)
    rw [rowI_len] at hve hcell
    subst hve
    have HC : Hid (∀ i, i < LN → w1.cell? ⟨g, i, none⟩ = some (.int .i64 (F i : Nat))) := fun i hi => by have := hcell i hi; rwa [rowI_at F hi] at this
    clear hv1 hgr hcell
    go_wp2_with fail
    go_loopw [8, 9] (fun rv iv wr => ∃ (k : Nat) (ra : Option Addr) (rc : Nat), k ≤ LN ∧ iv = .int .i64 k ∧ rv = .slice ra k rc ∧ Hid (NOwn wr w1.heap.size (.slice ra k rc) (rowI G k)) ∧ Hid (Below w1.heap.size w1 wr)) (fun _ iv _ => LN - (RowKit.intOf iv).toNat)
    case atStart => exact ⟨0, _, _, Nat.zero_le _, rfl, rfl, NOwn.none _ _, Below.refl _ _⟩
    case round =>
      obtain ⟨k, ra, rc, hk, rfl, rfl, HO, HB⟩ := hrel
      by_cases hlt : k < LN
      · have hd : decide (k < LN) = true := decide_eq_true hlt
        have hki : (k : Int) < (LN : Int) := by omega
        have c0 := cell_next HB.out (HC.out 0 (by omega))
        have ck := cell_next HB.out (HC.out k hlt)
        have sb := SB2.out k hlt
        have s0 := S0.out
        have pb := PB2.out k hlt
        have pe := PE.out k
        have pz := PZ.out
        obtain ⟨A, hA⟩ : ∃ A, A = F 0 := ⟨_, rfl⟩
        obtain ⟨S, hS⟩ : ∃ S, S = F k := ⟨_, rfl⟩
        obtain ⟨X, hX⟩ : ∃ X, X = G k := ⟨_, rfl⟩
        rw [← hA] at c0 sb s0 pe pz
        rw [← hS] at ck sb pe
        rw [← hX] at pe pb
        have HRS : Hid (rowI G (k + 1) = rowI G k ++ [(X : Int)]) := by unfold Hid; rw [rowI_succ, hX]
        have HPZ : Hid (A = 0 → X = 0) := fun h => by rw [hX]; exact pz h k
        have HPE := Lib.hid pe
        obtain ⟨N, hN⟩ : ∃ N, N = (rowI G k).length := ⟨_, rfl⟩
        have hNk : N = k := by rw [hN, rowI_len]
        have hN50 : N ≤ 50 := by omega
        have HNN := Lib.hid hN
        have HNK := Lib.hid hNk
        have h0n : (0 : Int) < (LN : Int) := by omega
        have h0m : 0 < LN := by omega
        clear hA hS hX hN hNk pe pz
        have fin : ∀ (w2 : World), Below wr.heap.size wr w2 → Hid (w2.ownsRow w1.heap.size 3 1 (.slice ra k rc) N (numsL (rowI G k))) ∧ Hid (Below w1.heap.size w1 w2) := fun w2 b2 => by
          refine ⟨?_, below_next b2 HB.out⟩
          unfold Hid; rw [HNN.out]; exact own_older HO.out b2
        have FIN := Lib.hid fin
        have HO0 := HO
        clear fin
        by_cases hz : A = 0
        · have hX0 := HPZ.out hz
          subst hz
          subst hX0
          obtain ⟨HO2, B2⟩ := FIN.out wr (Below.refl _ _)
          go_wp2_with (at_builtin; refine wpList_append_own_at _ rfl _ _ 23 rfl w1.heap.size 3 i0 _ 1 8 Tryd.underlying23 hi hz0 hz1 hz2 rfl (by decide) (.slice ra k rc) N _ rfl (World.ownsRow.alloc HO2.out _) ⟨wr.heap.size, 0, none⟩ 1 1 [.int .i64 ((0 : Nat) : Int)] rfl rfl (news_alloc _ [.int .i64 ((0 : Nat) : Int)] _) (by simp [Value.oneCell']) (by unfold maxLen; omega) (by omega) (by have := B2.out.size; simp; omega) ?_; intro v4 w5 hown4 hgrow4 _ hat4)
          have HE6 : Hid (NOwn w5 w1.heap.size v4 (rowI G (k + 1))) := by
            unfold Hid NOwn
            rw [HRS.out, numsL_app, List.length_append, ← HNN.out]
            exact hown4
          have HB6 : Hid (Below w1.heap.size w1 w5) := (B2.out.alloc B2.out.size (.cells #[.int .i64 ((0 : Nat) : Int)] 3)).grown hgrow4 (by simp; have := B2.out.size; omega) (fun q hq => (HO0.out.lt q hq).1)
          obtain ⟨a4, c4, rfl⟩ := own_slice hown4
          rw [HNK.out] at HE6 ⊢
          go_roundw
          case rel => exact ⟨k + 1, a4, c4, hlt, by go_num, rfl, HE6, HB6⟩
          case measure => simp [RowKit.intOf]; omega

        · have z1 : (A == 0) = false := by simp; omega
          have z2 : decide (A = 0) = false := decide_eq_false hz
          have z4 : ¬ (A : Int) = 0 := by omega
          have z5 : ((A : Int) == 0) = false := by rw [beq_eq_false_iff_ne]; exact z4
          have z6 : ((A : Int) != 0) = true := by rw [bne_iff_ne]; exact z4
          have MDK : Hid (∀ w, Calls Tryd.prog 32 #[.int .i64 (S : Nat), .int .i64 65536, .int .i64 (A : Nat)] w fun e w' => e = .returned (.tuple #[.int .i64 (X : Nat), .int .i64 0]) ∧ Below w.heap.size w w') := fun w => by rw [HPE.out]; exact MD.out S A w sb (by omega) s0
          go_wp2_with fail
          go_region_held3 (fun w' => w'.cell? ⟨g, 0, none⟩ = some (.int .i64 (A : Nat)) ∧ w'.cell? ⟨g, k, none⟩ = some (.int .i64 (S : Nat)) ∧ Below wr.heap.size wr w')
            (first
              | exact ⟨c0, ck, (Below.refl _ wr).drew⟩
              | (rcases ‹_ ∧ _ ∧ Below _ _ _› with ⟨g0, g1, g6⟩; exact ⟨cell_next (by assumption) g0, cell_next (by assumption) g1, below_next (by assumption) g6⟩))
            (first
              | (go_at_call 32; ((with_reducible refine (MDK.out _).mono ?_); rintro e w2 ⟨rfl, b2⟩)))
          rcases ‹_ ∧ _ ∧ Below _ _ _› with ⟨_, _, g6⟩
          obtain ⟨HO2, B2⟩ := FIN.out w2 g6
          go_wp2_with (at_builtin; refine wpList_append_own_at _ rfl _ _ 23 rfl w1.heap.size 3 i0 _ 1 8 Tryd.underlying23 hi hz0 hz1 hz2 rfl (by decide) (.slice ra k rc) N _ rfl (World.ownsRow.alloc HO2.out _) ⟨w2.heap.size, 0, none⟩ 1 1 [.int .i64 (X : Int)] rfl rfl (news_alloc _ [.int .i64 (X : Int)] _) (by simp [Value.oneCell']) (by unfold maxLen; omega) (by omega) (by have := B2.out.size; simp; omega) ?_; intro v4 w5 hown4 hgrow4 _ hat4)
          have HE6 : Hid (NOwn w5 w1.heap.size v4 (rowI G (k + 1))) := by
            unfold Hid NOwn
            rw [HRS.out, numsL_app, List.length_append, ← HNN.out]
            exact hown4
          have HB6 : Hid (Below w1.heap.size w1 w5) := (B2.out.alloc B2.out.size (.cells #[.int .i64 (X : Int)] 3)).grown hgrow4 (by simp; have := B2.out.size; omega) (fun q hq => (HO0.out.lt q hq).1)
          obtain ⟨a4, c4, rfl⟩ := own_slice hown4
          rw [HNK.out] at HE6 ⊢
          go_roundw
          case rel => exact ⟨k + 1, a4, c4, hlt, by go_num, rfl, HE6, HB6⟩
          case measure => simp [RowKit.intOf]; omega

      · have hd : decide (k < LN) = false := decide_eq_false hlt
        have hki : ¬ (k : Int) < (LN : Int) := by omega
        have HR : Hid (NOwn wr w.heap.size (.slice ra k rc) (rowI G l.length)) := by
          have hkl : k = l.length := by rw [← HLN.out]; omega
          unfold Hid; rw [← hkl]; exact own_low HO.out HB1.out.size
        clear hlt hk
        go_wp2_with fail
        go_ret2
        exact ⟨0, _, _, rfl, HER.out, .inl ⟨rfl, rfl⟩, HR.out, below_next HB.out HB1.out⟩
  · have t1 : decide (er = 0) = false := decide_eq_false h0
    have t2 : (er != 0) = true := by simp [h0]
    have t3 : (er == 0) = false := by simp [h0]
    obtain ⟨va1, vc1, rfl⟩ := own_slice hv1
    clear hv1
    go_wp2_with fail
    go_ret2
    exact ⟨er, _, [], rfl, HER.out, .inr ⟨h0, rfl⟩, NOwn.none _ _, HB1.out⟩
end

section
open Go Go.RowKit Go.Lib
set_option maxRecDepth 100000 in
set_option maxHeartbeats 4000000 in
theorem refFactors_any (v vo : Value) (l : List AcT) (own : List Int) (w : World) (hv : AcRow w v l) (hs : ∀ p ∈ l, Short p.1 ∧ Short p.2.1) (ho : GRow w vo own) (hn : own.length ≤ 1048576) (hB : ∀ x ∈ own, x ≤ 9223372036854775807) :
    Calls Tryd.prog 21 #[v, vo] w fun e w' => ResPost l own (facI l (ownN own)) w e w' := by
  obtain ⟨i0, hi, hz0, hz1, hz2⟩ := info_parts Tryd.infoNum
  have SU := Lib.hid (refParts_any v vo l own w hv hs ho hn hB)
  have NM : Hid (AccOk l → ∀ i, i < l.length → ∀ w0, Below w.heap.size w w0 → Calls Tryd.prog 31 #[v, .int .i64 (i : Nat)] w0 fun e w' => e = .returned (.int .i64 (normI l i : Nat)) ∧ Below w0.heap.size w0 w') := fun h1 i hi w0 hb => refNorm_ind v l w hv (Tree.mk' h1) i i (Nat.le_refl _) hi w0 hb
  obtain ⟨va, vc, rfl⟩ := hv.slice
  obtain ⟨oa, oc, rfl⟩ := ho.slice
  have NB : Hid (AccOk l → ∀ i, i < l.length → normI l i ≤ 65536) := fun h i hi => normI_le (Tree.mk' h) i i (Nat.le_refl _) hi
  have PB : Hid (AccOk l → ∀ i, i < l.length → partI l (ownN own) i ≤ 65536) := fun h i hi => partI_le (Tree.mk' h) (ownN own) hi
  have GE : Hid (∀ i, facI l (ownN own) i = 65536 * normI l i / (normI l i + partI l (ownN own) i)) := fun i => rfl
  obtain ⟨F, hF⟩ : ∃ F, F = partI l (ownN own) := ⟨_, rfl⟩
  obtain ⟨G, hG⟩ : ∃ G, G = facI l (ownN own) := ⟨_, rfl⟩
  obtain ⟨M, hM⟩ : ∃ M, M = normI l := ⟨_, rfl⟩
  rw [← hF] at SU PB GE
  rw [← hM] at NM NB GE
  rw [← hG] at GE ⊢
  obtain ⟨LN, hLN⟩ : ∃ L, L = l.length := ⟨_, rfl⟩
  obtain ⟨LO, hLO⟩ : ∃ L, L = own.length := ⟨_, rfl⟩
  rw [← hLN, ← hLO] at SU ⊢
  rw [← hLN] at NM NB PB
  have HLN := Lib.hid hLN
  clear hv hs ho hn hB hF hG hM hLN hLO
  go_enter Tryd.func21, Tryd.ntmps21
  go_wp2_with fail
  refine SU.out.mono ?_; rintro e w1 ⟨er, v1, L, rfl, he, hL, hv1, b1⟩
  have HB1 := Lib.hid b1
  have HER := Lib.hid he
  clear he b1 SU
  rcases hL with ⟨rfl, rfl⟩ | ⟨h0, rfl⟩
  · have hA : AccOk l := by
      rcases HER.out with ⟨_, h1, h2⟩ | ⟨h, _⟩ | ⟨h, _⟩
      · exact h1
      · cases h
      · cases h
    have h50 : LN ≤ 50 := by rw [HLN.out]; exact hA.2.1
    have h1n : 1 ≤ LN := by rw [HLN.out]; exact hA.1
    have NM2 := Lib.hid (NM.out hA)
    have NB2 := Lib.hid (NB.out hA)
    have PB2 := Lib.hid (PB.out hA)
    clear hA NM NB PB
    have HV1 := Lib.hid hv1
    rw [← HLN.out] at HV1
    have hgr := grow_of_own HV1.out
    obtain ⟨g, c, hve, _, _, _, _, hcell⟩ := nown_parts HV1.out (by rw [rowI_len]; exact h1n)
    rw [rowI_len] at hve hcell
    subst hve
    have HC : Hid (∀ i, i < LN → w1.cell? ⟨g, i, none⟩ = some (.int .i64 (F i : Nat))) := fun i hi => by have := hcell i hi; rwa [rowI_at F hi] at this
    clear hv1 hgr hcell
    go_wp2_with fail
    go_loopw [8, 9] (fun rv iv wr => ∃ (k : Nat) (ra : Option Addr) (rc : Nat), k ≤ LN ∧ iv = .int .i64 k ∧ rv = .slice ra k rc ∧ Hid (NOwn wr w1.heap.size (.slice ra k rc) (rowI G k)) ∧ Hid (Below w1.heap.size w1 wr)) (fun _ iv _ => LN - (RowKit.intOf iv).toNat)
    case atStart => exact ⟨0, _, _, Nat.zero_le _, rfl, rfl, NOwn.none _ _, Below.refl _ _⟩
    case round =>
      obtain ⟨k, ra, rc, hk, rfl, rfl, HO, HB⟩ := hrel
      by_cases hlt : k < LN
      · have hd : decide (k < LN) = true := decide_eq_true hlt
        have hki : (k : Int) < (LN : Int) := by omega
        have ck := cell_next HB.out (HC.out k hlt)
        have nb := NB2.out k hlt
        have pb := PB2.out k hlt
        have ge := GE.out k
        have NK := Lib.hid (NM2.out k hlt wr (below_next HB.out HB1.out))
        obtain ⟨S, hS⟩ : ∃ S, S = F k := ⟨_, rfl⟩
        obtain ⟨A, hA⟩ : ∃ A, A = M k := ⟨_, rfl⟩
        obtain ⟨X, hX⟩ : ∃ X, X = G k := ⟨_, rfl⟩
        rw [← hS] at ck pb ge
        rw [← hA] at NK nb ge
        rw [← hX] at ge
        have HRS : Hid (rowI G (k + 1) = rowI G k ++ [(X : Int)]) := by unfold Hid; rw [rowI_succ, hX]
        have HPE := Lib.hid ge
        obtain ⟨N, hN⟩ : ∃ N, N = (rowI G k).length := ⟨_, rfl⟩
        have hNk : N = k := by rw [hN, rowI_len]
        have hN50 : N ≤ 50 := by omega
        have HNN := Lib.hid hN
        have HNK := Lib.hid hNk
        have h0n : (0 : Int) < (LN : Int) := by omega
        have h0m : 0 < LN := by omega
        clear hA hS hX hN hNk ge
        have fin : ∀ (w2 : World), Below wr.heap.size wr w2 → Hid (w2.ownsRow w1.heap.size 3 1 (.slice ra k rc) N (numsL (rowI G k))) ∧ Hid (Below w1.heap.size w1 w2) := fun w2 b2 => by
          refine ⟨?_, below_next b2 HB.out⟩
          unfold Hid; rw [HNN.out]; exact own_older HO.out b2
        have FIN := Lib.hid fin
        have HO0 := HO
        clear fin
        go_wp2_with fail
        refine NK.out.mono ?_; rintro e w2 ⟨rfl, b2⟩
        obtain ⟨HO2, B2⟩ := FIN.out w2 b2
        replace ck := cell_next b2 ck
        clear b2 NK
        by_cases hz : A + S = 0
        · have hA0 : A = 0 := by omega
          have hS0 : S = 0 := by omega
          have hX0 : X = 0 := by rw [HPE.out, hA0, Nat.mul_zero, Nat.zero_div]
          subst hA0; subst hS0; subst hX0
          go_wp2_with (at_builtin; refine wpList_append_own_at _ rfl _ _ 23 rfl w1.heap.size 3 i0 _ 1 8 Tryd.underlying23 hi hz0 hz1 hz2 rfl (by decide) (.slice ra k rc) N _ rfl (World.ownsRow.alloc HO2.out _) ⟨w2.heap.size, 0, none⟩ 1 1 [.int .i64 ((0 : Nat) : Int)] rfl rfl (news_alloc _ [.int .i64 ((0 : Nat) : Int)] _) (by simp [Value.oneCell']) (by unfold maxLen; omega) (by omega) (by have := B2.out.size; simp; omega) ?_; intro v4 w5 hown4 hgrow4 _ hat4)
          have HE6 : Hid (NOwn w5 w1.heap.size v4 (rowI G (k + 1))) := by
            unfold Hid NOwn
            rw [HRS.out, numsL_app, List.length_append, ← HNN.out]
            exact hown4
          have HB6 : Hid (Below w1.heap.size w1 w5) := (B2.out.alloc B2.out.size (.cells #[.int .i64 ((0 : Nat) : Int)] 3)).grown hgrow4 (by simp; have := B2.out.size; omega) (fun q hq => (HO0.out.lt q hq).1)
          obtain ⟨a4, c4, rfl⟩ := own_slice hown4
          rw [HNK.out] at HE6 ⊢
          go_roundw
          case rel => exact ⟨k + 1, a4, c4, hlt, by go_num, rfl, HE6, HB6⟩
          case measure => simp [RowKit.intOf]; omega

        · have z4 : ¬ (A : Int) + (S : Int) = 0 := by omega
          have z5 : ((A : Int) + (S : Int) == 0) = false := by rw [beq_eq_false_iff_ne]; exact z4
          have z6 : ¬ (A = 0 ∧ S = 0) := by omega
          obtain ⟨T, hT⟩ : ∃ T, T = A + S := ⟨_, rfl⟩
          obtain ⟨P, hP⟩ : ∃ P, P = 65536 * A := ⟨_, rfl⟩
          have hXe : X = P / T := by rw [HPE.out, hT, hP]
          have hXb : X ≤ 65536 := by
            rw [hXe, hP, hT]
            refine Nat.div_le_of_le_mul ?_
            rw [Nat.mul_comm]; exact Nat.mul_le_mul_right _ (by omega)
          have hTi : (A : Int) + (S : Int) = (T : Int) := by omega
          have hPi : (65536 : Int) * (A : Int) = (P : Int) := by omega
          have hPb : P ≤ 4294967296 := by omega
          have hT1 : 1 ≤ T := by omega
          have hTb : T ≤ 131072 := by omega
          have hT0 : (T : Int) ≠ 0 := by omega
          have hQ : (P : Int) / (T : Int) = (X : Int) := by rw [hXe]; simp
          clear hXe hT hP HPE
          go_wp2_with (at_builtin; refine wpList_append_own_at _ rfl _ _ 23 rfl w1.heap.size 3 i0 _ 1 8 Tryd.underlying23 hi hz0 hz1 hz2 rfl (by decide) (.slice ra k rc) N _ rfl (World.ownsRow.alloc HO2.out _) ⟨w2.heap.size, 0, none⟩ 1 1 [.int .i64 (X : Int)] rfl rfl (news_alloc _ [.int .i64 (X : Int)] _) (by simp [Value.oneCell']) (by unfold maxLen; omega) (by omega) (by have := B2.out.size; simp; omega) ?_; intro v4 w5 hown4 hgrow4 _ hat4)
          have HE6 : Hid (NOwn w5 w1.heap.size v4 (rowI G (k + 1))) := by
            unfold Hid NOwn
            rw [HRS.out, numsL_app, List.length_append, ← HNN.out]
            exact hown4
          have HB6 : Hid (Below w1.heap.size w1 w5) := (B2.out.alloc B2.out.size (.cells #[.int .i64 (X : Int)] 3)).grown hgrow4 (by simp; have := B2.out.size; omega) (fun q hq => (HO0.out.lt q hq).1)
          obtain ⟨a4, c4, rfl⟩ := own_slice hown4
          rw [HNK.out] at HE6 ⊢
          go_roundw
          case rel => exact ⟨k + 1, a4, c4, hlt, by go_num, rfl, HE6, HB6⟩
          case measure => simp [RowKit.intOf]; omega

      · have hd : decide (k < LN) = false := decide_eq_false hlt
        have hki : ¬ (k : Int) < (LN : Int) := by omega
        have HR : Hid (NOwn wr w.heap.size (.slice ra k rc) (rowI G l.length)) := by
          have hkl : k = l.length := by rw [← HLN.out]; omega
          unfold Hid; rw [← hkl]; exact own_low HO.out HB1.out.size
        clear hlt hk
        go_wp2_with fail
        go_ret2
        exact ⟨0, _, _, rfl, HER.out, .inl ⟨rfl, rfl⟩, HR.out, below_next HB.out HB1.out⟩
  · have t1 : decide (er = 0) = false := decide_eq_false h0
    have t2 : (er != 0) = true := by simp [h0]
    have t3 : (er == 0) = false := by simp [h0]
    obtain ⟨va1, vc1, rfl⟩ := own_slice hv1
    clear hv1
    go_wp2_with fail
    go_ret2
    exact ⟨er, _, [], rfl, HER.out, .inr ⟨h0, rfl⟩, NOwn.none _ _, HB1.out⟩
end

end Go.Proofs.YtbnlmeegepgioaaDoor
