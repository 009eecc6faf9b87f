/-
  Layer 17: crate.Get at any bytes.
-/
import Derived.Test.YtgohnidndjbjiaaCrateB
namespace Go.Proofs.Ytgohnidndjbjiaa
open Go Go.RowKit Go.Lib
set_option linter.unusedVariables false

/-- How long the crate at the begin says that its body is. -/
def lenB (r : List UInt8) : Nat := (r.getD 1 0).toNat * 256 + (r.getD 2 0).toNat
/-- Does a crate stand at the begin? -/
def isB (r : List UInt8) : Bool := decide (3 ≤ r.length) && (r.getD 0 0 == 197) && decide (lenB r ≤ 8000) && decide (lenB r + 7 ≤ r.length) && (sumB ((r.drop 1).take (lenB r + 2)) == numB ((r.drop (lenB r + 3)).take 4))
/-- What Get answers where there is none. -/
def noB (r : List UInt8) : Int := if r.length = 0 ∨ r.getD 0 0 = 0 then 170 else 171

theorem get_out {A : Option Addr} {n c : Nat} (w : World) (k : Int) (h : k < 0 ∨ (n : Int) < k) :
    Calls Try.prog 59 #[.slice A n c, .int .i64 k] w fun e w' => e = .returned (.tuple #[.slice none 0 0, .int .i64 0, .int .i64 2]) ∧ w' = w := by
  by_cases h0 : k < 0
  · clear h
    go_enter Try.func59, Try.ntmps59
    go_wp2_with fail
    go_returns
    exact ⟨rfl, rfl⟩
  · have h1 : (n : Int) < k := by omega
    clear h
    go_enter Try.func59, Try.ntmps59
    go_wp2_with fail
    go_returns
    exact ⟨rfl, rfl⟩
theorem get_end {A : Option Addr} {n c : Nat} (w : World) (hc : n ≤ c) (hm : c ≤ maxLen) :
    Calls Try.prog 59 #[.slice A n c, .int .i64 n] w fun e w' => e = .returned (.tuple #[.slice none 0 0, .int .i64 0, .int .i64 170]) ∧ w' = w := by
  have t1 : ¬ (n : Int) < 0 := by omega
  unfold maxLen at hm
  by_cases h0 : c = n
  · subst h0
    go_enter Try.func59, Try.ntmps59
    go_wp2_with fail
    go_returns
    exact ⟨rfl, rfl⟩
  · go_enter Try.func59, Try.ntmps59
    go_wp2_with fail
    go_returns
    exact ⟨rfl, rfl⟩
/-- Get behind its cut. -/
def GetTo (w : World) (k : Int) (r : List UInt8) (e : Ending) (w' : World) : Prop :=
  (isB r = false ∧ e = .returned (.tuple #[.slice none 0 0, .int .i64 0, .int .i64 (noB r)]) ∧ Below w.heap.size w w') ∨
  (isB r = true ∧ ∃ v', e = .returned (.tuple #[v', .int .i64 (k + lenB r + 7), .int .i64 0]) ∧ w'.ownsRow w.heap.size 5 1 v' (lenB r) (bts ((r.drop 3).take (lenB r))) ∧ Below w.heap.size w w')
theorem getD_at (r : List UInt8) (j : Nat) (h : j < r.length) : r.getD j 0 = r[j] := by simp [List.getD, h]
theorem quiet_sum {P : Program} {f : FuncId} {args : Array Value} {w : World} {n m : Nat} {v : Value} (h : Calls P f args (w.drewN (n + m)) fun e w' => e = .returned v ∧ w' = w.drewN (n + m)) :
    Calls P f args (w.drewN (n + m)) fun e w'' => e = .returned v ∧ ∃ k, w'' = w.drewN (n + k) := h.mono fun _ _ ⟨he, hm⟩ => ⟨he, m, hm⟩
theorem rd_byte {w : World} {K : Nat → Prop} {g o n c : Nat} {xs : List UInt8} (h : Rd w K (.slice (some ⟨g, o, none⟩) n c) (bts xs)) (k : Nat) (hk : k < xs.length) :
    w.cell? ⟨g, o + k, none⟩ = some (.int .u8 ((xs.getD k 0).toNat : Int)) := by
  obtain ⟨_, _, e0, _, _, c0⟩ := rd_at h hk
  injection e0 with e0
  injection e0 with e1 e2 _
  subst e1 e2
  rw [c0, getD_at xs k hk]
set_option maxRecDepth 100000 in
set_option maxHeartbeats 1000000 in
theorem get_in {w : World} {K : Nat → Prop} {A : Option Addr} {n c : Nat} {bs : List UInt8} (h : Rd w K (.slice A n c) (bts bs)) (k : Nat) (hk : k < bs.length) (hn : bs.length ≤ 1048576) :
    Calls Try.prog 59 #[.slice A n c, .int .i64 k] w (GetTo w k (bs.drop k)) := by
  obtain ⟨hA, hc, hcm⟩ : n = bs.length ∧ n ≤ c ∧ c ≤ maxLen := by
    obtain ⟨A', c', h1, h2, h3, _⟩ := h
    injection h1 with h1 h4 h5
    subst h5
    rw [bts_len] at h4 h2
    exact ⟨h4, by omega, h3⟩
  subst hA
  obtain ⟨b, off, rfl, _, _, cc⟩ := rd_at h hk
  have HR := Lib.hid (rd_drop h k hk (c - k) (by omega) (by unfold maxLen at *; omega))
  obtain ⟨r, hr⟩ : ∃ r, r = bs.drop k := ⟨_, rfl⟩
  have hL : r.length = bs.length - k := by rw [hr, List.length_drop]
  rw [← hr] at HR ⊢
  have t1 : ¬ (k : Int) < 0 := by omega
  have t2 : ¬ (bs.length : Int) < k := by omega
  have t3 : k ≤ bs.length := by omega
  have t4 : ¬ c = k := by omega
  have t5 : bs.length - k = r.length := hL.symm
  have hr0 : 0 < r.length := by omega
  have hD : r.length ≤ c - k := by omega
  have HD := Lib.hid hD
  have HL0 := Lib.hid hr0
  have HKL : Hid (k + r.length ≤ 1048576) := by unfold Hid; omega
  have HR2 : Hid (Rd w K (.slice (some ⟨b, off + k, none⟩) r.length (c - k)) (bts r)) := by rw [← t5]; exact HR.out
  have c0 := rd_byte HR2.out 0 hr0
  rw [Nat.add_zero] at c0
  obtain ⟨L, hLr⟩ : ∃ L, L = r.length := ⟨_, rfl⟩
  rw [← hLr] at HR2 HD HL0 HKL t5
  have HLR := Lib.hid hLr
  unfold maxLen at hcm
  clear hr hL HR h cc hk hr0 hD hLr
  go_enter Try.func59, Try.ntmps59
  go_upto_region 4 with fail
  have HDm : Hid (c - k ≤ maxLen) := by unfold Hid maxLen; omega
  generalize c - k = D at *
  have hD := HD.out
  have hL0 := HL0.out
  have tl : ((L : Int) == 0) = false := by simp; omega
  have tl2 : (L == 0) = false := by simp; omega
  by_cases hz : r.getD 0 0 = 0
  · have hi : isB r = false := by unfold isB; rw [hz]; simp
    have hn0 : noB r = 170 := by unfold noB; rw [if_pos (.inr hz)]
    have HI := Lib.hid hi
    have HN := Lib.hid hn0
    rw [hz] at c0
    clear hz hi hn0
    go_wp2_with fail
    go_returns
    exact .inl ⟨HI.out, by rw [HN.out]; rfl, Below.refl _ _⟩
  · have hn1 : noB r = 171 := by unfold noB; rw [if_neg (by intro h; rcases h with h | h; (have := HLR.out; omega); exact hz h)]
    have HN := Lib.hid hn1
    have tz : (((r.getD 0 0).toNat : Int) == 0) = false := by
      have : (r.getD 0 0).toNat ≠ 0 := fun h => hz (UInt8.toNat_inj.1 h)
      exact beq_eq_false_iff_ne.2 (by omega)
    clear hn1
    by_cases hq : r.getD 0 0 = 197
    · rw [hq] at c0
      clear tz
      by_cases h3 : L < 3
      · have hi : isB r = false := by unfold isB; rw [decide_eq_false (by have := HLR.out; omega)]; simp
        have HI := Lib.hid hi
        have t6 : decide ((L : Int) < 3) = true := decide_eq_true (by omega)
        clear hz hq hi
        go_wp2_with fail
        go_returns
        exact .inl ⟨HI.out, by rw [HN.out]; rfl, Below.refl _ _⟩
      · have t6 : decide ((L : Int) < 3) = false := decide_eq_false (by omega)
        have c1 := rd_byte HR2.out 1 (by have := HLR.out; omega)
        have c2 := rd_byte HR2.out 2 (by have := HLR.out; omega)
        have HLn : Hid (lenB r = (r.getD 1 0).toNat * 256 + (r.getD 2 0).toNat) := rfl
        have HQ := Lib.hid hq
        have q1l := (r.getD 1 0).toNat_lt
        have q2l := (r.getD 2 0).toNat_lt
        generalize (r.getD 1 0).toNat = Q1 at *
        generalize (r.getD 2 0).toNat = Q2 at *
        clear hz hq
        have h1 : (1 : Int) < L := by omega
        have h2 : (2 : Int) < L := by omega
        obtain ⟨N, hN⟩ : ∃ N, N = Q1 * 256 + Q2 := ⟨_, rfl⟩
        have hNl : N ≤ 65535 := by omega
        have en : (Q1 : Int) * 256 + (Q2 : Int) = (N : Int) := by omega
        have HLN : Hid (lenB r = N) := by rw [HLn.out, hN]; rfl
        obtain ⟨E, hE⟩ : ∃ E, E = N + 3 := ⟨_, rfl⟩
        have eE : 3 + (N : Int) = (E : Int) := by omega
        obtain ⟨F, hF⟩ : ∃ F, F = E + 4 := ⟨_, rfl⟩
        have eF : IntKind.i64.wrap ((E : Int) + 4) = (F : Int) := by rw [IntKind.wrap_i64]; omega
        have HE := Lib.hid hE
        have HF := Lib.hid hF
        have HQ1 : Hid (3 ≤ r.length) := by have := HLR.out; unfold Hid; omega
        clear hN HLn hE hF
        by_cases h8 : 8000 < N
        · have t8 : decide ((N : Int) > 8000) = true := decide_eq_true (by omega)
          have hi : isB r = false := by unfold isB; rw [HLN.out, show decide (N ≤ 8000) = false from decide_eq_false (by omega)]; simp
          have HI := Lib.hid hi
          clear hi
          go_wp2_with fail
          go_quiet (fail)
          go_wp2_with fail
          go_quiet (fail)
          go_wp2_with fail
          go_returns
          exact .inl ⟨HI.out, by rw [HN.out]; rfl, (by first | exact below_drewN (Below.refl _ _) _ | exact below_drewN (below_drewN (Below.refl _ _) _) _)⟩
        · have t8 : decide ((N : Int) > 8000) = false := decide_eq_false (by omega)
          by_cases h9 : L < F
          · have t9 : decide ((L : Int) < F) = true := decide_eq_true (by omega)
            have t9' : decide (L < F) = true := decide_eq_true h9
            have hi : isB r = false := by unfold isB; rw [HLN.out, show decide (N + 7 ≤ r.length) = false from decide_eq_false (by have := HLR.out; have := HE.out; have := HF.out; omega)]; simp
            have HI := Lib.hid hi
            clear hi
            go_wp2_with fail
            go_quiet (fail)
            go_wp2_with fail
            go_quiet (fail)
            go_wp2_with fail
            go_returns
            exact .inl ⟨HI.out, by rw [HN.out]; rfl, (by first | exact below_drewN (Below.refl _ _) _ | exact below_drewN (below_drewN (Below.refl _ _) _) _)⟩
          · have t9 : decide ((L : Int) < F) = false := decide_eq_false (by omega)
            have t9' : decide (L < F) = false := decide_eq_false h9
            have hEL : E + 4 ≤ L := by have := HF.out; omega
            have hED : E ≤ D := by omega
            have d1 : ¬ D = 1 := by have := HE.out; omega
            have d2 : ¬ D = E := by omega
            have e1 : 1 ≤ E := by have := HE.out; omega
            have d3 : (E : Int) ≤ D := by omega
            have d4 : (1 : Int) ≤ E := by omega
            obtain ⟨S1, hS1⟩ : ∃ S1, S1 = sumB ((r.drop 1).take (N + 2)) := ⟨_, rfl⟩
            obtain ⟨S2, hS2⟩ : ∃ S2, S2 = numB ((r.drop (N + 3)).take 4) := ⟨_, rfl⟩
            have C1 : Hid (∀ q, Calls Try.prog 55 #[.slice (some ⟨b, off + k + 1, none⟩) (E - 1) (D - 1)] (w.drewN q) fun e w' => e = .returned (.int .u32 S1) ∧ w' = w.drewN q) := fun q => by
              have h0 := HR2.out.fr ((Fr.refl (fun _ => False) w).drewN q) fun _ _ _ h => h
              have h1 := rd_drop h0 1 (by have := HLR.out; omega) (D - 1) (by have := HLR.out; omega) (by have := HDm.out; omega)
              have h2 := rd_take (n := E - 1) (by rw [List.length_drop]; exact h1) (by rw [List.length_drop]; have := HLR.out; omega)
              have h3 := sum_any h2 (by rw [List.length_take, List.length_drop]; have := HLR.out; have := HKL.out; omega)
              rw [show E - 1 = N + 2 by have := HE.out; omega] at h3 ⊢
              rw [hS1]; exact h3
            have C2 : Hid (∀ q, Calls Try.prog 62 #[.slice (some ⟨b, off + k + E, none⟩) (L - E) (D - E)] (w.drewN q) fun e w' => e = .returned (.int .u32 S2) ∧ w' = w.drewN q) := fun q => by
              have h0 := HR2.out.fr ((Fr.refl (fun _ => False) w).drewN q) fun _ _ _ h => h
              have h1 := rd_drop h0 E (by have := HLR.out; omega) (D - E) (by have := HLR.out; omega) (by have := HDm.out; omega)
              have h3 := readSum_any h1 (by rw [List.length_drop]; have := HLR.out; omega)
              rw [← HLR.out] at h3
              rw [hS2, ← HE.out]; exact h3
            have HB : Hid (isB r = (S1 == S2)) := by
              unfold isB Hid
              rw [HLN.out, decide_eq_true HQ1.out, HQ.out, decide_eq_true (show N ≤ 8000 by omega), decide_eq_true (show N + 7 ≤ r.length by have := HLR.out; have := HE.out; have := HF.out; omega), hS1, hS2]
              simp
            clear hS1 hS2
            by_cases hS : S1 = S2
            · subst hS
              have tS : ((S1 : Int) != (S1 : Int)) = false := by simp
              have HI : Hid (isB r = true) := by rw [HB.out]; simp [Hid]
              obtain ⟨bd, hbd⟩ : ∃ bd, bd = (r.drop 3).take N := ⟨_, rfl⟩
              have C3 : Hid (∀ wq, Fr (fun _ => False) w wq → Calls Try.prog 63 #[.slice (some ⟨b, off + k + 3, none⟩) (E - 3) (D - 3)] wq (CopyTo wq bd)) := fun wq hF => by
                have h0 := HR2.out.fr hF fun _ _ _ h => h
                have h1 := rd_drop h0 3 (by have := HLR.out; have := HE.out; omega) (D - 3) (by have := HLR.out; omega) (by have := HDm.out; omega)
                have h2 := rd_take (n := E - 3) (by rw [List.length_drop]; exact h1) (by rw [List.length_drop]; have := HLR.out; omega)
                have h3 := cloneB_any h2 (by rw [List.length_take, List.length_drop]; have := HLR.out; have := HKL.out; omega)
                rw [show E - 3 = N by have := HE.out; omega] at h3 ⊢
                rw [hbd]; exact h3
              have d5 : ¬ D = 3 := by have := HE.out; omega
              have d6 : 3 ≤ E := by have := HE.out; omega
              have d7 : (3 : Int) ≤ E := by omega
              have LN : bd.length = N := by rw [hbd, List.length_take, List.length_drop]; have := HLR.out; have := HE.out; omega
              have HBD := Lib.hid hbd
              clear HB hbd
              have eR : Hid ((k : Int) + (E : Int) + 4 = (k : Int) + (lenB r : Nat) + 7) := by rw [HLN.out]; have := HE.out; unfold Hid; omega
              go_wp2_with fail
              go_quiet (fail)
              go_wp2_with fail
              go_quiet (first
                | (go_at_call 55; first | exact Calls.quiet_of_same (C1.out _) | exact quiet_sum (C1.out _))
                | (go_at_call 62; first | exact Calls.quiet_of_same (C2.out _) | exact quiet_sum (C2.out _)))
              go_wp2_with fail
              refine (C3.out _ (by first | exact (Fr.refl _ w).drewN _ | exact ((Fr.refl _ w).drewN _).drewN _)).mono ?_; rintro e w2 ⟨v2, rfl, ho2, hb2⟩
              have HO := Lib.hid ho2
              have HB2 := Lib.hid hb2
              obtain ⟨A2, d2', rfl⟩ := owned_slice ho2
              clear ho2 hb2
              go_wp2_with fail
              go_returns
              refine .inr ⟨HI.out, .slice A2 N d2', ?_, ?_, ?_⟩
              · rw [← eR.out]; rfl
              · rw [HLN.out, ← HBD.out]; have := HO.out; rw [LN] at this; exact this
              · first | exact (below_drewN (Below.refl _ w) _).trans HB2.out | exact (below_drewN (below_drewN (Below.refl _ w) _) _).trans HB2.out
            · have tS : ((S1 : Int) != (S2 : Int)) = true := bne_iff_ne.2 (by omega)
              have HI : Hid (isB r = false) := by rw [HB.out]; exact beq_eq_false_iff_ne.2 hS
              clear HB hS
              go_wp2_with fail
              go_quiet (fail)
              go_wp2_with fail
              go_quiet (first
                | (go_at_call 55; first | exact Calls.quiet_of_same (C1.out _) | exact quiet_sum (C1.out _))
                | (go_at_call 62; first | exact Calls.quiet_of_same (C2.out _) | exact quiet_sum (C2.out _)))
              go_wp2_with fail
              go_returns
              exact .inl ⟨HI.out, by rw [HN.out]; rfl, (by first | exact below_drewN (Below.refl _ _) _ | exact below_drewN (below_drewN (Below.refl _ _) _) _)⟩
    · have hi : isB r = false := by unfold isB; rw [show (r.getD 0 0 == 197) = false by simpa using hq]; simp
      have HI := Lib.hid hi
      have tq : (((r.getD 0 0).toNat : Int) != 197) = true := by
        have : (r.getD 0 0).toNat ≠ 197 := fun h => hq (UInt8.toNat_inj.1 h)
        exact bne_iff_ne.2 (by omega)
      clear hz hq hi
      generalize (r.getD 0 0).toNat = Q0 at *
      go_wp2_with fail
      go_returns
      exact .inl ⟨HI.out, by rw [HN.out]; rfl, Below.refl _ _⟩
end Go.Proofs.Ytgohnidndjbjiaa
