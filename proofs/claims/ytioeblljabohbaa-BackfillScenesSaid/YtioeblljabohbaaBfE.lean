/-
  backfill.Check: at any scene.
-/
import Derived.Test.YtioeblljabohbaaBfCD
import Derived.Deep.CutBlock
namespace Go.Proofs.Ytioeblljabohbaa
open Go Go.RowKit Go.Lib
set_option linter.unusedVariables false

/-- The numbers of a scene that may be. -/
def Good (N : Int) (FL : List Int) (HL : List HeI) : Prop := ∃ c, ScOk c ∧ N = (c.n : Int) ∧ FL = nsI c.fl ∧ HL = c.hl.map heZ
def FlI (n : Nat) (FL : List Int) (k : Nat) : Prop := ∀ j (h : j < FL.length), j < k → 0 ≤ FL[j] ∧ FL[j] < ((2 ^ n : Nat) : Int) ∧ ∀ i (hi : i < j), FL[i] < FL[j]
def heIn (n : Nat) (h : HeI) : Prop := blkI n h.1 h.2.1 ∧ 0 ≤ h.2.2.1 ∧ h.2.2.1 < h.2.2.2 ∧ h.2.2.2 ≤ 4398046511104
def HlI (n : Nat) (HL : List HeI) (k : Nat) : Prop := ∀ j (h : j < HL.length), j < k → heIn n HL[j]
theorem heIn_nat {n : Nat} {h : HeI} (hh : heIn n h) : ∃ x : HeT, h = heZ x ∧ heOk n x := by
  obtain ⟨⟨s, o, h1, h2, h3⟩, h4, h5, h6⟩ := hh
  obtain ⟨S, O, F, T⟩ := h
  dsimp only at *
  obtain ⟨f, rfl⟩ := Int.eq_ofNat_of_zero_le h4
  obtain ⟨t, rfl⟩ := Int.eq_ofNat_of_zero_le (show 0 ≤ T by omega)
  exact ⟨(s, o, f, t), by rw [h1, h2]; rfl, h3, by dsimp only; omega, by unfold endT; dsimp only; omega⟩
theorem heIn_of {n : Nat} {x : HeT} (h : heOk n x) : heIn n (heZ x) := by
  obtain ⟨h1, h2, h3⟩ := h
  unfold endT at h3
  exact ⟨⟨x.1, x.2.1, rfl, rfl, h1⟩, by unfold heZ; dsimp only; omega, by unfold heZ; dsimp only; omega, by unfold heZ; dsimp only; omega⟩
theorem nats_of {FL : List Int} (h : ∀ x ∈ FL, 0 ≤ x) : FL = nsI (FL.map Int.toNat) := by
  unfold nsI
  rw [List.map_map]
  conv => lhs; rw [← List.map_id FL]
  exact List.map_congr_left fun x hx => by have := h x hx; simp only [Function.comp, id]; omega
theorem hes_of {n : Nat} {HL : List HeI} (h : ∀ x ∈ HL, heIn n x) : ∃ hl : List HeT, HL = hl.map heZ ∧ ∀ x ∈ hl, heOk n x := by
  induction HL with
  | nil => exact ⟨[], rfl, fun x hx => by cases hx⟩
  | cons y r ih =>
    obtain ⟨hl, h1, h2⟩ := ih fun x hx => h x (.tail _ hx)
    obtain ⟨x, h3, h4⟩ := heIn_nat (h y (.head _))
    refine ⟨x :: hl, by rw [h1, h3]; rfl, fun z hz => ?_⟩
    rcases List.mem_cons.1 hz with rfl | hz
    · exact h4
    · exact h2 z hz
theorem good_of {n : Nat} {FL : List Int} {HL : List HeI} (hn : n ≤ 10) (hl : HL.length ≤ 300) (h1 : FlI n FL FL.length) (h2 : HlI n HL HL.length) : Good (n : Int) FL HL := by
  have hnn : ∀ x ∈ FL, 0 ≤ x := fun x hx => by
    obtain ⟨j, hj, rfl⟩ := List.getElem_of_mem hx
    exact (h1 j hj hj).1
  obtain ⟨hl2, e2, h3⟩ := hes_of fun x hx => by
    obtain ⟨j, hj, rfl⟩ := List.getElem_of_mem hx
    exact h2 j hj hj
  refine ⟨⟨n, FL.map Int.toNat, hl2⟩, ⟨hn, ?_, fun x hx => ?_, ?_, h3⟩, rfl, nats_of hnn, e2⟩
  · rw [List.pairwise_iff_getElem]
    intro i j hi hj hij
    simp only [List.length_map] at hi hj
    have := (h1 j hj hj).2.2 i hij
    have := (h1 i hi hi).1
    simp only [List.getElem_map]
    omega
  · obtain ⟨y, hy, rfl⟩ := List.mem_map.1 hx
    obtain ⟨j, hj, rfl⟩ := List.getElem_of_mem hy
    have h := (h1 j hj hj)
    have h5 := h.2.1
    have h6 := h.1
    generalize (2 ^ n : Nat) = P at *
    omega
  · have : hl2.length = HL.length := by rw [e2]; simp
    show hl2.length ≤ 300
    omega
theorem good_n {N : Int} {FL : List Int} {HL : List HeI} (h : Good N FL HL) : 0 ≤ N ∧ N ≤ 10 ∧ HL.length ≤ 300 := by
  obtain ⟨c, hc, rfl, h2, rfl⟩ := h
  exact ⟨by omega, by have := hc.n10; omega, by have := hc.len; simpa using this⟩
theorem good_fl {n : Nat} {FL : List Int} {HL : List HeI} (h : Good (n : Int) FL HL) : FlI n FL FL.length := by
  obtain ⟨c, hc, h1, rfl, rfl⟩ := h
  have : c.n = n := by omega
  subst this
  intro j hj _
  have hj' : j < c.fl.length := by rw [nsI_len] at hj; exact hj
  have e : ∀ i (h : i < (nsI c.fl).length) (h' : i < c.fl.length), (nsI c.fl)[i] = (c.fl[i] : Int) := fun i h h' => by simp [nsI]
  rw [e j hj hj']
  refine ⟨by omega, ?_, fun i hi => ?_⟩
  · have := hc.lt _ (List.getElem_mem hj')
    exact Int.ofNat_lt.2 this
  · rw [e i (by omega) (by omega)]
    have := (List.pairwise_iff_getElem.1 hc.inc) i j (by omega) hj' hi
    omega
theorem good_hl {n : Nat} {FL : List Int} {HL : List HeI} (h : Good (n : Int) FL HL) : HlI n HL HL.length := by
  obtain ⟨c, hc, h1, rfl, rfl⟩ := h
  have : c.n = n := by omega
  subst this
  intro j hj _
  have hj' : j < c.hl.length := by simpa using hj
  have e : (c.hl.map heZ)[j] = heZ c.hl[j] := by simp
  rw [e]
  exact heIn_of (hc.he _ (List.getElem_mem hj'))
def BfCode (N : Int) (FL : List Int) (HL : List HeI) (er : Int) : Prop := (er = 0 ∧ Good N FL HL) ∨ (er = 2 ∧ ¬ Good N FL HL)
theorem BfCode.det {N : Int} {FL : List Int} {HL : List HeI} {a b : Int} (h : BfCode N FL HL a) (h' : BfCode N FL HL b) : a = b := by
  rcases h with ⟨rfl, h1⟩ | ⟨rfl, h1⟩ <;> rcases h' with ⟨rfl, h2⟩ | ⟨rfl, h2⟩ <;> first | rfl | exact absurd h1 h2 | exact absurd h2 h1
set_option maxRecDepth 100000 in
set_option maxHeartbeats 4000000 in
theorem check_any (N : Int) (vf vh : Value) (FL : List Int) (HL : List HeI) (w : World) (hf : GRow w vf FL) (hh : HRow w vh HL) (hfl : FL.length ≤ maxLen) (hhl : HL.length ≤ maxLen) :
    Calls Try.prog 11 #[.agg #[.int .i64 N, vf, vh]] w fun e w' => ∃ er : Int, e = .returned (.int .i64 er) ∧ BfCode N FL HL er ∧ Below w.heap.size w w' := by
  have WI : Hid (∀ w, Calls Try.prog 28 #[.int .i64 N, .int .i64 0, .int .i64 10] w fun e w' => e = .returned (.bool (wiB N 0 10)) ∧ w' = w) := fun w => within_any N 0 10 w
  have HBk : Hid (∀ (n : Nat) S O w, n ≤ 10 → vf.oneCell' = true → vh.oneCell' = true → Calls Try.prog 29 #[.agg #[.int .i64 (n : Nat), vf, vh], .agg #[.int .i64 S, .int .i64 O]] w fun e w' => ∃ r : Bool, e = .returned (.bool r) ∧ (r = true ↔ blkI n S O) ∧ Below w.heap.size w w') := fun n S O w hn h1 h2 => hasBlock_any n vf vh S O w hn h1 h2
  have hf63 : FL.length ≤ 9223372036854775807 := by unfold maxLen at hfl; omega
  have hh63 : HL.length ≤ 9223372036854775807 := by unfold maxLen at hhl; omega
  obtain ⟨fa, fc, rfl⟩ := hf.slice
  obtain ⟨ha, hc, rfl⟩ := hh.slice
  have HF := Lib.hid hf
  have HH := Lib.hid hh
  obtain ⟨LF, hLF⟩ : ∃ n, n = FL.length := ⟨_, rfl⟩
  obtain ⟨LH, hLH⟩ : ∃ n, n = HL.length := ⟨_, rfl⟩
  rw [← hLF] at HF hf63 ⊢
  rw [← hLH] at HH hh63 ⊢
  rw [← hLF, ← hLH] at HBk
  have HLF := Lib.hid hLF
  have HLH := Lib.hid hLH
  clear hf hh hfl hhl hLF hLH
  obtain ⟨gS, hgS⟩ : ∃ g, g = w.heap.size := ⟨_, rfl⟩
  obtain ⟨W, hW⟩ : ∃ W, W = w.alloc (.cells #[.int .i64 N, .slice fa LF fc, .slice ha LH hc] 25) := ⟨_, rfl⟩
  have HBW : Hid (Below w.heap.size w W) := by unfold Hid; rw [hW]; exact (Below.refl _ _).alloc (Nat.le_refl _) _
  have HSc : Hid (Blk W gS #[.int .i64 N, .slice fa LF fc, .slice ha LH hc] 25) := by unfold Hid; rw [hW, hgS]; exact Blk.new w _ _
  have s0 := HSc.out.cell 0
  have s1 := HSc.out.cell 1
  have s2 := HSc.out.cell 2
  simp at s0 s1 s2
  by_cases hN : 0 ≤ N ∧ N ≤ 10
  · rw [wiB_iff.2 hN] at WI
    obtain ⟨n, rfl⟩ := Int.eq_ofNat_of_zero_le hN.1
    have hn10 : n ≤ 10 := by omega
    by_cases h300 : 300 < LH
    · have HR : Hid (¬ Good (n : Int) FL HL) := fun h => by have := (good_n h).2.2; have := HLH.out; omega
      have d1 : decide ((LH : Int) > 300) = true := decide_eq_true (by omega)
      have d2 : decide (300 < LH) = true := decide_eq_true h300
      clear hN
      go_enter Try.func11, Try.ntmps11
      go_upto_region 1 with fail
      rw [← hW, ← hgS]
      clear hW hgS
      go_wp2_with fail
      refine (WI.out _).mono ?_; rintro e w1 ⟨rfl, hw1⟩; replace hw1 := hw1.symm; subst hw1
      go_wp2_with fail
      go_ret
      exact ⟨2, rfl, .inr ⟨rfl, HR.out⟩, HBW.out⟩
    · have d1 : decide ((LH : Int) > 300) = false := decide_eq_false (by omega)
      have d2 : decide (300 < LH) = false := decide_eq_false h300
      obtain ⟨PN, hPN, hPN1, hPN2, hPN3⟩ := one_shl hn10
      have HPN := Lib.hid hPN
      clear hN hPN
      go_enter Try.func11, Try.ntmps11
      go_upto_region 1 with fail
      rw [← hW, ← hgS]
      clear hW hgS
      go_wp2_with fail
      refine (WI.out _).mono ?_; rintro e w1 ⟨rfl, hw1⟩; replace hw1 := hw1.symm; subst hw1
      go_wp2_with fail
      go_loopw [3, 21] (fun bv iv wr => ∃ (k : Nat) (B : Int), k ≤ LF ∧ iv = .int .i64 k ∧ bv = .int .i64 B ∧ -1 ≤ B ∧ B ≤ 1024 ∧ Hid (FlI n FL k) ∧ Hid ((B = -1 ∨ ∃ i, i < k ∧ FL.getD i 0 = B) ∧ ∀ i, i < k → FL.getD i 0 ≤ B) ∧ wr = W) (fun _ iv _ => LF - (RowKit.intOf iv).toNat)
      case atStart => exact ⟨0, -1, Nat.zero_le _, rfl, rfl, by omega, by omega, (fun j _ h => by omega), ⟨.inl rfl, fun i h => by omega⟩, rfl⟩
      case round =>
        obtain ⟨k, B, hk, rfl, rfl, hB1, hB2, HFl, HBv, hwr⟩ := hrel
        replace hwr := hwr.symm; subst hwr
        by_cases hlt : k < LF
        · have hd : decide (k < LF) = true := decide_eq_true hlt
          have hki : (k : Int) < (LF : Int) := by omega
          have hkl : k < FL.length := by rw [← HLF.out]; exact hlt
          obtain ⟨b0, o0, hfa, c0⟩ : ∃ b o, fa = some ⟨b, o, none⟩ ∧ W.cell? ⟨b, o + k, none⟩ = some (.int .i64 (FL.getD k 0)) := by
            rcases HF.out with ⟨h1, x, c, h2⟩ | ⟨b, o, c, h1, h2⟩
            · rw [h1] at hkl; simp at hkl
            · injection h1 with h1; exact ⟨b, o, h1, cell_next HBW.out (h2 k hkl)⟩
          subst hfa
          have hX : ∃ x, x = FL.getD k 0 := ⟨_, rfl⟩
          obtain ⟨x, hx⟩ := hX
          have HX : Hid (∀ h : k < FL.length, FL[k] = x) := fun h => by rw [hx, List.getD_eq_getElem?_getD, List.getElem?_eq_getElem h]; rfl
          have HXD := Lib.hid hx
          have HKL := Lib.hid hkl
          rw [← hx] at c0
          clear hx hkl
          by_cases hxb : x ≤ B
          · have d3 : decide (x ≤ B) = true := decide_eq_true hxb
            have HR : Hid (¬ Good (n : Int) FL HL) := fun h => by
              have hfl := good_fl h k HKL.out HKL.out
              rw [HX.out HKL.out] at hfl
              rcases HBv.out.1 with h1 | ⟨i, hi, h1⟩
              · omega
              · have h2 := hfl.2.2 i hi
                rw [List.getD_eq_getElem?_getD, List.getElem?_eq_getElem (by have := HKL.out; omega)] at h1
                simp only [Option.getD_some] at h1
                omega
            go_wp2_with fail
            go_ret
            exact ⟨2, rfl, .inr ⟨rfl, HR.out⟩, HBW.out⟩
          · have d3 : decide (x ≤ B) = false := decide_eq_false hxb
            by_cases hxp : (PN : Int) ≤ x
            · have d4 : decide (x ≥ (PN : Int)) = true := decide_eq_true hxp
              have HR : Hid (¬ Good (n : Int) FL HL) := fun h => by
                have hfl := (good_fl h k HKL.out HKL.out).2.1
                rw [HX.out HKL.out, ← HPN.out] at hfl
                omega
              go_wp2_with fail
              go_ret
              exact ⟨2, rfl, .inr ⟨rfl, HR.out⟩, HBW.out⟩
            · have d4 : decide (x ≥ (PN : Int)) = false := decide_eq_false hxp
              have H1 : Hid (FlI n FL (k + 1)) := fun j hj hjk => by
                rcases (by omega : j < k ∨ j = k) with h1 | rfl
                · exact HFl.out j hj h1
                · rw [HX.out hj]
                  refine ⟨by omega, by rw [← HPN.out]; omega, fun i hi => ?_⟩
                  have := HBv.out.2 i hi
                  rw [List.getD_eq_getElem?_getD, List.getElem?_eq_getElem (by omega)] at this
                  simp only [Option.getD_some] at this
                  omega
              have H2 : Hid ((x = -1 ∨ ∃ i, i < k + 1 ∧ FL.getD i 0 = x) ∧ ∀ i, i < k + 1 → FL.getD i 0 ≤ x) := by
                refine ⟨.inr ⟨k, by omega, HXD.out.symm⟩, fun i hi => ?_⟩
                rcases (by omega : i < k ∨ i = k) with h1 | rfl
                · have := HBv.out.2 i h1; omega
                · rw [← HXD.out]; exact Int.le_refl _
              have e1 : -1 ≤ x := by omega
              have e2 : x ≤ 1024 := by omega
              go_wp2_with fail
              go_roundw
              case rel => exact ⟨k + 1, x, hlt, by go_num, rfl, e1, e2, H1, H2, by trivial⟩
              case measure => simp [RowKit.intOf]; omega
        · have hd : decide (k < LF) = false := decide_eq_false hlt
          have hki : ¬ (k : Int) < (LF : Int) := by omega
          have HFa : Hid (FlI n FL FL.length) := by
            have : k = FL.length := by rw [← HLF.out]; omega
            unfold Hid; rw [← this]; exact HFl.out
          clear hlt hk HFl HBv hB1 hB2 hPN3
          go_wp2_with fail
          go_loopw [40] (fun iv wr => ∃ k : Nat, k ≤ LH ∧ iv = .int .i64 k ∧ Hid (HlI n HL k) ∧ Hid (Below W.heap.size W wr)) (fun iv _ => LH - (RowKit.intOf iv).toNat)
          case atStart => exact ⟨0, Nat.zero_le _, rfl, fun j _ h => by omega, Below.refl _ _⟩
          case round =>
            obtain ⟨k, hk, rfl, HK, HB⟩ := hrel
            by_cases hlt : k < LH
            · have hd : decide (k < LH) = true := decide_eq_true hlt
              have hki : (k : Int) < (LH : Int) := by omega
              have hkl : k < HL.length := by rw [← HLH.out]; exact hlt
              obtain ⟨b0, o0, hva, hcell⟩ := HH.out.at hkl
              subst hva
              obtain ⟨⟨S, O, F, T⟩, hx⟩ : ∃ x, x = HL[k] := ⟨_, rfl⟩
              have HX : Hid (∀ h : k < HL.length, HL[k] = (S, O, F, T)) := fun _ => hx.symm
              have HKL := Lib.hid hkl
              rw [← hx] at hcell
              have hBw := below_next HB.out HBW.out
              have c0 := hcell wr hBw 0 _ rfl
              have c1 := hcell wr hBw 1 _ rfl
              have c2 := hcell wr hBw 2 _ rfl
              have c3 := hcell wr hBw 3 _ rfl
              dsimp only at c0 c1 c2 c3
              simp only [Nat.add_zero] at c0
              clear hcell hx hkl hBw
              have q0 := cell_next HB.out s0
              have q1 := cell_next HB.out s1
              have q2 := cell_next HB.out s2
              have HC := Lib.hid (fun w => HBk.out n S O w hn10 rfl rfl)
              obtain ⟨w1, hw1⟩ : ∃ w1, w1 = wr.alloc (.cells #[.int .i64 S, .int .i64 O, .int .i64 F, .int .i64 T] 57) := ⟨_, rfl⟩
              go_upto_region 14 with fail
              rw [← hw1]
              obtain ⟨g7, hg7⟩ : ∃ g, g = wr.heap.size := ⟨_, rfl⟩
              have hBn : Blk w1 g7 #[.int .i64 S, .int .i64 O, .int .i64 F, .int .i64 T] 57 := by rw [hw1, hg7]; exact Blk.new wr _ _
              have hbw1 : Below wr.heap.size wr w1 := by rw [hw1]; exact (Below.refl _ _).alloc (Nat.le_refl _) _
              rw [← hg7]
              replace q0 := cell_next hbw1 q0
              replace q1 := cell_next hbw1 q1
              replace q2 := cell_next hbw1 q2
              have p0 := hBn.cell 0
              have p1 := hBn.cell 1
              have p2 := hBn.cell 2
              have p3 := hBn.cell 3
              simp at p0 p1 p2 p3
              have HB1 := Lib.hid (below_next hbw1 HB.out)
              clear hw1 hg7 hbw1 hBn c0 c1 c2 c3
              go_wp2_with fail
              refine (HC.out _).mono ?_; rintro e w2 ⟨r, rfl, hr, b2⟩
              have HB2 := Lib.hid (below_next (below_next b2 HB1.out) HBW.out)
              have HB3 := Lib.hid (below_next b2 HB1.out)
              replace p2 := cell_next b2 p2
              replace p3 := cell_next b2 p3
              have HRR := Lib.hid hr
              clear b2 hr HB1 HB p0 p1 q0 q1 q2
              cases r
              · have HR : Hid (¬ Good (n : Int) FL HL) := fun h => by
                  have hh := good_hl h k HKL.out HKL.out
                  rw [HX.out HKL.out] at hh
                  have := HRR.out.2 hh.1
                  cases this
                clear HK HX
                go_wp2_with fail
                go_ret
                exact ⟨2, rfl, .inr ⟨rfl, HR.out⟩, HB2.out⟩
              by_cases f1 : F < 0
              · have d3 : decide (F < 0) = true := decide_eq_true f1
                have HR : Hid (¬ Good (n : Int) FL HL) := fun h => by
                  have hh := good_hl h k HKL.out HKL.out
                  rw [HX.out HKL.out] at hh
                  have := hh.2.1; dsimp only at this; omega
                clear HK HX
                go_wp2_with fail
                go_ret
                exact ⟨2, rfl, .inr ⟨rfl, HR.out⟩, HB2.out⟩

              have d3 : decide (F < 0) = false := decide_eq_false f1
              by_cases f2 : T ≤ F
              · have d4 : decide (T ≤ F) = true := decide_eq_true f2
                have HR : Hid (¬ Good (n : Int) FL HL) := fun h => by
                  have hh := good_hl h k HKL.out HKL.out
                  rw [HX.out HKL.out] at hh
                  have := hh.2.2.1; dsimp only at this; omega
                clear HK HX
                go_wp2_with fail
                go_ret
                exact ⟨2, rfl, .inr ⟨rfl, HR.out⟩, HB2.out⟩

              have d4 : decide (T ≤ F) = false := decide_eq_false f2
              by_cases f3 : 4398046511104 < T
              · have d5 : decide (T > 4398046511104) = true := decide_eq_true f3
                have HR : Hid (¬ Good (n : Int) FL HL) := fun h => by
                  have hh := good_hl h k HKL.out HKL.out
                  rw [HX.out HKL.out] at hh
                  have := hh.2.2.2; dsimp only at this; omega
                clear HK HX
                go_wp2_with fail
                go_ret
                exact ⟨2, rfl, .inr ⟨rfl, HR.out⟩, HB2.out⟩

              have d5 : decide (T > 4398046511104) = false := decide_eq_false f3
              have HN : Hid (HlI n HL (k + 1)) := fun j hj hjk => by
                rcases (by omega : j < k ∨ j = k) with h1 | rfl
                · exact HK.out j hj h1
                · rw [HX.out hj]
                  exact ⟨HRR.out.1 rfl, by dsimp only; omega, by dsimp only; omega, by dsimp only; omega⟩
              clear HK HX
              go_wp2_with fail
              go_roundw
              case rel => exact ⟨k + 1, hlt, by go_num, HN, HB3⟩
              case measure => simp [RowKit.intOf]; omega
            · have hd : decide (k < LH) = false := decide_eq_false hlt
              have hki : ¬ (k : Int) < (LH : Int) := by omega
              have HR : Hid (Good (n : Int) FL HL) := by
                have : k = HL.length := by rw [← HLH.out]; omega
                exact good_of hn10 (by rw [← HLH.out]; omega) HFa.out (by rw [← this]; exact HK.out)
              clear hlt hk
              go_wp2_with fail
              go_ret
              exact ⟨0, rfl, .inl ⟨rfl, HR.out⟩, below_next HB.out HBW.out⟩

  · rw [wiB_no hN] at WI
    have HR : Hid (¬ Good N FL HL) := fun h => by
      have h1 := (good_n h).1
      have h2 := (good_n h).2.1
      exact hN ⟨h1, h2⟩
    clear hN
    go_enter Try.func11, Try.ntmps11
    go_upto_region 1 with fail
    rw [← hW, ← hgS]
    clear hW hgS
    go_wp2_with fail
    refine (WI.out _).mono ?_; rintro e w1 ⟨rfl, hw1⟩; replace hw1 := hw1.symm; subst hw1
    go_wp2_with fail
    go_ret
    exact ⟨2, rfl, .inr ⟨rfl, HR.out⟩, HBW.out⟩
end Go.Proofs.Ytioeblljabohbaa
