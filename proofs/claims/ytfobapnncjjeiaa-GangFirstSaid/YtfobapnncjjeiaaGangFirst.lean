/-
  GangFirst: a job is placed in the least row with room for it, at the least start there; removed at once, all is as it was; a job has one place: so the law returns true for every input.
-/
import Derived.Test.YtfobapnncjjeiaaGaLw
import Derived.Test.YtfobapnncjjeiaaLaw
import Derived.Test.YtfobapnncjjeiaaRows
import Derived.Test.YtfobapnncjjeiaaArgs2
namespace Go.Proofs.Ytfobapnncjjeiaa.gangFirst
open Go.ChangeShapes Go.WideShapes Go.ChangeAt Go.RowKit
set_option linter.unusedVariables false

theorem own : ownKnob Try.prog.godebug = none := by kernel_rfl

open Go Go.ChangeShapes Go.WideShapes Go.ChangeAt Go.RowKit Go.Lib Go.Deep
/-- The order that the law asks for: one of 0 to 4. -/
theorem ord5 (O : Int) : ∃ o : Nat, o ≤ 4 ∧ IntKind.i64.wrap (IntKind.u64.wrap ((IntKind.u64.wrap O).tmod 5)) = (o : Int) ∧ IntKind.i64.wrap ((IntKind.u64.wrap O).tmod 5) = (o : Int) := by
  have h0 : 0 ≤ IntKind.u64.wrap O := by rw [IntKind.wrap_u64]; omega
  obtain ⟨q, hq⟩ := Int.eq_ofNat_of_zero_le h0
  refine ⟨q % 5, by omega, ?_⟩
  have h1 : (IntKind.u64.wrap O).tmod 5 = ((q % 5 : Nat) : Int) := by rw [hq]; rfl
  rw [h1]
  have h2 : IntKind.u64.wrap ((q % 5 : Nat) : Int) = ((q % 5 : Nat) : Int) := by rw [IntKind.wrap_u64]; omega
  have h3 : IntKind.i64.wrap ((q % 5 : Nat) : Int) = ((q % 5 : Nat) : Int) := by rw [IntKind.wrap_i64]; omega
  rw [h2]; exact ⟨h3, h3⟩
theorem place_split {l : List Ce} {id o : Nat} {c : Ce} {er : Int} {l' : List Ce} (h : PlaceR 4 l id (o : Int) c er l') (ho : o ≤ 4) :
    (c = (0, 0, 0, 0) ∧ l' = l ∧ (er = 30 ∨ er = 5 ∨ (er = 2 ∧ id = 0))) ∨ (er = 0 ∧ id ≠ 0 ∧ (∀ d ∈ l, d.1 ≠ id) ∧ l' = insG l c ∧ IsPlace 4 l id o (some c)) := by
  cases h with
  | arg h => exact .inl ⟨rfl, rfl, .inr (.inr ⟨rfl, by omega⟩)⟩
  | twice h c hc h2 => exact .inl ⟨rfl, rfl, .inl rfl⟩
  | full o' h0 h1 h2 h3 h => exact .inl ⟨rfl, rfl, .inr (.inl rfl)⟩
  | ok o' h0 h1 h2 h3 c h =>
    obtain rfl : o' = o := by omega
    exact .inr ⟨rfl, h1, h3, rfl, h⟩
theorem place_again {l : List Ce} {c c5 : Ce} {er : Int} {l5 : List Ce} (h : PlaceR 4 (insG l c) c.1 0 c5 er l5) (h0 : c.1 ≠ 0) : c5 = (0, 0, 0, 0) ∧ er = 30 ∧ l5 = insG l c := by
  have hm : c ∈ insG l c := mem_insG.2 (.inl rfl)
  cases h with
  | arg h => omega
  | twice h d hc h2 => exact ⟨rfl, rfl, rfl⟩
  | full o' h0 h1 h2 h3 h => exact absurd rfl (h3 c hm)
  | ok o' h0 h1 h2 h3 d h => exact absurd rfl (h3 c hm)
theorem rem_ins {n : Nat} {l : List Ce} {c : Ce} {a : Nat} {er : Int} {a' : Nat} {l' : List Ce} (hok : OkG n l) (hn : ∀ d ∈ l, d.1 ≠ c.1) (ha : a < rowsG l ∨ a = 0) (h : RemR (insG l c) a c.1 er a' l') : er = 0 ∧ a' = a ∧ l' = l := by
  obtain ⟨k, hk⟩ := insG_find (n := 0) (l := l) (c := c)
  obtain ⟨rfl, rfl, rfl⟩ := rem_is hk h
  have he := insG_erase hok hn hk
  refine ⟨rfl, ?_, he⟩
  rw [he]; unfold remA; split <;> omega
theorem rem_none {l : List Ce} {id a : Nat} {er : Int} {a' : Nat} {l' : List Ce} (hn : ∀ d ∈ l, d.1 ≠ id) (h : RemR l a id er a' l') : er = 4 ∧ a' = a ∧ l' = l := by
  cases h with
  | no h => exact ⟨rfl, rfl, rfl⟩
  | yes k h =>
    rcases h with ⟨h, _⟩ | ⟨q, hq, _, h, _⟩
    · cases h
    · exact absurd h (hn _ (List.getElem_mem hq))
theorem remA_same {l : List Ce} {a : Nat} (h : a < rowsG l ∨ a = 0) : remA l a = a := by unfold remA; split <;> omega
theorem step4 {o P S : Nat} (ho : o ≤ 10) (hP : P = 2 ^ o) (hs : S + P ≤ 4096) : wrap64 ((S : Int) + wrap64 ((2 : Int) ^ min o 64)) = ((S + P : Nat) : Int) := step_o ho hP hs
theorem ord_four {o : Nat} (ho : o ≤ 4) : 2 ^ o * 2 ^ (4 - o) = 16 := by rw [← Nat.pow_add, show o + (4 - o) = 4 by omega]
set_option maxRecDepth 100000 in
set_option maxHeartbeats 8000000 in
theorem walk (v : Value) (L : List AcI) (ID O : Int) (w : World) (hA : AcArg w v L) (hI : (Lit.int .u32 ID).wf = true) (_ : (Lit.int .i64 O).wf = true) :
    Calls Try.prog 8 #[v, .int .u32 ID, .int .i64 O] w fun e w' => e = .returned (.bool true) ∧ Below w.heap.size w w' := by
  have MX := Lib.hid (matrix_any v L w hA)
  have K : Hid (∀ w1, Calls Try.prog 10 #[] w1 fun e w' => e = .returned (.bool true) ∧ Below w1.heap.size w1 w') := known16_any
  obtain ⟨hi0, hi1⟩ := u32_wf hI
  obtain ⟨id, rfl⟩ := Int.eq_ofNat_of_zero_le hi0
  have hid2 : id < 4294967296 := by omega
  obtain ⟨o, ho, hw1, hw2⟩ := ord5 O
  clear hi0 hi1 hI
  go_enter Try.func8, Try.ntmps8
  go_wp2_with fail
  refine MX.out.mono ?_; rintro e w1 ⟨⟨m, a, l, rfl, hg1⟩, b1⟩
  obtain ⟨o1, ho1⟩ : ∃ own : Nat → Prop, own = fun k => w.heap.size ≤ k := ⟨_, rfl⟩
  rw [← ho1] at hg1
  have HO1 : Hid (∀ k, o1 k → w.heap.size ≤ k) := fun k h => by rw [ho1] at h; exact h
  have HOK := Lib.hid hg1.ok
  have hlen := hg1.ok.len
  have HG1 := Lib.hid hg1
  have HB1 := Lib.hid b1
  have CE := Lib.hid (cells_any m 4 a o1 l w1 hg1.gn)
  clear ho1 hg1 b1 MX hA
  go_wp2_with fail
  refine CE.out.mono ?_; rintro e w2 ⟨⟨va, rfl, ova⟩, b2⟩
  have HG2 := Lib.hid (HG1.out.beside b2 (fun g hg => ova.lt g hg))
  obtain ⟨aa, ac, rfl⟩ := own_slice ova
  obtain ⟨o2, ho2⟩ : ∃ own : Nat → Prop, own = fun k => o1 k ∧ (Value.slice aa l.length ac).ownBlock ≠ some k := ⟨_, rfl⟩
  rw [← ho2] at HG2
  have HO2 : Hid (∀ k, o2 k → w.heap.size ≤ k) := fun k h => by rw [ho2] at h; exact HO1.out k h.1
  have HN2 : Hid (∀ k, (Value.slice aa l.length ac).ownBlock = some k → ¬ o2 k) := fun k h h2 => by rw [ho2] at h2; exact h2.2 h
  have HB2 := Lib.hid (below_next b2 HB1.out)
  have HWA : Hid (COwn w2 w1.heap.size (.slice aa l.length ac) l) := ova
  obtain ⟨LL, hLL⟩ : ∃ n, n = l.length := ⟨_, rfl⟩
  have HLL := Lib.hid hLL
  have AC := Lib.hid (active_any m 4 a o2 l w2 HG2.out.gn)
  rw [← hLL] at HWA HN2 hlen ⊢
  clear ova b2 HG1 HB1 HO1 CE ho2 hLL
  go_wp2_with fail
  refine AC.out.mono ?_; rintro e w3 ⟨rfl, b3⟩
  have HG3 := Lib.hid (HG2.out.kept b3)
  have HB3 := Lib.hid (below_next b3 HB2.out)
  have HW3 : Hid (COwn w3 w1.heap.size (.slice aa LL ac) l) := own_older HWA.out b3
  have PL := Lib.hid (gplace_any m 4 a id (o : Int) o2 l w3 HG3.out hid2)
  clear b3 HG2 HB2 HWA AC
  go_wp2_with fail
  refine PL.out.mono ?_; rintro e w4 ⟨c, er, l', rfl, hp, hg4, hc4⟩
  obtain ⟨x0, x1, x2, x3⟩ := c
  have HSP := Lib.hid (place_split hp ho)
  have HG4 := Lib.hid hg4
  have HB4 := Lib.hid (HB3.out.trans (hc4.to_below HB3.out.size (fun k hk h => by have := HO2.out k h; omega)))
  have HW4 : Hid (COwn w4 w1.heap.size (.slice aa LL ac) l) := by unfold Hid; rw [HLL.out] at HW3 HN2 ⊢; exact own_chg HW3.out hc4 HN2.out
  have HACT : Hid (a < rowsG l ∨ a = 0) := HG3.out.act
  clear hp hg4 hc4 PL HG3 HB3 HW3
  dsimp only [ceA]
  go_upto_region 8 with fail
  obtain ⟨g4, hg4⟩ : ∃ g, g = w4.heap.size := ⟨_, rfl⟩
  obtain ⟨X, hX⟩ : ∃ x, x = w4.alloc (.cells #[.int .u32 (x0 : Nat), .int .i64 (x1 : Nat), .int .i64 (x2 : Nat), .int .i64 (x3 : Nat)] 48) := ⟨_, rfl⟩
  obtain ⟨o3, ho3⟩ : ∃ own : Nat → Prop, own = fun k => o2 k ∧ k ≠ g4 := ⟨_, rfl⟩
  have HGX : Hid (GM X m o3 4 a l') := by unfold Hid; rw [ho3, hX, hg4]; exact HG4.out.boxed _
  have bX : Below w4.heap.size w4 X := by rw [hX]; exact (Below.refl _ _).alloc (Nat.le_refl _) _
  have HBX : Hid (Below w.heap.size w X) := below_next bX HB4.out
  have HO3 : Hid (∀ k, o3 k → w.heap.size ≤ k) := fun k h => by rw [ho3] at h; exact HO2.out k h.1
  have HWX : Hid (COwn X w1.heap.size (.slice aa LL ac) l) := own_older HW4.out bX
  have HN3 : Hid (∀ k, (Value.slice aa LL ac).ownBlock = some k → ¬ o3 k) := fun k h h2 => by rw [ho3] at h2; exact HN2.out k h h2.1
  have HNG : Hid (¬ o3 g4) := fun h => by rw [ho3] at h; exact h.2 rfl
  have HXB : Hid (Blk X g4 #[.int .u32 (x0 : Nat), .int .i64 (x1 : Nat), .int .i64 (x2 : Nat), .int .i64 (x3 : Nat)] 48) := by unfold Hid; rw [hX, hg4]; exact Blk.new _ _ _
  have RA : Hid (CRow X (.slice aa LL ac) l) := by
    unfold Hid
    have := HWX.out
    rw [HLL.out] at this ⊢
    exact crow_of_own this
  rw [← hg4, ← hX]
  clear hg4 hX ho3 bX HG4 HB4 HW4 HO2 HN2
  rcases HSP.out with ⟨hz, rfl, hE⟩ | ⟨rfl, hid0, hnew, rfl, hplc⟩
  · clear hz HSP
    have CE := Lib.hid (cells_any m 4 a o3 l' X HGX.out.gn)
    have SM : Hid (∀ (vq : Value) (wq : World), Below X.heap.size X wq → COwn wq X.heap.size vq l' → Calls Try.prog 16 #[vq, .slice aa LL ac] wq fun e w' => e = .returned (.bool true) ∧ Below wq.heap.size wq w') := fun vq wq hb ho => by
      have h := same16_any vq _ _ _ wq (crow_of_own ho) (RA.out.kept hb) (by rw [← HLL.out]; omega) (by rw [← HLL.out]; omega)
      rwa [decide_eq_true rfl] at h
    have q0 : ((id : Int) == 0) = (id == 0) := by rw [Bool.eq_iff_iff]; simp
    rcases hE with rfl | rfl | ⟨rfl, rfl⟩
    all_goals (go_wp2_with fail)
    all_goals (refine CE.out.mono ?_; rintro e w5 ⟨⟨vq, rfl, ovq⟩, b5⟩)
    all_goals (have HB5 := Lib.hid (below_next b5 HBX.out))
    all_goals (have SM2 := Lib.hid (SM.out vq w5 b5 ovq))
    all_goals (obtain ⟨qa, qc, rfl⟩ := own_slice ovq)
    all_goals (clear b5 ovq CE SM)
    all_goals (go_wp2_with fail)
    all_goals (refine SM2.out.mono ?_; rintro e w6 ⟨rfl, b6⟩)
    all_goals (have HB6 := Lib.hid (below_next b6 HB5.out))
    all_goals (clear b6 SM2)
    all_goals (go_wp2_with fail)
    all_goals (refine (K.out _).mono ?_; rintro e w7 ⟨rfl, b7⟩)
    all_goals (have HB7 := below_next b7 HB6.out)
    all_goals (clear b7)
    all_goals (go_wp2_with fail)
    all_goals go_ret
    all_goals exact ⟨rfl, HB7⟩
  · clear HSP
    obtain ⟨P, hP⟩ : ∃ P, P = 2 ^ o := ⟨_, rfl⟩
    obtain ⟨Q, hQ⟩ : ∃ Q, Q = 2 ^ (4 - o) := ⟨_, rfl⟩
    have hPQ : P * Q = 16 := by rw [hP, hQ]; exact ord_four ho
    have hP0 : 1 ≤ P := by rw [hP]; exact Nat.two_pow_pos o
    have hP16 : P ≤ 16 := by rw [hP]; exact Nat.pow_le_pow_right (by omega) ho
    have HSH : Hid (∀ S : Nat, S ≤ 16 → wrap64 ((S : Int) + wrap64 ((2 : Int) ^ o)) = ((S + P : Nat) : Int)) := fun S hS => by
      have h := step4 (o := o) (P := P) (S := S) (by omega) hP (by omega)
      rwa [Nat.min_eq_left (show o ≤ 64 by omega)] at h
    have HPL : Hid (∃ i, i < Q ∧ x2 = i * P ∧ x0 = id ∧ x3 = o ∧ x1 < 16 ∧ FreeG l x1 (i * P) o ∧ (∀ r', r' < x1 → ∀ j, j < Q → ¬ FreeG l r' (j * P) o) ∧ (∀ j, j < i → ¬ FreeG l x1 (j * P) o)) := by
      generalize hcc : (some (x0, x1, x2, x3) : Option Ce) = cc at hplc
      cases hplc with
      | none => cases hcc
      | some r i hr hi hf h1 h2 =>
        injection hcc with hcc; injection hcc with e0 e1; injection e1 with e1 e2; injection e2 with e2 e3
        subst e0 e1 e2 e3
        rw [hP, hQ]
        exact ⟨i, hi, rfl, rfl, rfl, hr, hf, h1, h2⟩
    obtain ⟨i0, hi0, rfl, rfl, rfl, hx1, hfr, hbe, hbe2⟩ := HPL.out
    have HFR := Lib.hid hfr
    have HBE := Lib.hid hbe
    have HBE2 := Lib.hid hbe2
    have HNEW := Lib.hid hnew
    clear HPL hplc hfr hbe hbe2 hnew hQ hw1 hw2
    obtain ⟨sx, hsx⟩ : ∃ sx, sx = i0 * P := ⟨_, rfl⟩
    have HSX := Lib.hid hsx
    have hsx16 : sx ≤ 16 := by rw [hsx, ← hPQ, Nat.mul_comm P Q]; exact Nat.mul_le_mul_right _ (by omega)
    have HPH := Lib.hid hP
    rw [← hsx] at HXB HGX HFR ⊢
    clear hsx hP
    have HXC : Hid (∀ w', Below X.heap.size X w' → w'.cell? ⟨g4, 0, none⟩ = some (.int .u32 (x0 : Nat)) ∧ w'.cell? ⟨g4, 1, none⟩ = some (.int .i64 (x1 : Nat)) ∧ w'.cell? ⟨g4, 2, none⟩ = some (.int .i64 (sx : Nat)) ∧ w'.cell? ⟨g4, 3, none⟩ = some (.int .i64 (x3 : Nat))) := fun w' hb => by
      have h := HXB.out.kept hb
      exact ⟨h.cell 0, h.cell 1, h.cell 2, h.cell 3⟩
    go_upto_region 11 with fail
    go_loopw [13] (fun rv wr => ∃ r : Nat, r ≤ x1 + 1 ∧ rv = .int .i64 r ∧ Hid (Below X.heap.size X wr)) (fun rv _ => x1 + 1 - (RowKit.intOf rv).toNat)
    case atStart => exact ⟨0, Nat.zero_le _, rfl, Below.refl _ _⟩
    case round =>
      obtain ⟨r, hr, rfl, HBr⟩ := hrel
      obtain ⟨z0, z1, z2, z3⟩ := HXC.out _ HBr.out
      by_cases hlr : r ≤ x1
      · have d1 : decide ((r : Int) ≤ (x1 : Int)) = true := decide_eq_true (by omega)
        have d1' : decide (r ≤ x1) = true := decide_eq_true hlr
        go_wp2_with fail
        go_loopw [14] (fun sv wr => ∃ i : Nat, i ≤ Q ∧ sv = .int .i64 (i * P : Nat) ∧ Hid (Below X.heap.size X wr)) (fun sv _ => 16 - (RowKit.intOf sv).toNat)
        case atStart => exact ⟨0, Nat.zero_le _, by simp, HBr.out⟩
        case round =>
          clear z0 z1 z2 z3 HBr
          obtain ⟨i, hi, rfl, HBr⟩ := hrel
          obtain ⟨S, hS⟩ : ∃ S, S = i * P := ⟨_, rfl⟩
          have HS := Lib.hid hS
          have hSQ : S < 16 ↔ i < Q := by
            rw [hS, ← hPQ, Nat.mul_comm P Q]
            exact ⟨fun h => Nat.lt_of_mul_lt_mul_right h, fun h => Nat.mul_lt_mul_of_pos_right h (by omega)⟩
          have hS16 : S ≤ 16 := by
            rw [hS, ← hPQ, Nat.mul_comm P Q]; exact Nat.mul_le_mul_right _ hi
          rw [← hS]
          clear hS
          by_cases hlt : S < 16
          · have hiQ : i < Q := hSQ.1 hlt
            have d2 : decide ((S : Int) < 16) = true := decide_eq_true (by omega)
            have d2' : decide (S < 16) = true := decide_eq_true hlt
            clear hSQ
            go_upto_region 17 with fail
            obtain ⟨gb, hgb⟩ : ∃ g, g = wr.heap.size := ⟨_, rfl⟩
            obtain ⟨Xb, hXb⟩ : ∃ x, x = wr.alloc (.cells #[.int .i64 (S : Nat), .int .i64 (x3 : Nat)] 46) := ⟨_, rfl⟩
            have bXb : Below wr.heap.size wr Xb := by rw [hXb]; exact (Below.refl _ _).alloc (Nat.le_refl _) _
            have HBb : Hid (Below X.heap.size X Xb) := below_next bXb HBr.out
            have HKb : Hid (Blk Xb gb #[.int .i64 (S : Nat), .int .i64 (x3 : Nat)] 46) := by unfold Hid; rw [hXb, hgb]; exact Blk.new _ _ _
            rw [← hgb, ← hXb]
            clear hgb hXb bXb HBr
            go_upto_region 19 with fail
            go_loopw [17, 16] (fun kv bv wr => ∃ (k : Nat) (β : Bool), k ≤ LL ∧ kv = .int .i64 k ∧ bv = .bool β ∧ Hid (BIs β (HeldK l r S x3 k)) ∧ Hid (Below Xb.heap.size Xb wr)) (fun kv _ _ => LL - (RowKit.intOf kv).toNat)
            case atStart => exact ⟨0, false, Nat.zero_le _, rfl, rfl, BIs.no heldK_zero, Below.refl _ _⟩
            case round =>
              obtain ⟨k, β, hk, rfl, rfl, HF, HBk⟩ := hrel
              have HBx : Hid (Below X.heap.size X wr) := HBb.out.trans (HBk.out.mono HBb.out.size)
              by_cases hlk : k < LL
              · have d3 : decide ((k : Int) < (LL : Int)) = true := decide_eq_true (by omega)
                have d3' : decide (k < LL) = true := decide_eq_true hlk
                have hki : (k : Int) < (LL : Int) := by omega
                have hkx : k < l.length := by rw [← HLL.out]; exact hlk
                cases aa with
                | none => have := crow_none RA.out; rw [this] at hkx; simp at hkx
                | some A =>
                obtain ⟨b2, o2', rfl⟩ := crow_some RA.out (by omega)
                obtain ⟨e0, e1, e2, e3⟩ := CRow.cells RA.out hkx HBx.out
                have HFS := Lib.hid (heldK_succ (row := r) (s := S) (o := x3) hkx)
                have HYK := HOK.out.ce l[k] (List.getElem_mem hkx)
                obtain ⟨y, hy⟩ : ∃ y, y = l[k] := ⟨_, rfl⟩
                rw [← hy] at e0 e1 e2 e3 HFS HYK
                have hyo : y.2.2.2 ≤ 4 := HYK.ord
                have hys : y.2.2.1 ≤ 4096 := by
                  have h1 := HYK.en
                  have h2 : y.2.2.1 ≤ y.en := Nat.le_of_succ_le (en_st y)
                  omega
                clear hy hkx HYK
                obtain ⟨y0, y1, y2, y3⟩ := y
                dsimp only [Ce.st, Ce.ord, Ce.row] at e0 e1 e2 e3 HFS hyo hys
                have t0 := (HKb.out.kept HBk.out).cell 0
                have t1 := (HKb.out.kept HBk.out).cell 1
                simp at t0 t1
                cases β with
                | true =>
                  have HF2 : Hid (BIs true (HeldK l r S x3 (k + 1))) := BIs.yes (HFS.out.2 (.inl HF.out.t))
                  go_wp2_with fail
                  go_quiet (fail)
                  go_wp2_with fail
                  go_roundw
                  case rel => exact ⟨k + 1, true, hlk, by go_num, rfl, HF2, below_drewN HBk.out _⟩
                  case measure => simp [RowKit.intOf]; omega
                | false =>
                  have HFN : Hid (¬ HeldK l r S x3 k) := HF.out.f
                  by_cases h0 : y1 = r
                  · have q0 : ((y1 : Int) == (r : Int)) = true := by simp; omega
                    have q0' : (y1 == r) = true := by simp; omega
                    have MT : Hid (∀ wq, Calls Try.prog 25 #[.agg #[.int .i64 (y2 : Nat), .int .i64 (y3 : Nat)], .agg #[.int .i64 (S : Nat), .int .i64 (x3 : Nat)]] wq fun e w' => e = .returned (.bool (decide (meetC y2 y3 S x3))) ∧ Below wq.heap.size wq w') := fun wq => meet_any y2 y3 S x3 (by omega) (by omega) hys (by omega) wq
                    obtain ⟨γ, hγ⟩ : ∃ γ, γ = decide (meetC y2 y3 S x3) := ⟨_, rfl⟩
                    have HF2 : Hid (BIs γ (HeldK l r S x3 (k + 1))) := by
                      rw [hγ]
                      by_cases hm : meetC y2 y3 S x3
                      · rw [decide_eq_true hm]; exact BIs.yes (HFS.out.2 (.inr ⟨h0, hm⟩))
                      · rw [decide_eq_false hm]; exact BIs.no (fun h => by
                          rcases HFS.out.1 h with h | h
                          · exact absurd h HFN.out
                          · exact absurd h.2 hm)
                    rw [← hγ] at MT
                    clear hγ HFS HFN HF h0
                    go_wp2_with fail
                    go_region_held3 (fun w' => w'.cell? ⟨b2, o2' + k * 4 + 1, none⟩ = some (.int .i64 (y1 : Nat)) ∧ w'.cell? ⟨b2, o2' + k * 4 + 2, none⟩ = some (.int .i64 (y2 : Nat)) ∧ w'.cell? ⟨b2, o2' + k * 4 + 3, none⟩ = some (.int .i64 (y3 : Nat)) ∧ w'.cell? ⟨gb, 0, none⟩ = some (.int .i64 (S : Nat)) ∧ w'.cell? ⟨gb, 1, none⟩ = some (.int .i64 (x3 : Nat)) ∧ Below wr.heap.size wr w')
                      (first
                        | exact ⟨e1, e2, e3, t0, t1, (Below.refl _ _).drew⟩
                        | exact ⟨e1, e2, e3, t0, t1, Below.refl _ _⟩
                        | (rcases ‹_ ∧ _ ∧ _ ∧ _ ∧ _ ∧ Below wr.heap.size _ _› with ⟨q0, q1, q2, q3, q4, q5⟩; exact ⟨cell_next (by assumption) q0, cell_next (by assumption) q1, cell_next (by assumption) q2, cell_next (by assumption) q3, cell_next (by assumption) q4, below_next (by assumption) q5⟩))
                      (first
                        | (go_at_call 25; ((with_reducible refine (MT.out _).mono ?_); rintro e wm ⟨rfl, bm⟩)))
                    all_goals (have HB5 := below_next (‹_ ∧ _ ∧ _ ∧ _ ∧ _ ∧ Below wr.heap.size wr _›).2.2.2.2.2 HBk.out)
                    all_goals (go_wp2_with fail)
                    all_goals go_roundw
                    case rel => exact ⟨k + 1, γ, hlk, by go_num, rfl, HF2, HB5⟩
                    case measure => simp [RowKit.intOf]; omega
                  · have q0 : ((y1 : Int) == (r : Int)) = false := by simp; omega
                    have q0' : (y1 == r) = false := by simp; omega
                    have HF2 : Hid (BIs false (HeldK l r S x3 (k + 1))) := BIs.no (fun h => by
                      rcases HFS.out.1 h with h | h
                      · exact absurd h HFN.out
                      · exact absurd h.1 h0)
                    go_wp2_with fail
                    go_quiet (fail)
                    go_wp2_with fail
                    go_roundw
                    case rel => exact ⟨k + 1, false, hlk, by go_num, rfl, HF2, below_drewN HBk.out _⟩
                    case measure => simp [RowKit.intOf]; omega
              · have d3 : decide ((k : Int) < (LL : Int)) = false := decide_eq_false (by omega)
                have d3' : decide (k < LL) = false := decide_eq_false hlk
                obtain rfl : k = LL := by omega
                have HFA : Hid (BIs β (¬ FreeG l r S x3)) := by
                  have h := HF.out
                  rw [HLL.out] at h
                  exact ⟨fun e => heldK_all.1 (h.1 e), fun e => h.2 (heldK_all.2 e)⟩
                obtain ⟨z0, z1, z2, z3⟩ := HXC.out _ HBx.out
                have hu : IntKind.u64.wrap (x3 : Int) = (x3 : Int) := by rw [IntKind.wrap_u64]; omega
                have hsh := Lib.hid (HSH.out S (by omega))
                have HNX : Hid ((i + 1) * P = S + P) := by unfold Hid; rw [HS.out, Nat.succ_mul]
                by_cases hA : r = x1 ∧ S = sx
                · obtain ⟨rfl, rfl⟩ := hA
                  have hβ : β = false := by
                    cases β with
                    | false => rfl
                    | true => exact absurd HFR.out HFA.out.t
                  subst hβ
                  go_wp2_with fail
                  go_roundw
                  case rel => exact ⟨i + 1, hiQ, by rw [hsh.out, HNX.out], HBx.out⟩
                  case measure => rw [hsh.out]; simp [RowKit.intOf]; omega
                · by_cases hr1 : r = x1
                  · subst hr1
                    have hSx : S ≠ sx := fun e => hA ⟨rfl, e⟩
                    have p1 : ((S : Int) == (sx : Int)) = false := by simp; omega
                    have p1' : (S == sx) = false := by simp; omega
                    cases β with
                    | true =>
                      go_wp2_with fail
                      go_roundw
                      case rel => exact ⟨i + 1, hiQ, by rw [hsh.out, HNX.out], HBx.out⟩
                      case measure => rw [hsh.out]; simp [RowKit.intOf]; omega
                    | false =>
                      have hgt : sx < S := by
                        rcases Nat.lt_trichotomy i i0 with h | h | h
                        · have := HBE2.out i h; rw [← HS.out] at this
                          exact absurd this HFA.out.f
                        · subst h; exact absurd (HS.out.trans HSX.out.symm) hSx
                        · rw [HS.out, HSX.out]; exact Nat.mul_lt_mul_of_pos_right h (by omega)
                      have p2 : decide ((S : Int) < (sx : Int)) = false := decide_eq_false (by omega)
                      have p2' : decide (S < sx) = false := decide_eq_false (by omega)
                      have p3 : decide ((r : Int) < (r : Int)) = false := decide_eq_false (by omega)
                      have p3' : decide (r < r) = false := decide_eq_false (by omega)
                      go_wp2_with fail
                      go_roundw
                      case rel => exact ⟨i + 1, hiQ, by rw [hsh.out, HNX.out], HBx.out⟩
                      case measure => rw [hsh.out]; simp [RowKit.intOf]; omega
                  · have hβ : β = true := by
                      have := HBE.out r (by omega) i hiQ
                      rw [← HS.out] at this
                      exact HFA.out.all this
                    subst hβ
                    have p1 : ((r : Int) == (x1 : Int)) = false := by simp; omega
                    have p1' : (r == x1) = false := by simp; omega
                    go_wp2_with fail
                    go_roundw
                    case rel => exact ⟨i + 1, hiQ, by rw [hsh.out, HNX.out], HBx.out⟩
                    case measure => rw [hsh.out]; simp [RowKit.intOf]; omega
          · have d2 : decide ((S : Int) < 16) = false := decide_eq_false (by omega)
            have d2' : decide (S < 16) = false := decide_eq_false hlt
            go_wp2_with fail
            go_roundw
            case rel => exact ⟨r + 1, by omega, by go_num, HBr.out⟩
            case measure => simp [RowKit.intOf]; omega
      · have d1 : decide ((r : Int) ≤ (x1 : Int)) = false := decide_eq_false (by omega)
        have d1' : decide (r ≤ x1) = false := decide_eq_false hlr
        have HGr : Hid (GM wr m o3 4 a (insG l (x0, x1, sx, x3))) := HGX.out.kept HBr.out
        have HXr := Lib.hid (HXB.out.kept HBr.out)
        have HWr : Hid (COwn wr w1.heap.size (.slice aa LL ac) l) := own_older HWX.out HBr.out
        have HBw : Hid (Below w.heap.size w wr) := below_next HBr.out HBX.out
        have PL : Hid (Calls Try.prog 29 #[.pointer (some ⟨m, 0, none⟩), .int .u32 (x0 : Nat), .int .i64 0] wr fun e w' => e = .returned (.tuple #[.agg #[.int .u32 0, .int .i64 0, .int .i64 0, .int .i64 0], .int .i64 30]) ∧ GM w' m o3 4 a (insG l (x0, x1, sx, x3)) ∧ Chg o3 wr w') :=
          (gplace_any m 4 a x0 0 o3 _ wr HGr.out hid2).mono (by
            rintro e w5 ⟨c5, er5, l5, rfl, hp5, hg5, hc5⟩
            obtain ⟨rfl, rfl, rfl⟩ := place_again hp5 hid0
            exact ⟨rfl, hg5, hc5⟩)
        have HCN : Hid (∀ d ∈ l, d.1 ≠ (x0, x1, sx, x3).1) := HNEW.out
        clear HBr HGX HXB HWX HBX HSH HFR HBE HBE2 HSX HPH RA HXC HNEW hr hsx16 hP16 hP0 hPQ HGr
        go_wp2_with fail
        clear z0 z1 z2 z3 d1 d1' hlr
        refine PL.out.mono ?_; rintro e w5 ⟨rfl, hg5, hc5⟩
        have HG5 := Lib.hid hg5
        have HX5 := Lib.hid (HXr.out.chgC hc5 HNG.out)
        have HW5 : Hid (COwn w5 w1.heap.size (.slice aa LL ac) l) := by unfold Hid; rw [HLL.out] at HWr HN3 ⊢; exact own_chg HWr.out hc5 HN3.out
        have HB5 := Lib.hid (HBw.out.trans (hc5.to_below HBw.out.size (fun k hk h => by have := HO3.out k h; omega)))
        clear hg5 hc5 PL HXr HWr HBw
        go_upto_region 26 with fail
        obtain ⟨g5, hg5⟩ : ∃ g, g = w5.heap.size := ⟨_, rfl⟩
        obtain ⟨X5, hX5⟩ : ∃ x, x = w5.alloc (.cells #[.int .u32 0, .int .i64 0, .int .i64 0, .int .i64 0] 48) := ⟨_, rfl⟩
        obtain ⟨o5, ho5⟩ : ∃ own : Nat → Prop, own = fun k => o3 k ∧ k ≠ g5 := ⟨_, rfl⟩
        have HG6 : Hid (GM X5 m o5 4 a (insG l (x0, x1, sx, x3))) := by unfold Hid; rw [ho5, hX5, hg5]; exact HG5.out.boxed _
        have b5 : Below w5.heap.size w5 X5 := by rw [hX5]; exact (Below.refl _ _).alloc (Nat.le_refl _) _
        have HB6 : Hid (Below w.heap.size w X5) := below_next b5 HB5.out
        have HO5 : Hid (∀ k, o5 k → w.heap.size ≤ k) := fun k h => by rw [ho5] at h; exact HO3.out k h.1
        have HN5 : Hid (∀ k, (Value.slice aa LL ac).ownBlock = some k → ¬ o5 k) := fun k h h2 => by rw [ho5] at h2; exact HN3.out k h h2.1
        have HNG5 : Hid (¬ o5 g4) := fun h => by rw [ho5] at h; exact HNG.out h.1
        have HX6 := Lib.hid (HX5.out.kept b5)
        have HW6 : Hid (COwn X5 w1.heap.size (.slice aa LL ac) l) := own_older HW5.out b5
        have RM := Lib.hid (gremove_any m 4 a x0 o5 _ X5 HG6.out)
        rw [← hg5, ← hX5]
        clear hg5 hX5 ho5 b5 HG5 HX5 HW5 HB5 HO3 HN3 HNG
        go_wp2_with fail
        refine RM.out.mono ?_; rintro e w7 ⟨er, a7, l7, rfl, hr7, hg7, hc7⟩
        obtain ⟨e1, e2, e3⟩ := rem_ins HOK.out HCN.out HACT.out hr7
        subst e1
        rw [e2, e3] at hg7
        have HG7 := Lib.hid hg7
        have HX7 := Lib.hid (HX6.out.chgC hc7 HNG5.out)
        have HW7 : Hid (COwn w7 w1.heap.size (.slice aa LL ac) l) := by unfold Hid; rw [HLL.out] at HW6 HN5 ⊢; exact own_chg HW6.out hc7 HN5.out
        have HB7 := Lib.hid (HB6.out.trans (hc7.to_below HB6.out.size (fun k hk h => by have := HO5.out k h; omega)))
        have RM2 := Lib.hid (gremove_any m 4 a x0 o5 l w7 hg7)
        clear e2 e3 hr7 hg7 hc7 RM HG6 HX6 HW6 HB6
        go_wp2_with fail
        refine RM2.out.mono ?_; rintro e w8 ⟨er, a8, l8, rfl, hr8, hg8, hc8⟩
        obtain ⟨e1, e2, e3⟩ := rem_none HCN.out hr8
        subst e1
        rw [e2, e3] at hg8
        have HG8 := Lib.hid hg8
        have hX8 := HX7.out.chgC hc8 HNG5.out
        have RA : Hid (CRow w8 (.slice aa LL ac) l) := by
          unfold Hid
          rw [HLL.out] at HW7 HN5 ⊢
          exact crow_of_own (own_chg HW7.out hc8 HN5.out)
        have HB8 := Lib.hid (HB7.out.trans (hc8.to_below HB7.out.size (fun k hk h => by have := HO5.out k h; omega)))
        have z0 := hX8.cell 0
        have z1 := hX8.cell 1
        have z2 := hX8.cell 2
        have z3 := hX8.cell 3
        simp at z0 z1 z2 z3
        have CE := Lib.hid (cells_any m 4 a o5 l w8 hg8.gn)
        have AC : Hid (∀ wq, Below w8.heap.size w8 wq → Calls Try.prog 19 #[.pointer (some ⟨m, 0, none⟩)] wq fun e w' => e = .returned (.int .i64 (a : Nat)) ∧ Below wq.heap.size wq w') := fun wq hb => active_any m 4 a o5 l wq (HG8.out.kept hb).gn
        have SM : Hid (∀ (vq : Value) (wq : World), Below w8.heap.size w8 wq → COwn wq w8.heap.size vq l → Calls Try.prog 16 #[vq, .slice aa LL ac] wq fun e w' => e = .returned (.bool true) ∧ Below wq.heap.size wq w') := fun vq wq hb ho => by
          have h := same16_any vq _ _ _ wq (crow_of_own ho) (RA.out.kept hb) (by rw [← HLL.out]; omega) (by rw [← HLL.out]; omega)
          rwa [decide_eq_true rfl] at h
        clear e2 e3 hr8 hg8 hc8 hX8 RM2 HG7 HX7 HW7 HB7 HN5 HO5 HNG5 RA HACT HCN
        go_wp2_with fail
        refine CE.out.mono ?_; rintro e w9 ⟨⟨vq, rfl, ovq⟩, b9⟩
        have HB9 := Lib.hid (below_next b9 HB8.out)
        have B9 := Lib.hid b9
        have SM2 := Lib.hid (SM.out vq w9 b9 ovq)
        obtain ⟨qa, qc, rfl⟩ := own_slice ovq
        clear b9 ovq CE SM z0 z1 z2 z3
        go_wp2_with fail
        refine SM2.out.mono ?_; rintro e w10 ⟨rfl, b10⟩
        have HB10 := Lib.hid (below_next b10 HB9.out)
        have AC2 := Lib.hid (AC.out w10 (below_next b10 B9.out))
        clear b10 SM2 AC
        go_wp2_with fail
        refine AC2.out.mono ?_; rintro e w11 ⟨rfl, b11⟩
        have HB11 := Lib.hid (below_next b11 HB10.out)
        clear b11 AC2
        go_wp2_with fail
        refine (K.out _).mono ?_; rintro e w12 ⟨rfl, b12⟩
        have HB12 := below_next b12 HB11.out
        clear b12
        go_wp2_with fail
        go_ret
        exact ⟨rfl, HB12⟩


set_option maxRecDepth 100000 in
theorem lifted (os : Os) (started : os.Started) (H : Type) (enc : TypeId × Value → H) :
    ReturnsInHanded {} Try.checked os 8 .any (Rows.gangFirstSpec.pre6 enc Try.prog Try.f8 Rows.gangFirstRow.domain false) (Rows.gangFirstSpec.post enc Try.prog Try.f8 false true false false) := by
  refine returnsInHanded_of_change (C := Try.checked) own started (by kernel_rfl) Try.func8
    (ChangeSpec.witness6 (enc := enc) (C := Try.checked) false ⟨#[], #[.slice none 0 0, .int .u32 0, .int .i64 0], []⟩ 8 (by kernel_rfl) (by kernel_rfl) (by kernel_rfl) (by kernel_rfl)) ?_
  intro W base args ds gs before hval0 hW _ _
  have hval : ∀ (j : Nat) t v, Try.f8.params[j]? = some t → args[j]? = some v → Value.okWide Try.prog W .any base t v := hval0
  have hW' := hW
  obtain ⟨p, q, hA0, hV, rfl, hfz, hnd⟩ := hW
  have hA : DataW.TrodAll enc Try.prog W 0 (fun _ => true) true Try.f8.params.toList args.toList ds p := hA0
  rw [Try.params8] at hA hval
  obtain ⟨v0, vs0, d0, ds0, p0, q0, hargs, rfl, rfl, h0, r0⟩ := trodAll_cons hA
  obtain ⟨v1, vs1, d1, ds1, p1, q1, rfl, rfl, rfl, h1, r1⟩ := trodAll_cons r0
  obtain ⟨v2, vs2, d2, ds2, p2, q2, rfl, rfl, rfl, h2, r2⟩ := trodAll_cons r1
  obtain ⟨rfl, rfl, rfl⟩ := trodAll_nil r2
  obtain rfl : args = #[v0, v1, v2] := by cases args; simp_all
  obtain ⟨L, w0⟩ := open_acts h0 (okWide_slice Try.underlying22 (hval 0 22 v0 rfl rfl))
  obtain ⟨id, rfl, rfl, rfl, w1⟩ := open_int Try.underlying32 (hval 1 32 v1 rfl rfl) h1
  obtain ⟨order, rfl, rfl, rfl, w2⟩ := open_int Try.underlying3 (hval 2 3 v2 rfl rfl) h2
  clear hA0 hval0
  refine (walk v0 L id order W w0 w1 w2).mono fun e W' ⟨he, hb⟩ => ?_
  subst he
  exact ⟨_, rfl, law_post (by kernel_rfl) (by kernel_rfl) rfl Try.underlying4 rfl hW' rfl hb⟩

theorem over : Rows.gangFirstRow.holds Try.pinned (OpenSpec.ofChange Rows.gangFirstSpec) :=
  OpenClaim.holds_of_wide 8 Try.f8 rfl rfl rfl rfl rfl rfl rfl ⟨rfl, rfl, rfl, rfl, rfl⟩ rfl rfl rfl rfl rfl (by kernel_rfl) Try.func8 (by kernel_rfl)
    (of_decide_eq_true (by kernel_rfl)) (by unfold Func.isWrapper; first | (rw [if_pos (by decide +kernel)]; kernel_rfl) | (rw [if_neg (by decide +kernel)]; exact ⟨rfl, rfl⟩))
    (fun os started H enc _ => lifted os started H enc)

theorem proved : Rows.GangFirstSaid :=
  over
#print axioms proved
end Go.Proofs.Ytfobapnncjjeiaa.gangFirst
