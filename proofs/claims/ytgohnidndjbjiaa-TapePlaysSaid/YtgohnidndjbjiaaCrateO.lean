/-
  Layer 17: gangerref17.All at any bytes.
-/
import Derived.Test.YtgohnidndjbjiaaCrateJ
namespace Go.Proofs.Ytgohnidndjbjiaa
open Go Go.RowKit Go.Lib
set_option linter.unusedVariables false

set_option maxRecDepth 100000 in
set_option maxHeartbeats 1000000 in
theorem refAll_any {w : World} {K : Nat → Prop} {A : Option Addr} {n c : Nat} {bs : List UInt8} (h : Rd w K (.slice A n c) (bts bs)) (hn : bs.length ≤ 1000000) :
    Calls Try.prog 58 #[.slice A n c] w (AllTo w bs) := by
  obtain ⟨i0, hi, hz0, hz1, hz2⟩ := info_parts Try.infoL
  have HR := Lib.hid h
  clear h
  go_enter Try.func58, Try.ntmps58
  go_wp2_with fail
  go_loopw [5, 6] (AllLp w bs) (fun _ i _ => bs.length + 1 - (RowKit.intOf i).toNat)
  case atStart =>
    exact ⟨[], [], 0, rfl, rfl, Nat.zero_le _, rfl, World.ownsRow_nil _ _ _ _, Bods.nil _ _, Below.refl _ w⟩
  case round =>
    obtain ⟨vs, dn, k, rfl, hke, hk, hro, ho, hb, hB⟩ := hrel
    obtain ⟨V, hV⟩ : ∃ V, V = vs.length := ⟨_, rfl⟩
    rw [← hV] at ho
    have HV := Lib.hid hV
    have HKE := Lib.hid hke
    have HRO := Lib.hid hro
    have HO := Lib.hid ho
    have HBD := Lib.hid hb
    have HB := Lib.hid hB
    obtain ⟨A1, c1, rfl⟩ := owned_slice ho
    clear hke hro ho hb hB hV
    have G := Lib.hid (refGet_any (HR.out.kept HB.out) k hk (by omega))
    obtain ⟨r, hr⟩ : ∃ r, r = bs.drop k := ⟨_, rfl⟩
    rw [← hr] at G
    have HRr := Lib.hid hr
    have hcase : (isB r = false ∧ noB r = 170) ∨ (isB r = false ∧ noB r = 171) ∨ isB r = true := by
      cases h : isB r
      · rcases noB_two r with h1 | h1
        · exact .inl ⟨rfl, h1⟩
        · exact .inr (.inl ⟨rfl, h1⟩)
      · exact .inr (.inr rfl)
    have hend : isB r = false → Hid (rowsB bs = dn) := fun h => by unfold Hid; rw [HRO.out, ← hr, rowsB_no h, List.append_nil]
    clear hr
    rcases hcase with ⟨h1, h2⟩ | ⟨h1, h2⟩ | h1
    · have HE := hend h1
      have HX : Hid (errB bs = 0) := by unfold errB Hid; rw [HE.out, ← HKE.out, ← HRr.out, h2]; rfl
      have G2 : Hid (Calls Try.prog 61 #[.slice A n c, .int .i64 k] wr fun e w' => e = .returned (.tuple #[.slice none 0 0, .int .i64 0, .int .i64 170]) ∧ Below wr.heap.size wr w') := G.out.mono fun e w' h => by
        rcases h with ⟨_, he, hb⟩ | ⟨hc, _⟩
        · rw [h2] at he; exact ⟨he, hb⟩
        · rw [h1] at hc; cases hc
      clear h1 h2 hend G
      go_wp2_with fail
      refine G2.out.mono ?_; rintro e w2 ⟨rfl, hb2⟩
      have HB2 := Lib.hid hb2
      clear hb2
      go_wp2_with fail
      first | go_returns | (rw [Exit.noGoto_ret]; go_returns)
      exact ⟨_, vs, by rw [HE.out, ← HKE.out, HX.out]; rfl, by rw [← HV.out]; exact owns_next HO.out HB2.out, by rw [HE.out]; exact HBD.out.kept HB2.out, HB.out.trans (HB2.out.mono HB.out.size)⟩
    · have HE := hend h1
      have HX : Hid (errB bs = 171) := by unfold errB Hid; rw [HE.out, ← HKE.out, ← HRr.out, h2]; rfl
      have G2 : Hid (Calls Try.prog 61 #[.slice A n c, .int .i64 k] wr fun e w' => e = .returned (.tuple #[.slice none 0 0, .int .i64 0, .int .i64 171]) ∧ Below wr.heap.size wr w') := G.out.mono fun e w' h => by
        rcases h with ⟨_, he, hb⟩ | ⟨hc, _⟩
        · rw [h2] at he; exact ⟨he, hb⟩
        · rw [h1] at hc; cases hc
      clear h1 h2 hend G
      go_wp2_with fail
      refine G2.out.mono ?_; rintro e w2 ⟨rfl, hb2⟩
      have HB2 := Lib.hid hb2
      clear hb2
      go_wp2_with fail
      first | go_returns | (rw [Exit.noGoto_ret]; go_returns)
      exact ⟨_, vs, by rw [HE.out, ← HKE.out, HX.out]; rfl, by rw [← HV.out]; exact owns_next HO.out HB2.out, by rw [HE.out]; exact HBD.out.kept HB2.out, HB.out.trans (HB2.out.mono HB.out.size)⟩
    · have hl := isB_len h1
      have hrl : r.length = bs.length - k := by rw [HRr.out, List.length_drop]
      obtain ⟨M, hM⟩ : ∃ M, M = lenB r := ⟨_, rfl⟩
      obtain ⟨bd, hbd⟩ : ∃ bd, bd = bodyB r := ⟨_, rfl⟩
      have hbl : bd.length = M := by rw [hbd, bodyB_len h1, hM]
      have HRow : Hid (rowsB bs = (dn ++ [bd]) ++ rowsB (bs.drop (k + M + 7))) := by
        unfold Hid
        rw [HRO.out, ← HRr.out, rowsB_yes h1, ← hM, ← hbd, HRr.out, List.drop_drop, List.append_assoc, Nat.add_assoc]; rfl
      have hkM : k + M + 7 ≤ bs.length := by omega
      have G2 : Hid (Calls Try.prog 61 #[.slice A n c, .int .i64 k] wr fun e w' => ∃ v', e = .returned (.tuple #[v', .int .i64 (k + M + 7), .int .i64 0]) ∧ w'.ownsRow wr.heap.size 5 1 v' bd.length (bts bd) ∧ Below wr.heap.size wr w') := G.out.mono fun e w' h => by
        rcases h with ⟨hc, _⟩ | ⟨_, v', he, ho, hb⟩
        · rw [h1] at hc; cases hc
        · exact ⟨v', by rw [hM]; exact he, by rw [hbl, hbd, hM]; exact ho, hb⟩
      have HKN : Hid (k + M + 7 = endL (dn ++ [bd])) := by unfold Hid; rw [endL_snoc, ← HKE.out, hbl]; omega
      have HVL : Hid (7 * vs.length ≤ bs.length) := by unfold Hid; rw [HBD.out.len]; have := endL_len dn; rw [← HKE.out] at this; omega
      have HBL := Lib.hid hbl
      obtain ⟨kk, hkk⟩ : ∃ kk, kk = k + M + 7 := ⟨_, rfl⟩
      have ek : (k : Int) + (M : Int) + 7 = (kk : Int) := by omega
      rw [ek] at G2
      rw [← hkk] at HKN HRow hkM
      have hkk2 : k < kk := by omega
      clear h1 hend G hl hrl hM hbd hbl ek hkk
      go_wp2_with fail
      refine G2.out.mono ?_; rintro e w2 ⟨v2, rfl, ho2, hb2⟩
      obtain ⟨N2, hN2⟩ : ∃ N2, N2 = bd.length := ⟨_, rfl⟩
      rw [← hN2] at ho2
      have HO2 := Lib.hid ho2
      have HB2 := Lib.hid hb2
      have HN2 := Lib.hid hN2
      obtain ⟨A2, d2, rfl⟩ := owned_slice ho2
      have hVL := HVL.out
      rw [← HV.out] at hVL
      clear ho2 hb2 hN2
      go_wp2_with (at_builtin; refine wpList_append_own _ rfl _ _ 38 rfl w.heap.size 37 i0 _ 1 24 Try.underlying38 hi hz0 hz1 hz2 rfl (by decide) _ V vs rfl ?q6 ⟨w2.heap.size, 0, none⟩ 1 1 [.slice A2 N2 d2] rfl rfl ?q1 ?q0 ?q2 ?q3 ?q4 ?_)
      case q6 => exact owns_alloc (owns_next HO.out HB2.out) _
      case q1 => exact news_alloc w2 [.slice A2 N2 d2] 37
      case q0 =>
        intro u hu
        obtain rfl : u = .slice A2 N2 d2 := (by simpa using hu)
        rfl
      case q2 => unfold maxLen; omega
      case q3 => omega
      case q4 => have h1 := HB2.out.size; have h2 := HB.out.size; simp; omega
      intro v3 w3 ho3 hg3 hl3
      have HO3 := Lib.hid ho3
      have HG3 := Lib.hid hg3
      clear ho3 hg3 hl3
      have F3 : Hid (Fr (fun b => (Value.slice A1 V c1).ownBlock = some b) w2 w3) := ((Fr.refl _ w2).alloc _).grown HG3.out fun b h => .inl h
      have LV : Hid ((vs ++ [Value.slice A2 N2 d2]).length = V + 1) := by unfold Hid; rw [HV.out]; simp
      have BD3 : Hid (Bods w3 w.heap.size (vs ++ [.slice A2 N2 d2]) (dn ++ [bd])) := by
        have h1 := (HBD.out.kept HB2.out).push (by rw [← HN2.out]; exact HO2.out) HB.out.size fun i u g hu hg => HBD.out.lt hu hg
        refine h1.fr F3.out fun i u g hu hg hh => ?_
        obtain ⟨x, _, ho⟩ := h1.at_ hu
        exact head_ne (owns_next HO.out HB2.out) ho g hh hg
      have B3 : Hid (Below w.heap.size w w3) := HB.out.trans ((HB2.out.mono HB.out.size).trans (F3.out.below (Nat.le_trans HB.out.size HB2.out.size) fun b hb => owns_base HO.out hb))
      go_wp2_with fail
      go_roundw
      case rel => exact ⟨vs ++ [.slice A2 N2 d2], dn ++ [bd], kk, by go_num, HKN.out, hkM, HRow.out, by rw [LV.out]; exact HO3.out, BD3.out, B3.out⟩
      case measure => simp [RowKit.intOf]; omega
end Go.Proofs.Ytgohnidndjbjiaa
