/-
  Heal.
-/
import Derived.Test.YtcdlfhheolbhaaaYeE
namespace Go.Proofs.Ytcdlfhheolbhaaa
open Go Go.RowKit Go.Lib
set_option linter.unusedVariables false

set_option maxHeartbeats 2000000 in
theorem Heal_any (y : Nat) (own : Nat → Prop) (n : Nat) (tk : List Bk) (fl : List Nat) (q : Int) (w : World) (hY : YS w y own n tk fl) :
    Calls Try.prog 35 #[.pointer (some ⟨y, 0, none⟩), .int .i64 q] w fun e w' => FailPost HealR y own n tk fl q w e w' := by
  have hn := hY.1.hn
  have HY := Lib.hid hY
  have HW : Hid (Calls Try.prog 59 #[.pointer (some ⟨y, 0, none⟩), .int .i64 q] w fun e w' => e = .returned (.bool (decide (0 ≤ q ∧ q < ((2 ^ n : Nat) : Int)))) ∧ w' = w) := hasWorker_any y n q hn w hY.2.ord
  by_cases hin : 0 ≤ q ∧ q < ((2 ^ n : Nat) : Int)
  · rw [decide_eq_true hin] at HW
    obtain ⟨x, rfl⟩ : ∃ x : Nat, q = x := ⟨q.toNat, by omega⟩
    have hx : x < 2 ^ n := by omega
    have HX := Lib.hid hx
    obtain ⟨vf, hvf, hrf⟩ := hY.2.fl
    have BS := Lib.hid (bsN_any vf fl x w hY.1.flen hY.1.fs (nrow_of_own hrf))
    have PF := Lib.hid (pos_facts hY.1.fs x)
    have HH := Lib.hid (@hasN_iff fl x)
    obtain ⟨p, hp⟩ : ∃ p, p = posN fl x := ⟨_, rfl⟩
    obtain ⟨f, hf⟩ : ∃ f, f = hasN fl x := ⟨_, rfl⟩
    rw [← hp, ← hf] at BS
    rw [← hf] at HH
    have HPP := Lib.hid hp
    have HFF := Lib.hid hf
    clear hY hin hx hrf hp hf
    go_enter Try.func35, Try.ntmps35
    go_wp2_with fail
    refine HW.out.mono ?_; rintro e w1 ⟨rfl, hw⟩
    subst hw
    go_wp2_with fail
    refine BS.out.mono ?_; rintro e w2 ⟨rfl, k2, hk2⟩
    have hb2 : Below w1.heap.size w1 w2 := by rw [hk2]; exact below_drewN (Below.refl _ _) _
    have HY2 := Lib.hid (HY.out.kept hb2)
    have HC2 : Hid (Chg own w1 w2) := Chg.of_below hb2
    cases f with
    | false =>
      have HR : Hid (HealR n fl (x : Int) 4 fl) := .none x rfl HX.out (fun h => by have := HH.out.2 h; cases this)
      clear hb2 hk2
      go_wp2_with fail
      go_returns
      exact ⟨4, fl, rfl, HR.out, HY2.out, HC2.out⟩
    | true =>
      have hxf : x ∈ fl := HH.out.1 rfl
      have HXF := Lib.hid hxf
      have HR : Hid (HealR n fl (x : Int) 0 (remF fl x)) := .ok x rfl HX.out hxf
      obtain ⟨hpl, hpx⟩ := PF.out.2.2.2.1 HFF.out.symm
      rw [← HPP.out] at hpl
      obtain ⟨v, hv, IN⟩ := healTail y own n (opn n tk fl) tk fl p w2 hpl HY2.out.2
      have hrem : remF fl x = fl.take p ++ fl.drop (p + 1) := by
        have h1 := remF_at HY.out.1.fs hpl
        have h2 : fl[p]'hpl = x := by simp only [HPP.out]; exact hpx
        rw [h2] at h1; exact h1
      rw [← hrem] at IN
      have hIN := Lib.hid IN
      have hyl := HY2.out.2.lt
      have hfl := HY.out.1.flen
      have hp1 : IntKind.i64.wrap ((p : Int) + 1) = (p : Int) + 1 := by rw [IntKind.wrap_i64]; omega
      clear IN hrem hpx hxf hb2 hk2 hvf
      go_wp2_with fail
      refine (hIN.out _ ⟨0, rfl⟩).mono ?_; rintro e w3 ⟨va, vn, vc, rfl, ⟨d1, d2⟩, hfin⟩
      have HOK : Hid (OkY n tk (remF fl x)) := okY_heal x HY.out.1
      obtain ⟨W4, hW4⟩ : ∃ W4, W4 = w3.setCell ⟨y, 13, none⟩ (.slice va vn vc) := ⟨_, rfl⟩
      rw [← hW4] at hfin
      have HD := Lib.hid (Held_any y own n (opn n tk fl) tk (remF fl x) (x : Int) W4 HY.out.1.tlen HY.out.1.small hfin.out.1)
      have HC4 : Hid (Chg own w1 W4) := HC2.out.trans hfin.out.2
      go_wp2_with fail
      rw [← hW4]
      clear hW4
      refine HD.out.mono ?_; rintro e w5 ⟨b, f, rfl, hR, b5⟩
      have HHB := Lib.hid hR.held
      have HY5 := Lib.hid (hfin.out.1.kept b5)
      have HC5 : Hid (Chg own w1 w5) := HC4.out.trans (Chg.of_below b5)
      obtain ⟨bs, bo⟩ := b
      clear hR b5 d1 d2 hv hyl
      cases f with
      | true =>
        have hE := opn_heal_held (n := n) (tk := tk) (fl := fl) HHB.out.symm
        have HE := Lib.hid hE
        clear hE
        go_wp2_with fail
        go_returns
        have hal : ∀ (o : Obj), Below w5.heap.size w5 (w5.alloc o) := fun o => (Below.refl _ _).alloc (Nat.le_refl _) _
        exact ⟨0, _, rfl, HR.out, ⟨HOK.out, by rw [HE.out]; exact HY5.out.kept (hal _)⟩, HC5.out.trans (Chg.of_below (hal _))⟩
      | false =>
        have hE := opn_heal (n := n) (tk := tk) (fl := fl) HX.out HHB.out.symm
        have HE := Lib.hid hE
        have hI : InsAt n (opn n tk fl) 0 x := ⟨Nat.zero_le _, by simp [Nat.mod_one], by have := HX.out; simp; omega, fun z hz => by
          rw [(one_in x z).1 hz]
          cases hc : opn n tk fl x
          · rfl
          · exact absurd HXF.out (opn_iff.1 hc).2.2⟩
        obtain ⟨W6, hW6⟩ : ∃ W6, W6 = w5.alloc (.cells #[.int .i64 (bs : Int), .int .i64 (bo : Int)] 45) := ⟨_, rfl⟩
        have hal : Below w5.heap.size w5 W6 := by rw [hW6]; exact (Below.refl _ _).alloc (Nat.le_refl _) _
        have CV : Hid (Calls Try.prog 64 #[.pointer (some ⟨y, 0, none⟩), .agg #[.int .i64 (x : Int), .int .i64 0]] W6
            fun e w' => e = .returned (.tuple #[]) ∧ YI w' y own n (more (opn n tk fl) 0 x) tk (remF fl x) ∧ Chg own W6 w') :=
          insert_any y own n (opn n tk fl) tk (remF fl x) 0 x W6 hI (HY5.out.kept hal)
        have HC6 : Hid (Chg own w1 W6) := HC5.out.trans (Chg.of_below hal)
        clear hE hI hal
        go_wp2_with fail
        rw [← hW6]
        clear hW6
        refine CV.out.mono ?_; rintro e w7 ⟨rfl, hY7⟩
        have HY7 := Lib.hid hY7
        clear hY7
        go_wp2_with fail
        go_returns
        exact ⟨0, _, rfl, HR.out, ⟨HOK.out, by rw [HE.out]; exact HY7.out.1⟩, HC6.out.trans HY7.out.2⟩
  · rw [decide_eq_false hin] at HW
    have HR : Hid (HealR n fl q 2 fl) := .arg hin
    clear hY hin
    go_enter Try.func35, Try.ntmps35
    go_wp2_with fail
    refine HW.out.mono ?_; rintro e w1 ⟨rfl, hw⟩
    subst hw
    go_wp2_with fail
    go_returns
    exact ⟨2, fl, rfl, HR.out, HY.out, Chg.refl _ _⟩
end Go.Proofs.Ytcdlfhheolbhaaa
