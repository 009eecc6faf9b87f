/-
  Fail, Heal.
-/
import Derived.Test.YtcdlfhheolbhaaaYeD
namespace Go.Proofs.Ytcdlfhheolbhaaa
open Go Go.RowKit Go.Lib
set_option linter.unusedVariables false

/-- One number into the failed ones, as a walk wants it. -/
theorem failTail (y : Nat) (own : Nat → Prop) (n : Nat) (op : Opn) (tk : List Bk) (fl : List Nat) (x p : Nat) (W : World) (hp : p ≤ fl.length) (hl : fl.length ≤ 1024) (hY : YI W y own n op tk fl) :
    ∃ v : Value, W.cell? ⟨y, 13, none⟩ = some v ∧
      (Calls Try.prog 61 #[v, .int .i64 (p : Nat), .slice (some ⟨W.heap.size, 0, none⟩) 1 1] (W.alloc (.cells #[.int .i64 (x : Int)] 3))
        fun e w'' => ∃ va vn vc, e = .returned (.slice va vn vc) ∧ (w''.cell? ⟨y, 13, none⟩ = some v ∧ w''.frozen? ⟨y, 13, none⟩ = false) ∧
          Hid (YI (w''.setCell ⟨y, 13, none⟩ (.slice va vn vc)) y own n op tk (fl.take p ++ x :: fl.drop p) ∧ Chg own W (w''.setCell ⟨y, 13, none⟩ (.slice va vn vc)))) := by
  obtain ⟨v, hv, hr⟩ := hY.fl
  refine ⟨v, hv, ?_⟩
  have hk : Below W.heap.size W (W.alloc (.cells #[.int .i64 (x : Int)] 3)) := (Below.refl _ _).alloc (Nat.le_refl _) _
  refine (insN_any v fl p x W.heap.size 1 _ hp hl (own_older hr hk) (Blk.new W _ _) (fun e => by have := (hr.lt _ e.symm).2; omega)).mono ?_
  rintro e w2 ⟨v', rfl, d1, d2, d3⟩
  obtain ⟨e1, e2, cs, e3, e4⟩ := (hY.kept hk).putFl (v := v) (v' := v') (cell_next hk hv) d2 d3 d1
  obtain ⟨va, vc, rfl⟩ := own_slice d1
  exact ⟨va, _, vc, rfl, ⟨(e3.at e4).1, (e3.at e4).2⟩, e1, (Chg.of_below hk).trans e2⟩
theorem healTail (y : Nat) (own : Nat → Prop) (n : Nat) (op : Opn) (tk : List Bk) (fl : List Nat) (p : Nat) (W : World) (hp : p < fl.length) (hY : YI W y own n op tk fl) :
    ∃ v : Value, W.cell? ⟨y, 13, none⟩ = some v ∧
      (∀ w', (∃ q, w' = W.drewN q) → Calls Try.prog 63 #[v, .int .i64 (p : Nat), .int .i64 ((p : Int) + 1)] w'
        fun e w'' => ∃ va vn vc, e = .returned (.slice va vn vc) ∧ (w''.cell? ⟨y, 13, none⟩ = some v ∧ w''.frozen? ⟨y, 13, none⟩ = false) ∧
          Hid (YI (w''.setCell ⟨y, 13, none⟩ (.slice va vn vc)) y own n op tk (fl.take p ++ fl.drop (p + 1)) ∧ Chg own W (w''.setCell ⟨y, 13, none⟩ (.slice va vn vc)))) := by
  obtain ⟨v, hv, hr⟩ := hY.fl
  refine ⟨v, hv, ?_⟩
  rintro w' ⟨q, rfl⟩
  have hk : Below W.heap.size W (W.drewN q) := below_drewN (Below.refl _ _) _
  refine (delN_any v fl p _ hp (own_older hr hk)).mono ?_
  rintro e w2 ⟨v', rfl, d1, d2, d3⟩
  obtain ⟨e1, e2, cs, e3, e4⟩ := (hY.kept hk).putFl (v := v) (v' := v') (cell_next hk hv) d2 d3 d1
  obtain ⟨va, vc, rfl⟩ := own_slice d1
  exact ⟨va, _, vc, rfl, ⟨(e3.at e4).1, (e3.at e4).2⟩, e1, (Chg.of_below hk).trans e2⟩

inductive FailR (n : Nat) (fl : List Nat) (q : Int) : Int → List Nat → Prop
  | arg (h : ¬ (0 ≤ q ∧ q < ((2 ^ n : Nat) : Int))) : FailR n fl q 2 fl
  | twice (x : Nat) (hq : q = x) (hx : x < 2 ^ n) (h : x ∈ fl) : FailR n fl q 30 fl
  | ok (x : Nat) (hq : q = x) (hx : x < 2 ^ n) (h : x ∉ fl) : FailR n fl q 0 (insF fl x)
inductive HealR (n : Nat) (fl : List Nat) (q : Int) : Int → List Nat → Prop
  | arg (h : ¬ (0 ≤ q ∧ q < ((2 ^ n : Nat) : Int))) : HealR n fl q 2 fl
  | none (x : Nat) (hq : q = x) (hx : x < 2 ^ n) (h : x ∉ fl) : HealR n fl q 4 fl
  | ok (x : Nat) (hq : q = x) (hx : x < 2 ^ n) (h : x ∈ fl) : HealR n fl q 0 (remF fl x)
def FailPost (R : Nat → List Nat → Int → Int → List Nat → Prop) (y : Nat) (own : Nat → Prop) (n : Nat) (tk : List Bk) (fl : List Nat) (q : Int) (w : World) (e : Ending) (w' : World) : Prop :=
  ∃ er fl', e = .returned (.int .i64 er) ∧ R n fl q er fl' ∧ YS w' y own n tk fl' ∧ Chg own w w'

set_option maxHeartbeats 2000000 in
theorem Fail_any (y : Nat) (own : Nat → Prop) (n : Nat) (tk : List Bk) (fl : List Nat) (q : Int) (w : World) (hY : YS w y own n tk fl) :
    Calls Try.prog 34 #[.pointer (some ⟨y, 0, none⟩), .int .i64 q] w fun e w' => FailPost FailR y own n tk fl q w e w' := by
  have hn := hY.1.hn
  have HY := Lib.hid hY
  have HW : Hid (Calls Try.prog 59 #[.pointer (some ⟨y, 0, none⟩), .int .i64 q] w fun e w' => e = .returned (.bool (decide (0 ≤ q ∧ q < ((2 ^ n : Nat) : Int)))) ∧ w' = w) := hasWorker_any y n q hn w hY.2.ord
  by_cases hin : 0 ≤ q ∧ q < ((2 ^ n : Nat) : Int)
  · rw [decide_eq_true hin] at HW
    obtain ⟨x, rfl⟩ : ∃ x : Nat, q = x := ⟨q.toNat, by omega⟩
    have hx : x < 2 ^ n := by omega
    have HX := Lib.hid hx
    obtain ⟨vf, hvf, hrf⟩ := hY.2.fl
    have BS := Lib.hid (bsN_any vf fl x w hY.1.flen hY.1.fs (nrow_of_own hrf))
    have PF := Lib.hid (pos_facts hY.1.fs x)
    have HH := Lib.hid (@hasN_iff fl x)
    obtain ⟨p, hp⟩ : ∃ p, p = posN fl x := ⟨_, rfl⟩
    obtain ⟨f, hf⟩ : ∃ f, f = hasN fl x := ⟨_, rfl⟩
    rw [← hp, ← hf] at BS
    rw [← hf] at HH
    have HPP := Lib.hid hp
    have HFF := Lib.hid hf
    clear hY hin hx hrf hp hf
    go_enter Try.func34, Try.ntmps34
    go_wp2_with fail
    refine HW.out.mono ?_; rintro e w1 ⟨rfl, hw⟩
    subst hw
    go_wp2_with fail
    refine BS.out.mono ?_; rintro e w2 ⟨rfl, k2, hk2⟩
    have hb2 : Below w1.heap.size w1 w2 := by rw [hk2]; exact below_drewN (Below.refl _ _) _
    have HY2 := Lib.hid (HY.out.kept hb2)
    have HC2 : Hid (Chg own w1 w2) := Chg.of_below hb2
    cases f with
    | true =>
      have HR : Hid (FailR n fl (x : Int) 30 fl) := .twice x rfl HX.out (HH.out.1 rfl)
      clear hb2 hk2
      go_wp2_with fail
      go_returns
      exact ⟨30, fl, rfl, HR.out, HY2.out, HC2.out⟩
    | false =>
      have hxf : x ∉ fl := fun h => by have := HH.out.2 h; cases this
      have HXF := Lib.hid hxf
      have HR : Hid (FailR n fl (x : Int) 0 (insF fl x)) := .ok x rfl HX.out hxf
      have hple : p ≤ fl.length := by rw [HPP.out]; exact PF.out.1
      obtain ⟨v, hv, IN⟩ := failTail y own n (opn n tk fl) tk fl x p w2 hple HY.out.1.flen HY2.out.2
      have hins : insF fl x = fl.take p ++ x :: fl.drop p := by
        rw [HPP.out]
        exact insF_at PF.out.1 PF.out.2.1 PF.out.2.2.1
      rw [← hins] at IN
      have hIN := Lib.hid IN
      have hyl := HY2.out.2.lt
      clear IN hins hple hxf hb2 hk2 hvf
      go_wp2_with fail
      refine hIN.out.mono ?_; rintro e w3 ⟨va, vn, vc, rfl, ⟨d1, d2⟩, hfin⟩
      have HOK : Hid (OkY n tk (insF fl x)) := okY_fail HY.out.1 HX.out HXF.out
      obtain ⟨W4, hW4⟩ : ∃ W4, W4 = w3.setCell ⟨y, 13, none⟩ (.slice va vn vc) := ⟨_, rfl⟩
      rw [← hW4] at hfin
      have HD := Lib.hid (Held_any y own n (opn n tk fl) tk (insF fl x) (x : Int) W4 HY.out.1.tlen HY.out.1.small hfin.out.1)
      have HC4 : Hid (Chg own w1 W4) := HC2.out.trans hfin.out.2
      go_wp2_with fail
      rw [← hW4]
      clear hW4
      refine HD.out.mono ?_; rintro e w5 ⟨b, f, rfl, hR, b5⟩
      have HHB := Lib.hid hR.held
      have HY5 := Lib.hid (hfin.out.1.kept b5)
      have HC5 : Hid (Chg own w1 w5) := HC4.out.trans (Chg.of_below b5)
      obtain ⟨bs, bo⟩ := b
      clear hR b5 d1 d2 hv hyl
      cases f with
      | true =>
        have hE := opn_fail_held (n := n) (tk := tk) (fl := fl) HHB.out.symm
        have HE := Lib.hid hE
        clear hE
        go_wp2_with fail
        go_returns
        have hal : ∀ (o : Obj), Below w5.heap.size w5 (w5.alloc o) := fun o => (Below.refl _ _).alloc (Nat.le_refl _) _
        exact ⟨0, _, rfl, HR.out, ⟨HOK.out, by rw [HE.out]; exact HY5.out.kept (hal _)⟩, HC5.out.trans (Chg.of_below (hal _))⟩
      | false =>
        have hE := opn_fail (n := n) (tk := tk) (fl := fl) (w := x)
        have HE := Lib.hid hE
        have hop : allB (opn n tk fl) 0 x := fun z hz => by
          rw [(one_in x z).1 hz]; exact opn_iff.2 ⟨HX.out, HHB.out.symm, HXF.out⟩
        obtain ⟨W6, hW6⟩ : ∃ W6, W6 = w5.alloc (.cells #[.int .i64 (bs : Int), .int .i64 (bo : Int)] 45) := ⟨_, rfl⟩
        have hal : Below w5.heap.size w5 W6 := by rw [hW6]; exact (Below.refl _ _).alloc (Nat.le_refl _) _
        have CV : Hid (Calls Try.prog 62 #[.pointer (some ⟨y, 0, none⟩), .agg #[.int .i64 (x : Int), .int .i64 0]] W6
            fun e w' => e = .returned (.tuple #[]) ∧ YI w' y own n (less (opn n tk fl) 0 x) tk (insF fl x) ∧ Chg own W6 w') :=
          carve_any y own n (opn n tk fl) tk (insF fl x) 0 x W6 (Nat.zero_le _) (by simp [Nat.mod_one]) (by have := HX.out; simp; omega) hop (HY5.out.kept hal)
        have HC6 : Hid (Chg own w1 W6) := HC5.out.trans (Chg.of_below hal)
        clear hE hop hal
        go_wp2_with fail
        rw [← hW6]
        clear hW6
        refine CV.out.mono ?_; rintro e w7 ⟨rfl, hY7⟩
        have HY7 := Lib.hid hY7
        clear hY7
        go_wp2_with fail
        go_returns
        exact ⟨0, _, rfl, HR.out, ⟨HOK.out, by rw [HE.out]; exact HY7.out.1⟩, HC6.out.trans HY7.out.2⟩
  · rw [decide_eq_false hin] at HW
    have HR : Hid (FailR n fl q 2 fl) := .arg hin
    clear hY hin
    go_enter Try.func34, Try.ntmps34
    go_wp2_with fail
    refine HW.out.mono ?_; rintro e w1 ⟨rfl, hw⟩
    subst hw
    go_wp2_with fail
    go_returns
    exact ⟨2, fl, rfl, HR.out, HY.out, Chg.refl _ _⟩
end Go.Proofs.Ytcdlfhheolbhaaa
