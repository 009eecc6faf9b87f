/-
  The yard's Take, TakeAt, Give, and who holds a worker.
-/
import Derived.Test.YtcdlfhheolbhaaaYeB
namespace Go.Proofs.Ytcdlfhheolbhaaa
open Go Go.RowKit Go.Lib
set_option linter.unusedVariables false

/-- What Take says. -/
inductive TakeR (n : Nat) (tk : List Bk) (fl : List Nat) (q : Int) : Int → Int → List Bk → Prop
  | arg (h : ¬ (0 ≤ q ∧ q ≤ (n : Int))) : TakeR n tk fl q 0 2 tk
  | full (o : Nat) (hq : q = o) (ho : o ≤ n) (h : ∀ k, o ≤ k → k ≤ n → frL n (opn n tk fl) k = []) : TakeR n tk fl q 0 5 tk
  | ok (o k s : Nat) (r : List Nat) (hq : q = o) (ho : o ≤ k) (hk : k ≤ n) (h : ∀ j, o ≤ j → j < k → frL n (opn n tk fl) j = []) (hs : frL n (opn n tk fl) k = s :: r) : TakeR n tk fl q s 0 (insT tk (s, o))
def TakePost (y : Nat) (own : Nat → Prop) (n : Nat) (tk : List Bk) (fl : List Nat) (q : Int) (w : World) (e : Ending) (w' : World) : Prop :=
  ∃ r er tk', e = .returned (.tuple #[.int .i64 r, .int .i64 er]) ∧ TakeR n tk fl q r er tk' ∧ YS w' y own n tk' fl ∧ Chg own w w'
theorem isF_begin {n : Nat} {op : Opn} {o k s : Nat} (h : isF n op k s) (ho : o ≤ k) : o ≤ n ∧ s % 2 ^ o = 0 ∧ s + 2 ^ o ≤ 2 ^ n ∧ allB op o s := by
  have h1 := h.2.2.1
  have h2 := Nat.pow_le_pow_right (n := 2) (by omega) ho
  exact ⟨by have := h.1; omega, two_mod ho h.2.1, by omega, fun x hx => h.2.2.2.1 x (by unfold inB at *; omega)⟩

set_option maxHeartbeats 2000000 in
theorem Take_any (y : Nat) (own : Nat → Prop) (n : Nat) (tk : List Bk) (fl : List Nat) (q : Int) (w : World) (hY : YS w y own n tk fl) :
    Calls Try.prog 32 #[.pointer (some ⟨y, 0, none⟩), .int .i64 q] w fun e w' => TakePost y own n tk fl q w e w' := by
  have hn := hY.1.hn
  have hy0 := hY.2.ord
  have HY := Lib.hid hY
  by_cases h1 : q < 0
  · have d1 : decide (q < 0) = true := decide_eq_true h1
    have HR := Lib.hid (TakeR.arg (tk := tk) (fl := fl) (n := n) (q := q) (by omega))
    clear h1 hY
    go_enter Try.func32, Try.ntmps32
    go_wp2_with fail
    go_returns
    exact ⟨0, 2, tk, rfl, HR.out, HY.out, Chg.refl _ _⟩
  · have d1 : decide (q < 0) = false := decide_eq_false h1
    by_cases h2 : (n : Int) < q
    · have d2 : decide ((n : Int) < q) = true := decide_eq_true h2
      have HR := Lib.hid (TakeR.arg (tk := tk) (fl := fl) (n := n) (q := q) (by omega))
      clear hY
      go_enter Try.func32, Try.ntmps32
      go_wp2_with fail
      go_returns
      exact ⟨0, 2, tk, rfl, HR.out, HY.out, Chg.refl _ _⟩
    · have d2 : decide ((n : Int) < q) = false := decide_eq_false h2
      obtain ⟨o, hqo⟩ : ∃ o : Nat, q = o := ⟨q.toNat, by omega⟩
      have hon : o ≤ n := by omega
      have SF : Hid (Calls Try.prog 52 #[.pointer (some ⟨y, 0, none⟩), .int .i64 q] w
          fun e w' => ∃ r : Int, e = .returned (.int .i64 r) ∧ ((r = -1 ∧ ∀ k, o ≤ k → k ≤ n → frL n (opn n tk fl) k = []) ∨ (∃ k : Nat, r = k ∧ o ≤ k ∧ k ≤ n ∧ frL n (opn n tk fl) k ≠ [] ∧ ∀ j, o ≤ j → j < k → frL n (opn n tk fl) j = [])) ∧ w' = w) := by
        unfold Hid; rw [hqo]; exact sufficient_any y own n _ tk fl o w hY.2
      have HQ := Lib.hid hqo
      clear hY hqo
      go_enter Try.func32, Try.ntmps32
      go_wp2_with fail
      refine SF.out.mono ?_; rintro e w ⟨r, rfl, hr, hw⟩
      subst hw
      rcases hr with ⟨rfl, hall⟩ | ⟨k, rfl, h4, h5, h6, h7⟩
      · have HR := Lib.hid (TakeR.full (tk := tk) (fl := fl) (n := n) (q := q) o HQ.out hon hall)
        clear hall
        go_wp2_with fail
        go_returns
        exact ⟨0, 5, tk, rfl, HR.out, HY.out, Chg.refl _ _⟩
      · obtain ⟨s, rr, hsr⟩ : ∃ s rr, frL n (opn n tk fl) k = s :: rr := by
          cases hc : frL n (opn n tk fl) k with
          | nil => exact absurd hc h6
          | cons a b => exact ⟨a, b, rfl⟩
        have HR := Lib.hid (TakeR.ok (tk := tk) (fl := fl) (n := n) (q := q) o k s rr HQ.out h4 h5 h7 hsr)
        have hF : isF n (opn n tk fl) k s := frL_mem.1 (by rw [hsr]; simp)
        obtain ⟨v, hv, hrow⟩ := HY.out.2.free (show k ≤ 10 by omega)
        rw [hsr] at hrow
        obtain ⟨g, cap, rfl, _, hgl, hcap, hcm, hcell⟩ := nown_parts hrow (by rw [natI_len]; simp)
        have hl := natI_len (s :: rr)
        have c0 := hcell 0 (by rw [hl]; simp)
        rw [natI_at (by simp)] at c0
        simp only [List.getElem_cons_zero] at c0
        obtain ⟨ln, hln⟩ : ∃ ln, ln = (natI (s :: rr)).length := ⟨_, rfl⟩
        have hln0 : 0 < ln := by rw [hln, hl]; simp
        rw [← hln] at hv
        have hlnz : (0 : Int) < (ln : Int) := by omega
        obtain ⟨t1, t2, t3, t4⟩ := isF_begin hF h4
        obtain ⟨gT, hgT⟩ : ∃ gT, gT = w.heap.size := ⟨_, rfl⟩
        obtain ⟨w2, hw2⟩ : ∃ w2, w2 = w.alloc (.cells #[.int .i64 (s : Int), .int .i64 q] 45) := ⟨_, rfl⟩
        have hY2 : YS w2 y (fun k => own k ∧ k ≠ gT) n tk fl := by rw [hw2, hgT]; exact ⟨HY.out.1, HY.out.2.box _⟩
        have HT2 : Hid (Blk w2 gT #[.int .i64 (s : Int), .int .i64 q] 45) := by unfold Hid; rw [hw2, hgT]; exact Blk.new _ _ _
        have HC2 : Hid (Chg own w w2) := by unfold Hid; rw [hw2]; exact Chg.of_below ((Below.refl _ _).alloc (Nat.le_refl _) _)
        have TA : Hid (Calls Try.prog 55 #[.pointer (some ⟨y, 0, none⟩), .agg #[.int .i64 (s : Int), .int .i64 q]] w2
            fun e w' => e = .returned (.tuple #[]) ∧ YS w' y (fun k => own k ∧ k ≠ gT) n (insT tk (s, o)) fl ∧ Chg (fun k => own k ∧ k ≠ gT) w2 w') := by
          unfold Hid; rw [HQ.out]; exact take_any y _ n tk fl o s w2 t1 t2 t3 t4 hY2
        have hki : (k : Int) < 11 := by omega
        have hkz : (0 : Int) ≤ (k : Int) := by omega
        have hk1 : ¬ ((k : Int) < 0) := by omega
        have hk2 : decide ((k : Int) < 0) = false := decide_eq_false hk1
        clear hsr h6 h7 hrow hcell hl hln hF t1 t2 t3 t4 hY2
        go_wp2_with fail
        rw [← hw2, ← hgT]
        clear hw2 hgT
        refine TA.out.mono ?_; rintro e w3 ⟨rfl, hY3, hC3⟩
        have hT3 := HT2.out.chg hC3 (fun h => h.2 rfl)
        have t30 := hT3.cell 0
        simp at t30
        have HY3 : Hid (YS w3 y own n (insT tk (s, o)) fl) := ⟨hY3.1, hY3.2.wider fun k hk => hk.1⟩
        have HC3 : Hid (Chg own w w3) := HC2.out.trans (hC3.weak fun k hk => hk.1)
        clear hY3 hC3 hT3 hv c0
        go_wp2_with fail
        go_returns
        exact ⟨s, 0, _, rfl, HR.out, HY3.out, HC3.out⟩

/-! Give. -/
inductive GiveR (tk : List Bk) (q : Int) : Int → List Bk → Prop
  | none (h : ∀ b ∈ tk, (b.1 : Int) ≠ q) : GiveR tk q 4 tk
  | ok (b : Bk) (hb : b ∈ tk) (hq : (b.1 : Int) = q) : GiveR tk q 0 (remT tk b.1)
def GivePost (y : Nat) (own : Nat → Prop) (n : Nat) (tk : List Bk) (fl : List Nat) (q : Int) (w : World) (e : Ending) (w' : World) : Prop :=
  ∃ er tk', e = .returned (.int .i64 er) ∧ GiveR tk q er tk' ∧ YS w' y own n tk' fl ∧ Chg own w w'
theorem TkAt.none {tk : List Bk} {q : Int} {p : Nat} (h : TkAt tk q p false) (hs : (tk.map (·.1)).Pairwise (· < ·)) : ∀ b ∈ tk, (b.1 : Int) ≠ q := fun b hb e => by
  obtain ⟨i, hi, rfl⟩ := List.getElem_of_mem hb
  have h1 : ¬ i < p := fun hlt => by have := h.lo i hi hlt; omega
  have h2 : p < tk.length := by omega
  have h3 := h.hi p h2 (Nat.le_refl _)
  have h4 : tk[p].1 ≤ tk[i].1 := by
    rcases Nat.lt_or_ge p i with h5 | h5
    · have := List.pairwise_iff_getElem.1 hs p i (by simpa using h2) (by simpa using hi) h5
      simp at this; omega
    · have e : p = i := by omega
      subst e; exact Nat.le_refl _
  have := h.at'.2 ⟨h2, by omega⟩
  cases this
theorem giveIns {n : Nat} {tk : List Bk} {fl : List Nat} {b : Bk} (h : OkY n tk fl) (hb : b ∈ tk) : InsAt n (opn n tk fl) b.2 b.1 :=
  ⟨h.ord b hb, h.al b hb, h.le b hb, fun x hx => by
    cases hc : opn n tk fl x
    · rfl
    · have := (opn_iff.1 hc).2.1
      rw [heldB_iff.2 ⟨b, hb, hx⟩] at this; cases this⟩
set_option maxHeartbeats 2000000 in
theorem Give_any (y : Nat) (own : Nat → Prop) (n : Nat) (tk : List Bk) (fl : List Nat) (q : Int) (w : World) (hY : YS w y own n tk fl) :
    Calls Try.prog 33 #[.pointer (some ⟨y, 0, none⟩), .int .i64 q] w fun e w' => GivePost y own n tk fl q w e w' := by
  have HY := Lib.hid hY
  have FT := Lib.hid (findTaken_any y own n _ tk fl q w hY.1.tlen hY.1.starts hY.2)
  clear hY
  go_enter Try.func33, Try.ntmps33
  go_wp2_with fail
  refine FT.out.mono ?_; rintro e w1 ⟨p, f, rfl, hT, b1⟩
  have HT := Lib.hid hT
  have HC1 : Hid (Chg own w w1) := Chg.of_below b1
  have HY1 := Lib.hid (HY.out.kept b1)
  clear hT b1
  cases f with
  | false =>
    go_wp2_with fail
    go_returns
    exact ⟨4, tk, rfl, .none (HT.out.none HY.out.1.starts), HY1.out, HC1.out⟩
  | true =>
    obtain ⟨hp, hq⟩ := HT.out.at'.1 rfl
    obtain ⟨b, hb⟩ : ∃ b, b = tk[p] := ⟨_, rfl⟩
    have hbm : b ∈ tk := by rw [hb]; exact List.getElem_mem hp
    obtain ⟨v, hv, hrow⟩ := HY1.out.2.tk
    obtain ⟨g, cap, hvv, _, hgl, hcap, hcm, hcell⟩ := bown_parts hrow (by omega)
    obtain ⟨c0, c1⟩ := hcell p hp
    rw [← hb] at c0 c1 hq
    simp only [Nat.zero_add] at c0 c1
    obtain ⟨s, o⟩ := b
    dsimp only at c0 c1 hq
    obtain ⟨gT, hgT⟩ : ∃ gT, gT = w1.heap.size := ⟨_, rfl⟩
    obtain ⟨w2, hw2⟩ : ∃ w2, w2 = w1.alloc (.cells #[.int .i64 (s : Int), .int .i64 (o : Int)] 45) := ⟨_, rfl⟩
    have hk2 : Below w1.heap.size w1 w2 := by rw [hw2]; exact (Below.refl _ _).alloc (Nat.le_refl _) _
    have hY2 : YI w2 y (fun k => own k ∧ k ≠ gT) n (opn n tk fl) tk fl := by rw [hw2, hgT]; exact HY1.out.2.box _
    have HT2 : Hid (Blk w2 gT #[.int .i64 (s : Int), .int .i64 (o : Int)] 45) := by unfold Hid; rw [hw2, hgT]; exact Blk.new _ _ _
    have hv2 := cell_next hk2 hv
    have DL : Hid (∀ w', (∃ q, w' = w2.drewN q) → Calls Try.prog 57 #[v, .int .i64 (p : Int), .int .i64 ((p : Int) + 1)] w' fun e w'' => ∃ va vn vc, e = .returned (.slice va vn vc) ∧
        (w''.cell? ⟨y, 12, none⟩ = some v ∧ w''.frozen? ⟨y, 12, none⟩ = false ∧ Hid (Blk w'' gT #[.int .i64 (s : Int), .int .i64 (o : Int)] 45)) ∧
        Hid (YI (w''.setCell ⟨y, 12, none⟩ (.slice va vn vc)) y (fun k => own k ∧ k ≠ gT) n (opn n tk fl) (remT tk s) fl ∧ Chg (fun k => own k ∧ k ≠ gT) w2 (w''.setCell ⟨y, 12, none⟩ (.slice va vn vc)))) := by
      rintro w' ⟨q, rfl⟩
      have hkq : Below w2.heap.size w2 (w2.drewN q) := below_drewN (Below.refl _ _) _
      refine (delB_any v tk p (w2.drewN q) hp (own_older (own_older hrow hk2) hkq)).mono ?_
      rintro e w3 ⟨v', rfl, d1, d2, d3⟩
      have hrem := remT_at HY.out.1 hp
      rw [← hb] at hrem
      dsimp only at hrem
      rw [← hrem] at d1
      obtain ⟨e1, e2, cs, e3, e4⟩ := (hY2.kept hkq).putTk (v := v) (v' := v') (cell_next hkq hv2) d2 d3 d1
      obtain ⟨va, vc, rfl⟩ := own_slice d1
      have hvo : v.ownBlock ≠ some gT := fun e => by have := (hrow.lt _ e).2; omega
      exact ⟨va, _, vc, rfl, ⟨(e3.at e4).1, (e3.at e4).2, (HT2.out.kept hkq).grown d2 hvo⟩, e1, (Chg.of_below hkq).trans e2⟩
    have hp1 : IntKind.i64.wrap ((p : Int) + 1) = (p : Int) + 1 := by rw [IntKind.wrap_i64]; have := HY.out.1.tlen; omega
    have HYT : Hid (gT ≠ y) := by unfold Hid; have := HY1.out.2.lt; omega
    have hv2v := hv2
    rw [hvv] at hv2v hv
    have hpi : (p : Int) < (tk.length : Int) := by omega
    have HVV := Lib.hid hvv
    have hyl := HY1.out.2.lt
    have hC2 : Chg own w1 w2 := Chg.of_below hk2
    have HC2 : Hid (Chg own w w2) := HC1.out.trans hC2
    have HB := Lib.hid hb
    have HQ := Lib.hid hq
    have HBM := Lib.hid hbm
    rw [HVV.out] at DL
    clear hcell hrow hY2 hk2 hb hq hbm hvv hC2 hv2
    go_wp2_with fail
    rw [← hw2, ← hgT]
    clear hw2 hgT
    refine (DL.out _ ⟨0, rfl⟩).mono ?_; rintro e w3 ⟨va, vn, vc, rfl, ⟨d1, d2, d3⟩, hfin⟩
    have HT4 := Lib.hid ((d3.out.other (a := ⟨y, 12, none⟩) HYT.out (.slice va vn vc)))
    have t40 := HT4.out.cell 0
    have t41 := HT4.out.cell 1
    simp at t40 t41
    have RL := Lib.hid (release_any y n (remT tk s) fl HY.out.1.flen o (fun k => own k ∧ k ≠ gT) (opn n tk fl) s _ (giveIns HY.out.1 HBM.out) hfin.out.1)
    have HC3 : Hid (Chg own w (w3.setCell ⟨y, 12, none⟩ (.slice va vn vc))) := HC2.out.trans (hfin.out.2.weak fun k hk => hk.1)
    go_wp2_with fail
    refine RL.out.mono ?_; rintro e w5 ⟨rfl, hR⟩
    have HR := Lib.hid hR
    clear hR t40 t41
    go_wp2_with fail
    go_returns
    refine ⟨0, _, rfl, .ok (s, o) HBM.out HQ.out, ⟨okY_give s HY.out.1, ?_⟩, HC3.out.trans (HR.out.2.weak fun k hk => hk.1)⟩
    have h1 := HR.out.1.wider (own' := own) fun k hk => hk.1
    have h2 := opn_give HY.out.1 HBM.out
    dsimp only at h2 ⊢
    rw [h2]; exact h1
end Go.Proofs.Ytcdlfhheolbhaaa
