/-
  TakeAt.
-/
import Derived.Test.YtcdlfhheolbhaaaYeD
namespace Go.Proofs.Ytcdlfhheolbhaaa
open Go Go.RowKit Go.Lib
set_option linter.unusedVariables false

inductive TakeAtR (n : Nat) (tk : List Bk) (fl : List Nat) (S O : Int) : Int → List Bk → Prop
  | arg (h : ¬ ∃ s o : Nat, S = s ∧ O = o ∧ o ≤ n ∧ s < 2 ^ n ∧ s % 2 ^ o = 0) : TakeAtR n tk fl S O 2 tk
  | full (s o : Nat) (hs : S = s) (ho : O = o) (h1 : o ≤ n) (h2 : s % 2 ^ o = 0) (h3 : s + 2 ^ o ≤ 2 ^ n) (h : ¬ allB (opn n tk fl) o s) : TakeAtR n tk fl S O 5 tk
  | ok (s o : Nat) (hs : S = s) (ho : O = o) (h1 : o ≤ n) (h2 : s % 2 ^ o = 0) (h3 : s + 2 ^ o ≤ 2 ^ n) (h : allB (opn n tk fl) o s) : TakeAtR n tk fl S O 0 (insT tk (s, o))
def TakeAtPost (y : Nat) (own : Nat → Prop) (n : Nat) (tk : List Bk) (fl : List Nat) (S O : Int) (w : World) (e : Ending) (w' : World) : Prop :=
  ∃ er tk', e = .returned (.int .i64 er) ∧ TakeAtR n tk fl S O er tk' ∧ YS w' y own n tk' fl ∧ Chg own w w'
theorem fits_in {n o s : Nat} (ho : o ≤ n) (hs : s < 2 ^ n) (h : s % 2 ^ o = 0) : s + 2 ^ o ≤ 2 ^ n := by
  have h1 := flo_next (m := 2 ^ o) (b := 2 ^ n) (x := s) (two_mod ho (Nat.mod_self _)) hs (two_pos o)
  rw [flo_of (two_pos o) h (Nat.le_refl _) (by have := two_pos o; omega)] at h1
  exact h1
set_option maxHeartbeats 4000000 in
theorem TakeAt_any (y : Nat) (own : Nat → Prop) (n : Nat) (tk : List Bk) (fl : List Nat) (S O : Int) (w : World) (hY : YS w y own n tk fl) :
    Calls Try.prog 36 #[.pointer (some ⟨y, 0, none⟩), .agg #[.int .i64 S, .int .i64 O]] w fun e w' => TakeAtPost y own n tk fl S O w e w' := by
  have hn := hY.1.hn
  obtain ⟨gB, hgB⟩ : ∃ gB, gB = w.heap.size := ⟨_, rfl⟩
  obtain ⟨w0, hw0⟩ : ∃ w0, w0 = w.alloc (.cells #[.int .i64 S, .int .i64 O] 45) := ⟨_, rfl⟩
  have hB0 : Below w.heap.size w w0 := by rw [hw0]; exact (Below.refl _ _).alloc (Nat.le_refl _) _
  have hY1 : YS w0 y (fun k => own k ∧ k ≠ gB) n tk fl := by rw [hw0, hgB]; exact ⟨hY.1, hY.2.box _⟩
  have HG : Blk w0 gB #[.int .i64 S, .int .i64 O] 45 := by rw [hw0, hgB]; exact Blk.new _ _ _
  have hg0 := HG.cell 0
  have hg1 := HG.cell 1
  simp at hg0 hg1
  have hy0 := hY1.2.ord
  obtain ⟨N, hN⟩ : ∃ N : Int, N = (n : Int) := ⟨_, rfl⟩
  rw [← hN] at hy0
  have HNN := Lib.hid hN
  have HY := Lib.hid (hY.kept hB0)
  have HY1 := Lib.hid hY1
  have HC0 : Hid (Chg own w w0) := Chg.of_below hB0
  have HGG := Lib.hid HG
  have HW : Hid (Calls Try.prog 59 #[.pointer (some ⟨y, 0, none⟩), .int .i64 S] w0.drew fun e w'' => e = .returned (.bool (decide (0 ≤ S ∧ S < ((2 ^ n : Nat) : Int)))) ∧ w'' = w0.drew) := hasWorker_any y n S hn w0.drew (by rw [← hN]; exact hy0)
  have HWQ : Hid (∀ q, Calls Try.prog 59 #[.pointer (some ⟨y, 0, none⟩), .int .i64 S] (w0.drewN q) fun e w'' => e = .returned (.bool (decide (0 ≤ S ∧ S < ((2 ^ n : Nat) : Int)))) ∧ w'' = w0.drewN q) := fun q => hasWorker_any y n S hn (w0.drewN q) (by rw [← hN]; exact hy0)
  clear hY hY1 hB0 HG
  have harg : ∀ w' : World, Below w0.heap.size w0 w' → (¬ ∃ s o : Nat, S = s ∧ O = o ∧ o ≤ n ∧ s < 2 ^ n ∧ s % 2 ^ o = 0) → TakeAtPost y own n tk fl S O w (.returned (.int .i64 2)) w' := fun w' hb hno => ⟨2, tk, rfl, .arg hno, HY.out.kept hb, HC0.out.trans (Chg.of_below hb)⟩
  have HARG := Lib.hid harg
  clear harg
  by_cases h1 : O < 0
  · have d1 : decide (O < 0) = true := decide_eq_true h1
    have hno : ¬ ∃ s o : Nat, S = s ∧ O = o ∧ o ≤ n ∧ s < 2 ^ n ∧ s % 2 ^ o = 0 := by rintro ⟨s, o, _, h, _⟩; omega
    have HNO := Lib.hid hno
    clear hno hN
    go_enter Try.func36, Try.ntmps36
    go_wp2_with fail
    rw [← hw0, ← hgB]
    clear hw0 hgB
    go_region
    go_wp2_with fail
    go_returns
    exact HARG.out _ (by first | exact (Below.refl _ _).drew | exact below_drewN (Below.refl _ _) _ | exact Below.refl _ _) HNO.out
  · have d1 : decide (O < 0) = false := decide_eq_false h1
    by_cases h2 : N < O
    · have d2 : decide (N < O) = true := decide_eq_true h2
      have hno : ¬ ∃ s o : Nat, S = s ∧ O = o ∧ o ≤ n ∧ s < 2 ^ n ∧ s % 2 ^ o = 0 := by rintro ⟨s, o, _, h, _⟩; omega
      have HNO := Lib.hid hno
      clear hno hN
      go_enter Try.func36, Try.ntmps36
      go_wp2_with fail
      rw [← hw0, ← hgB]
      clear hw0 hgB
      go_region
      go_wp2_with fail
      go_returns
      exact HARG.out _ (by first | exact (Below.refl _ _).drew | exact below_drewN (Below.refl _ _) _ | exact Below.refl _ _) HNO.out
    · have d2 : decide (N < O) = false := decide_eq_false h2
      obtain ⟨o, ho⟩ : ∃ o : Nat, O = o := ⟨O.toNat, by omega⟩
      have hon : o ≤ n := by omega
      by_cases h3 : 0 ≤ S ∧ S < ((2 ^ n : Nat) : Int)
      · rw [decide_eq_true h3] at HW
        obtain ⟨s, hs⟩ : ∃ s : Nat, S = s := ⟨S.toNat, by omega⟩
        have hsn : s < 2 ^ n := by omega
        have hpn := pow_1024 hn
        have SZ : Hid (∀ w, Calls Try.prog 65 #[.int .i64 O] w fun e w' => e = .returned (.int .i64 ((2 ^ o : Nat) : Int)) ∧ w' = w) := fun w => by rw [ho]; exact size_any o (by omega) w
        have hp2 := two_pos o
        have hp3 := pow_1024 (show o ≤ 10 by omega)
        obtain ⟨P2, hP2⟩ : ∃ P2 : Int, P2 = ((2 ^ o : Nat) : Int) := ⟨_, rfl⟩
        rw [← hP2] at SZ
        have hPz : ¬ P2 = 0 := by omega
        have hPm : ¬ P2 = -1 := by omega
        have htm : S.tmod P2 = ((s % 2 ^ o : Nat) : Int) := by rw [hs, hP2]; exact (Int.ofNat_tmod s (2 ^ o)).symm
        obtain ⟨R, hR⟩ : ∃ R : Int, R = ((s % 2 ^ o : Nat) : Int) := ⟨_, rfl⟩
        rw [← hR] at htm
        have HRR := Lib.hid hR
        have HS := Lib.hid hs
        have HO := Lib.hid ho
        clear hP2 hs ho h3 hpn hp2 hp3 hR hN
        by_cases hR0 : R = 0
        · have hRd : (R != 0) = false := by rw [hR0]; rfl
          have hmod : s % 2 ^ o = 0 := by have := HRR.out; omega
          have hfit := fits_in hon (by assumption) hmod
          have HMOD := Lib.hid hmod
          have HFIT := Lib.hid hfit
          have HW1 : Hid (Below w0.heap.size w0 w0.drew) := (Below.refl _ _).drew
          have FA : Hid (Calls Try.prog 66 #[.pointer (some ⟨y, 0, none⟩), .agg #[.int .i64 S, .int .i64 O]] w0.drew
              fun e w' => ∃ r, e = .returned (.tuple #[bkV r.1, .bool r.2]) ∧ Around n (opn n tk fl) o s r ∧ Below w0.drew.heap.size w0.drew w') := by
            unfold Hid; rw [HS.out, HO.out]; exact freeAround_any y _ n _ tk fl o s w0.drew hon hmod hfit (HY1.out.2.kept HW1.out)
          have TK : Hid (∀ w', Below w0.heap.size w0 w' → allB (opn n tk fl) o s → Calls Try.prog 55 #[.pointer (some ⟨y, 0, none⟩), .agg #[.int .i64 S, .int .i64 O]] w'
              fun e w'' => e = .returned (.tuple #[]) ∧ YS w'' y (fun k => own k ∧ k ≠ gB) n (insT tk (s, o)) fl ∧ Chg (fun k => own k ∧ k ≠ gB) w' w'') := fun w' hb ha => by
            rw [HS.out, HO.out]; exact take_any y _ n tk fl o s w' hon hmod hfit ha (HY1.out.kept hb)
          clear hmod hfit hsn
          go_enter Try.func36, Try.ntmps36
          go_wp2_with fail
          rw [← hw0, ← hgB]
          clear hw0 hgB
          go_region_held3 (fun w' => w'.cell? ⟨gB, 0, none⟩ = some (.int .i64 S) ∧ w'.cell? ⟨gB, 1, none⟩ = some (.int .i64 O) ∧ w'.cell? ⟨y, 0, none⟩ = some (.int .i64 N))
            (first | exact ⟨hg0, hg1, hy0⟩ | exact ⟨by assumption, by assumption, by assumption⟩)
            (first
              | (go_at_call 59; ((with_reducible refine HW.out.mono ?_); rintro e w2 ⟨rfl, hw⟩; subst hw))
              | (go_at_call 65; ((with_reducible refine (SZ.out w0.drew).mono ?_); rintro e w2 ⟨rfl, hw⟩; subst hw)))
          all_goals
            go_wp2_with fail
            refine FA.out.mono ?_; rintro e w1 ⟨⟨⟨rs, ro⟩, rf⟩, rfl, har, b1⟩
            have hbb : Below w0.heap.size w0 w1 := HW1.out.trans b1
            obtain ⟨w2, hw2⟩ : ∃ w2, w2 = w1.alloc (.cells #[.int .i64 (rs : Int), .int .i64 (ro : Int)] 45) := ⟨_, rfl⟩
            have hb2 : Below w0.heap.size w0 w2 := by rw [hw2]; exact hbb.alloc hbb.size _
            have HB2 := Lib.hid hb2
            have hq0 := cell_next hb2 hg0
            have hq1 := cell_next hb2 hg1
            have hal : ∀ C T, (w1.alloc (.cells C T)).cell? ⟨gB, 0, none⟩ = some (.int .i64 S) := fun C T => cell_next (hbb.alloc hbb.size _) hg0
            have hal1 : ∀ C T, (w1.alloc (.cells C T)).cell? ⟨gB, 1, none⟩ = some (.int .i64 O) := fun C T => cell_next (hbb.alloc hbb.size _) hg1
            rcases har with ⟨h5, _, _, _, hall⟩ | ⟨h5, h6, hnall⟩
            · dsimp only at h5
              subst h5
              have TK2 := Lib.hid (TK.out w2 hb2 hall)
              have HR : Hid (TakeAtR n tk fl S O 0 (insT tk (s, o))) := .ok s o HS.out HO.out hon HMOD.out HFIT.out hall
              clear hb2 hbb b1 hall
              go_wp2_with fail
              rw [← hw2]
              clear hw2 hal hal1
              refine TK2.out.mono ?_; rintro e w3 ⟨rfl, hY3, hC3⟩
              have HY3 := Lib.hid hY3
              have HC3 := Lib.hid hC3
              clear hY3 hC3
              go_wp2_with fail
              go_returns
              exact ⟨0, _, rfl, HR.out, ⟨HY3.out.1, HY3.out.2.wider fun k hk => hk.1⟩, (HC0.out.trans (Chg.of_below HB2.out)).trans (HC3.out.weak fun k hk => hk.1)⟩
            · dsimp only at h5 h6
              subst h5
              obtain ⟨rfl, rfl⟩ : rs = 0 ∧ ro = 0 := by simpa using h6
              clear h6
              have HR : Hid (TakeAtR n tk fl S O 5 tk) := .full s o HS.out HO.out hon HMOD.out HFIT.out hnall
              clear hb2 hbb b1 hnall
              go_wp2_with fail
              go_returns
              rw [hw2] at HB2
              exact ⟨5, tk, rfl, HR.out, HY.out.kept HB2.out, HC0.out.trans (Chg.of_below HB2.out)⟩
        · have hRd : (R != 0) = true := by simp [hR0]
          have hno : ¬ ∃ s o : Nat, S = s ∧ O = o ∧ o ≤ n ∧ s < 2 ^ n ∧ s % 2 ^ o = 0 := by
            rintro ⟨s', o', e1, e2, _, _, h6⟩
            have e3 : s' = s := by have := HS.out; omega
            have e4 : o' = o := by have := HO.out; omega
            subst e3; subst e4
            exact hR0 (by rw [HRR.out, h6]; rfl)
          have HNO := Lib.hid hno
          clear hno hsn
          go_enter Try.func36, Try.ntmps36
          go_wp2_with fail
          rw [← hw0, ← hgB]
          clear hw0 hgB
          go_region_held3 (fun w' => w'.cell? ⟨gB, 0, none⟩ = some (.int .i64 S) ∧ w'.cell? ⟨gB, 1, none⟩ = some (.int .i64 O) ∧ w'.cell? ⟨y, 0, none⟩ = some (.int .i64 N))
            (first | exact ⟨hg0, hg1, hy0⟩ | exact ⟨by assumption, by assumption, by assumption⟩)
            (first
              | (go_at_call 59; ((with_reducible refine HW.out.mono ?_); rintro e w2 ⟨rfl, hw⟩; subst hw))
              | (go_at_call 65; ((with_reducible refine (SZ.out w0.drew).mono ?_); rintro e w2 ⟨rfl, hw⟩; subst hw)))
          all_goals
            go_wp2_with fail
            go_returns
            exact HARG.out _ (by first | exact (Below.refl _ _).drew | exact below_drewN (Below.refl _ _) _ | exact Below.refl _ _) HNO.out
      · rw [decide_eq_false h3] at HW HWQ
        have hno : ¬ ∃ s o : Nat, S = s ∧ O = o ∧ o ≤ n ∧ s < 2 ^ n ∧ s % 2 ^ o = 0 := by rintro ⟨s, o, h, _, _, h4, _⟩; exact h3 ⟨by omega, by omega⟩
        have HNO := Lib.hid hno
        clear hno h3 ho hN
        go_enter Try.func36, Try.ntmps36
        go_wp2_with fail
        rw [← hw0, ← hgB]
        clear hw0 hgB
        go_quiet (first | (go_at_call 59; exact Calls.quiet_of_same (HWQ.out _)))
        go_wp2_with fail
        go_returns
        exact HARG.out _ (by first | exact (Below.refl _ _).drew | exact below_drewN (Below.refl _ _) _ | exact Below.refl _ _) HNO.out
end Go.Proofs.Ytcdlfhheolbhaaa
