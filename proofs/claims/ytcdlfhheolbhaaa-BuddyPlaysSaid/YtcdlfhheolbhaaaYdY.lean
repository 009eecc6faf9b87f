/-
  The yard's release: a block goes back, but for the failed ones in it.
-/
import Derived.Test.YtcdlfhheolbhaaaYdX
namespace Go.Proofs.Ytcdlfhheolbhaaa
open Go Go.RowKit Go.Lib
set_option linter.unusedVariables false

def RelPost (y : Nat) (own : Nat → Prop) (n : Nat) (op : Opn) (tk : List Bk) (fl : List Nat) (w w' : World) : Prop := YI w' y own n op tk fl ∧ Chg own w w'
theorem relFin {y n : Nat} {own own' : Nat → Prop} {op1 op2 : Opn} {tk : List Bk} {fl : List Nat} {w W w2 : World} (ho : ∀ k, own' k → own k) (he : op1 = op2) (hc : Chg own w W) (h : RelPost y own' n op1 tk fl W w2) : RelPost y own n op2 tk fl w w2 := insFin ho he hc h
set_option maxHeartbeats 4000000 in
theorem release_any (y n : Nat) (tk : List Bk) (fl : List Nat) (hfl : fl.length ≤ 1024) : ∀ (o : Nat) (own : Nat → Prop) (op : Opn) (s : Nat) (w : World), InsAt n op o s → YI w y own n op tk fl →
    Calls Try.prog 58 #[.pointer (some ⟨y, 0, none⟩), bkV (s, o)] w
      fun e w' => e = .returned (.tuple #[]) ∧ RelPost y own n (moreF op fl o s) tk fl w w' := by
  intro o
  induction o with
  | zero =>
    intro own op s w hI hY
    have hn := hY.n10
    have hs4 : s < 4096 := by have := hI.hb; have := pow_1024 hn; have := two_pos 0; omega
    obtain ⟨gB, hgB⟩ : ∃ gB, gB = w.heap.size := ⟨_, rfl⟩
    obtain ⟨w0, hw0⟩ : ∃ w0, w0 = w.alloc (.cells #[.int .i64 (s : Int), .int .i64 0] 45) := ⟨_, rfl⟩
    have hB0 : Below w.heap.size w w0 := by rw [hw0]; exact (Below.refl _ _).alloc (Nat.le_refl _) _
    have HY0 : Hid (YI w0 y (fun k => own k ∧ k ≠ gB) n op tk fl) := by unfold Hid; rw [hw0, hgB]; exact hY.box _
    have HG : Blk w0 gB #[.int .i64 (s : Int), .int .i64 0] 45 := by rw [hw0, hgB]; exact Blk.new _ _ _
    obtain ⟨vf, hvf, hrf0⟩ := hY.fl
    have hrf : NOwn w0 0 vf (natI fl) := own_older hrf0 hB0
    have hyl := hY.lt
    clear hrf0
    have HC0 : Hid (Chg own w w0) := Chg.of_below hB0
    have HF := Lib.hid (hasF_any vf gB (s, 0) fl hs4 (by omega) w0 hfl (nrow_of_own hrf) HG)
    have HA := Lib.hid (@any_in fl 0 s)
    generalize (fl.any fun x : Nat => inI (s, 0) (x : Int)) = f at *
    have HI := Lib.hid hI
    have hmf : ∀ (fn : Fn) (first cap : Array Value) (w : World), (Instr.makeFunc fn first cap).run Try.prog w = .ok (.func fn first cap) w := fun _ _ _ _ => rfl
    have ebk : bkV (s, 0) = .agg #[.int .i64 (s : Int), .int .i64 0] := rfl
    rw [ebk]
    clear ebk hY hI hB0 hrf
    go_enter Try.func58, Try.ntmps58
    go_wp2_with fail
    rw [← hw0, ← hgB]
    clear hw0 hgB
    refine HF.out.mono ?_; rintro e w1 ⟨rfl, b1⟩
    have hY1 := HY0.out.kept b1
    have hG1 := HG.kept b1
    have hb0 := hG1.cell 0
    have hb1 := hG1.cell 1
    simp at hb0 hb1
    have HC1 : Hid (Chg own w w1) := HC0.out.trans (Chg.of_below b1)
    have HY1 := Lib.hid hY1
    clear hY1 hG1 HG hvf b1 hyl
    cases f with
    | false =>
      have hwh : moreF op fl 0 s = more op 0 s := moreF_whole fun x hx hin => by have := HA.out.2 ⟨x, hx, hin⟩; cases this
      have HE := Lib.hid hwh.symm
      have IN := Lib.hid (insert_any y _ n op tk fl 0 s w1 HI.out HY1.out)
      clear hwh
      go_wp2_with fail
      refine IN.out.mono ?_; rintro e w2 ⟨rfl, hY2⟩
      have HY2 := Lib.hid hY2
      clear hY2
      go_wp2_with fail
      go_returns
      exact ⟨rfl, relFin (fun k hk => hk.1) HE.out HC1.out HY2.out⟩
    | true =>
      have hE : moreF op fl 0 s = op := by
        obtain ⟨x, h1, h2⟩ := HA.out.1 rfl
        have e : x = s := (one_in s x).1 h2
        rw [e] at h1
        exact moreF_one h1 (HI.out.hd s (inB_self _ _))
      have HE := Lib.hid hE.symm
      clear hE
      go_wp2_with fail
      go_returns
      exact ⟨rfl, relFin (fun k hk => hk.1) HE.out HC1.out ⟨HY1.out, Chg.refl _ _⟩⟩
  | succ k ih =>
    intro own op s w hI hY
    have hn := hY.n10
    have hs4 : s < 4096 := by have := hI.hb; have := pow_1024 hn; have := two_pos (k + 1); omega
    have hk10 : k + 1 ≤ 10 := by have := hI.ho; omega
    obtain ⟨O, hO⟩ : ∃ O : Int, O = ((k + 1 : Nat) : Int) := ⟨_, rfl⟩
    obtain ⟨gB, hgB⟩ : ∃ gB, gB = w.heap.size := ⟨_, rfl⟩
    obtain ⟨w0, hw0⟩ : ∃ w0, w0 = w.alloc (.cells #[.int .i64 (s : Int), .int .i64 O] 45) := ⟨_, rfl⟩
    have hB0 : Below w.heap.size w w0 := by rw [hw0]; exact (Below.refl _ _).alloc (Nat.le_refl _) _
    have HY0 : Hid (YI w0 y (fun k => own k ∧ k ≠ gB) n op tk fl) := by unfold Hid; rw [hw0, hgB]; exact hY.box _
    have HG : Blk w0 gB #[.int .i64 (s : Int), .int .i64 O] 45 := by rw [hw0, hgB]; exact Blk.new _ _ _
    obtain ⟨vf, hvf, hrf0⟩ := hY.fl
    have hrf : NOwn w0 0 vf (natI fl) := own_older hrf0 hB0
    have hyl := hY.lt
    clear hrf0
    have HC0 : Hid (Chg own w w0) := Chg.of_below hB0
    have HF := Lib.hid (hasF_any vf gB (s, k + 1) fl hs4 hk10 w0 hfl (nrow_of_own hrf) (by rw [← hO]; exact HG))
    have HA := Lib.hid (@any_in fl (k + 1) s)
    generalize (fl.any fun x : Nat => inI (s, k + 1) (x : Int)) = f at *
    have HV : Hid (∀ w, Calls Try.prog 75 #[.agg #[.int .i64 (s : Int), .int .i64 O]] w fun e w' => e = .returned (.tuple #[bkV (s, k), bkV (s + 2 ^ k, k)]) ∧ Below w.heap.size w w') := fun w => by
      rw [hO]; exact halves_any s k hs4 hk10 w
    have HI := Lib.hid hI
    have HIH := Lib.hid ih
    have hmf : ∀ (fn : Fn) (first cap : Array Value) (w : World), (Instr.makeFunc fn first cap).run Try.prog w = .ok (.func fn first cap) w := fun _ _ _ _ => rfl
    have HO := Lib.hid hO
    have hOp : (0 : Int) < O := by omega
    have ebk : bkV (s, k + 1) = .agg #[.int .i64 (s : Int), .int .i64 O] := by rw [hO]
    rw [ebk]
    clear ebk ih hY hI hO hB0 hrf
    go_enter Try.func58, Try.ntmps58
    go_wp2_with fail
    rw [← hw0, ← hgB]
    have HW0 := Lib.hid hw0
    have HGB := Lib.hid hgB
    clear hw0 hgB
    refine HF.out.mono ?_; rintro e w1 ⟨rfl, b1⟩
    have hY1 := HY0.out.kept b1
    have hG1 := HG.kept b1
    have hb0 := hG1.cell 0
    have hb1 := hG1.cell 1
    simp at hb0 hb1
    have HC1 : Hid (Chg own w w1) := HC0.out.trans (Chg.of_below b1)
    have HY1 := Lib.hid hY1
    clear hY1 hG1 HG hvf b1 hyl
    cases f with
    | false =>
      have hwh : moreF op fl (k + 1) s = more op (k + 1) s := moreF_whole fun x hx hin => by have := HA.out.2 ⟨x, hx, hin⟩; cases this
      have HE := Lib.hid hwh.symm
      have IN : Hid (Calls Try.prog 64 #[.pointer (some ⟨y, 0, none⟩), .agg #[.int .i64 (s : Int), .int .i64 O]] w1
          fun e w' => e = .returned (.tuple #[]) ∧ YI w' y (fun k => own k ∧ k ≠ gB) n (more op (k + 1) s) tk fl ∧ Chg (fun k => own k ∧ k ≠ gB) w1 w') := by
        unfold Hid; rw [HO.out]; exact insert_any y _ n op tk fl (k + 1) s w1 HI.out HY1.out
      clear hwh
      go_wp2_with fail
      refine IN.out.mono ?_; rintro e w2 ⟨rfl, hY2⟩
      have HY2 := Lib.hid hY2
      clear hY2
      go_wp2_with fail
      go_returns
      exact ⟨rfl, relFin (fun k hk => hk.1) HE.out HC1.out HY2.out⟩
    | true =>
      go_wp2_with fail
      refine (HV.out _).mono ?_; rintro e w4 ⟨rfl, b4⟩
      obtain ⟨R, hR⟩ : ∃ R, R = s + 2 ^ k := ⟨_, rfl⟩
      rw [← hR]
      obtain ⟨L, hL⟩ : ∃ L, L = w4.heap.size := ⟨_, rfl⟩
      obtain ⟨w5, hw5⟩ : ∃ w5, w5 = (w4.alloc (.cells #[.int .i64 (s : Int), .int .i64 (k : Int)] 45)).alloc (.cells #[.int .i64 (R : Int), .int .i64 (k : Int)] 45) := ⟨_, rfl⟩
      have HC5 : Hid (Chg own w w5) := by
        refine HC1.out.trans ((Chg.of_below b4).trans (Chg.of_below ?_)); rw [hw5]; exact ((Below.refl _ _).alloc (Nat.le_refl _) _).alloc (by simp) _
      have hY5 := (((HY1.out.kept b4).box (.cells #[.int .i64 (s : Int), .int .i64 (k : Int)] 45)).box (.cells #[.int .i64 (R : Int), .int .i64 (k : Int)] 45)).owner (own' := fun k => own k ∧ k ≠ L + 1) (fun k _ hk => ⟨hk.1.1.1, fun e => hk.2 (by rw [e, hL]; simp)⟩) (fun k hk => by
        have h1 := ((HY1.out.kept b4).box (.cells #[.int .i64 (s : Int), .int .i64 (k : Int)] 45)).new k (by simp at hk ⊢; omega)
        exact ⟨h1.1.1, by simp at hk; omega⟩)
      rw [← hw5] at hY5
      have HR5 : Hid (Blk w5 (L + 1) #[.int .i64 (R : Int), .int .i64 (k : Int)] 45) := by unfold Hid; rw [hw5, hL]; exact Blk.fresh _ _ _ _ (by simp)
      have HL5 : Hid (Blk w5 L #[.int .i64 (s : Int), .int .i64 (k : Int)] 45) := by unfold Hid; rw [hw5, hL]; exact (Blk.new _ _ _).old _
      obtain ⟨hI1, hI2⟩ := HI.out.halves fl
      have R1 := Lib.hid (HIH.out _ op s w5 hI1 hY5)
      have HI2 := Lib.hid hI2
      have HRR := Lib.hid hR
      have l50 := HL5.out.cell 0
      have l51 := HL5.out.cell 1
      have r50 := HR5.out.cell 0
      have r51 := HR5.out.cell 1
      simp at l50 l51 r50 r51
      clear hY5 hI1 hI2 hR b4 hb0 hb1
      go_wp2_with fail
      rw [← hw5, ← hL]
      clear hw5 hL
      refine R1.out.mono ?_; rintro e w6 ⟨rfl, hY6⟩
      have hR6 := HR5.out.chg hY6.2 (fun h => h.2 rfl)
      have r60 := hR6.cell 0
      have r61 := hR6.cell 1
      simp at r60 r61
      have HC6 : Hid (Chg own w w6) := HC5.out.trans (hY6.2.weak fun k hk => hk.1)
      have R2 : Hid (Calls Try.prog 58 #[.pointer (some ⟨y, 0, none⟩), .agg #[.int .i64 (R : Int), .int .i64 (k : Int)]] w6
          fun e w' => e = .returned (.tuple #[]) ∧ RelPost y (fun k => own k ∧ k ≠ L + 1) n (moreF (moreF op fl k s) fl k R) tk fl w6 w') :=
        HIH.out _ (moreF op fl k s) R w6 (by rw [HRR.out]; exact HI2.out) hY6.1
      clear hY6 hR6 l50 l51 r50 r51
      go_wp2_with fail
      refine R2.out.mono ?_; rintro e w7 ⟨rfl, hY7⟩
      have HY7 := Lib.hid hY7
      clear hY7
      go_wp2_with fail
      go_returns
      exact ⟨rfl, relFin (fun k hk => hk.1) (by rw [HRR.out]; exact moreF_halves) HC6.out HY7.out⟩
end Go.Proofs.Ytcdlfhheolbhaaa
