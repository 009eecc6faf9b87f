/-
  Arguments that are rows of acts, opened.
-/
import Derived.Test.YtcdlfhheolbhaaaYeP
import Derived.Test.YtcdlfhheolbhaaaArgs2
import Derived.Deep.Slices
namespace Go.Proofs.Ytcdlfhheolbhaaa
open Go.ChangeShapes Go.WideShapes Go.ChangeAt Go.RowKit Go.Lib Go.Deep
set_option linter.unusedVariables false

abbrev Ac := Int × Int × Int
def encA (x : Ac) : List Value := [.int .i64 x.1, .int .i64 x.2.1, .int .i64 x.2.2]
def ACells (w : World) (b off : Nat) (l : List Ac) : Prop := ∀ i, (h : i < l.length) → w.cell? ⟨b, off + i * 3, none⟩ = some (.int .i64 l[i].1) ∧ w.cell? ⟨b, off + i * 3 + 1, none⟩ = some (.int .i64 l[i].2.1) ∧ w.cell? ⟨b, off + i * 3 + 2, none⟩ = some (.int .i64 l[i].2.2)
theorem ACells.at {w w' : World} {b off i : Nat} {l : List Ac} (h : ACells w b off l) (hb : Below w.heap.size w w') (hi : i < l.length) :
    w'.cell? ⟨b, off + i * 3, none⟩ = some (.int .i64 l[i].1) ∧ w'.cell? ⟨b, off + i * 3 + 1, none⟩ = some (.int .i64 l[i].2.1) ∧ w'.cell? ⟨b, off + i * 3 + 2, none⟩ = some (.int .i64 l[i].2.2) := ⟨cell_next hb (h i hi).1, cell_next hb (h i hi).2.1, cell_next hb (h i hi).2.2⟩
theorem ACells.kept {w w' : World} {b off : Nat} {l : List Ac} (h : ACells w b off l) (hb : Below w.heap.size w w') : ACells w' b off l := fun i hi => h.at hb hi
def ARow (w : World) (v : Value) (l : List Ac) : Prop :=
  (l = [] ∧ ∃ a c, v = .slice a 0 c) ∨ ∃ b off c, v = .slice (some ⟨b, off, none⟩) l.length c ∧ 0 < l.length ∧ ACells w b off l
theorem ARow.kept {w w' : World} {v : Value} {l : List Ac} (h : ARow w v l) (hb : Below w.heap.size w w') : ARow w' v l := by
  rcases h with h | ⟨b, off, c, h1, h2, h5⟩
  · exact .inl h
  · exact .inr ⟨b, off, c, h1, h2, h5.kept hb⟩
theorem ARow.slice {w : World} {v : Value} {l : List Ac} (h : ARow w v l) : ∃ a c, v = .slice a l.length c := by
  rcases h with ⟨rfl, a, c, rfl⟩ | ⟨b, off, c, rfl, _⟩
  · exact ⟨a, c, rfl⟩
  · exact ⟨_, c, rfl⟩
/-- v is a row of acts that came in. -/
def AArg (w : World) (v : Value) (xs : List Ac) : Prop := ARow w v xs ∧ xs.length ≤ maxLen

section
variable {H : Type} {enc : TypeId × Value → H} {W : World}
set_option maxRecDepth 100000 in
theorem act_of_cells {n : Nat} {cs : List Value} {x : DataW H × List MemPlace} (h : DataW.trod enc Try.prog W 0 (fun _ => true) true n 36 cs = some x) : ∃ k : Ac, cs = encA k := by
  have hs := Try.underlying36
  obtain ⟨xs, m, _, _, hl, hlen, hg⟩ := DataW.trod_struct hs h
  have hC : Try.prog.cellsOf 36 = 3 := by kernel_rfl
  rw [hC] at hl
  have hint : Try.prog.cellsOf 3 = 1 := by kernel_rfl
  match cs, hl with
  | [c0, c1, c2], _ =>
    have g0 : DataW.trod enc Try.prog W 0 (fun _ => true) true m 3 (List.take (Try.prog.cellsOf 3) [c0, c1, c2]) = xs[0]? := hg 0 _ rfl
    have g1 : DataW.trod enc Try.prog W 0 (fun _ => true) true m 3 (List.take (Try.prog.cellsOf 3) [c1, c2]) = xs[1]? := hg 1 _ rfl
    have g2 : DataW.trod enc Try.prog W 0 (fun _ => true) true m 3 (List.take (Try.prog.cellsOf 3) [c2]) = xs[2]? := hg 2 _ rfl
    have hx0 : xs[0]? = some (xs[0]'(by rw [hlen]; decide)) := List.getElem?_eq_getElem _
    have hx1 : xs[1]? = some (xs[1]'(by rw [hlen]; decide)) := List.getElem?_eq_getElem _
    have hx2 : xs[2]? = some (xs[2]'(by rw [hlen]; decide)) := List.getElem?_eq_getElem _
    rw [hx0] at g0
    rw [hx1] at g1
    rw [hx2] at g2
    rw [hint] at g0 g1 g2
    dsimp only [List.take] at g0 g1 g2
    obtain ⟨p, rfl, wp⟩ := field_int Try.underlying3 g0
    obtain ⟨t, rfl, wt⟩ := field_int Try.underlying3 g1
    obtain ⟨u, rfl, wu⟩ := field_int Try.underlying3 g2
    exact ⟨(p, t, u), rfl⟩
theorem open_acts_arg {v : Value} {d : DataW H} {p : List MemPlace} (h : DataW.Trod enc Try.prog W 0 (fun _ => true) true 22 v d p) (hv : ∃ a len cap, v = .slice a len cap) : ∃ xs, AArg W v xs := by
  obtain ⟨n, hf⟩ := h
  obtain ⟨a0, len0, cap0, rfl⟩ := hv
  have hC : Try.prog.cellsOf 36 = 3 := by kernel_rfl
  rcases open_slice Try.underlying22 hf with ⟨hcs, _⟩ | ⟨a, len, cap, m, q, D, Pl, hcs, _, hl, hm, hmm, _, hi⟩
  · have e1 : Value.slice a0 len0 cap0 = .slice none 0 0 := by simpa [Value.cells] using hcs
    rw [e1]
    exact ⟨[], .inl ⟨rfl, none, 0, rfl⟩, Nat.zero_le _⟩
  · have e1 : Value.slice a0 len0 cap0 = .slice (some a) len cap := by simpa [Value.cells] using hcs
    rw [e1]
    simp only [if_true] at hmm
    rw [hC] at hi
    by_cases h0 : len = 0
    · subst h0
      exact ⟨[], .inl ⟨rfl, some a, cap, rfl⟩, Nat.zero_le _⟩
    · have hk : ∀ i, i < len → ∃ k : Ac, ∀ j, j < 3 → W.cell? (a.add (i * 3 + j)) = (encA k)[j]? := by
        intro i hil
        obtain ⟨cs', hc, ht⟩ := hi i (by omega)
        obtain ⟨k, rfl⟩ := act_of_cells ht
        obtain ⟨_, _, hat⟩ := World.cells?_some hc
        refine ⟨k, fun j hj => ?_⟩
        rw [← hat j hj, add_add]
      obtain ⟨b, off, spot⟩ := a
      have hspot : spot = none := by
        obtain ⟨k, hh⟩ := hk 0 (by omega)
        have := hh 0 (by omega)
        simpa [Addr.add] using World.cell?_spot (this.trans (show (encA k)[0]? = some (.int .i64 k.1) from rfl))
      subst hspot
      let f : Nat → Ac := fun i => if h : i < len then (hk i h).choose else (0, 0, 0)
      have hf : ∀ i (h : i < len), f i = (hk i h).choose := fun i h => by simp [f, h]
      let xs := (List.range len).map f
      have hlen : xs.length = len := by simp [xs]
      have hat : ∀ i, (h : i < xs.length) → xs[i] = f i := fun i h => by simp [xs]
      refine ⟨xs, .inr ⟨b, off, cap, by rw [hlen], by omega, fun j hj => ?_⟩, by omega⟩
      have hj' : j < len := by rw [← hlen]; exact hj
      rw [hat j hj, hf j hj']
      have hh := (hk j hj').choose_spec
      refine ⟨?_, ?_, ?_⟩
      · have := hh 0 (by omega); rw [Addr.add_lit] at this; exact this
      · have := hh 1 (by omega); rw [Addr.add_lit, ← Nat.add_assoc] at this; exact this
      · have := hh 2 (by omega); rw [Addr.add_lit, ← Nat.add_assoc] at this; exact this
end

/-! An act; a yard on which some were done. -/
inductive ActR (n : Nat) (tk : List Bk) (fl : List Nat) (x : Ac) : Int → Int → List Bk → List Nat → Prop
  | take (hk : x.1 = 0 ∨ x.1 = 1 ∨ x.1 = 2) {r er : Int} {tk' : List Bk} (h : TakeR n tk fl x.2.1 r er tk') : ActR n tk fl x r er tk' fl
  | takeAt (hk : x.1 = 3) {er : Int} {tk' : List Bk} (h : TakeAtR n tk fl x.2.2 x.2.1 er tk') : ActR n tk fl x 0 er tk' fl
  | give (hk : x.1 = 4 ∨ x.1 = 5) {er : Int} {tk' : List Bk} (h : GiveR tk x.2.2 er tk') : ActR n tk fl x 0 er tk' fl
  | fail (hk : x.1 = 6) {er : Int} {fl' : List Nat} (h : FailR n fl x.2.2 er fl') : ActR n tk fl x 0 er tk fl'
  | heal (hk : ¬ (x.1 = 0 ∨ x.1 = 1 ∨ x.1 = 2 ∨ x.1 = 3 ∨ x.1 = 4 ∨ x.1 = 5 ∨ x.1 = 6)) {er : Int} {fl' : List Nat} (h : HealR n fl x.2.2 er fl') : ActR n tk fl x 0 er tk fl'
def ActPost (y : Nat) (own : Nat → Prop) (n : Nat) (tk : List Bk) (fl : List Nat) (x : Ac) (w : World) (e : Ending) (w' : World) : Prop :=
  ∃ r er tk' fl', e = .returned (.tuple #[.int .i64 r, .int .i64 er]) ∧ ActR n tk fl x r er tk' fl' ∧ YS w' y own n tk' fl' ∧ Chg own w w'
theorem act_step {y : Nat} {own : Nat → Prop} {n : Nat} {tk tk' : List Bk} {fl fl' : List Nat} {x : Ac} {w w1 w2 : World} {r er : Int} (hb : Below w.heap.size w w1) (hR : ActR n tk fl x r er tk' fl') (hY : YS w2 y own n tk' fl') (hC : Chg own w1 w2) :
    ActPost y own n tk fl x w (.returned (.tuple #[.int .i64 r, .int .i64 er])) w2 := ⟨r, er, tk', fl', rfl, hR, hY, (Chg.of_below hb).trans hC⟩
set_option maxHeartbeats 4000000 in
theorem act_any (y : Nat) (own : Nat → Prop) (n : Nat) (tk : List Bk) (fl : List Nat) (k m s : Int) (w : World) (hY : YS w y own n tk fl) :
    Calls Try.prog 15 #[.pointer (some ⟨y, 0, none⟩), .agg #[.int .i64 k, .int .i64 m, .int .i64 s]] w fun e w' => ActPost y own n tk fl (k, m, s) w e w' := by
  obtain ⟨w0, hw0⟩ : ∃ w0, w0 = w.alloc (.cells #[.int .i64 k, .int .i64 m, .int .i64 s] 36) := ⟨_, rfl⟩
  have hb : Below w.heap.size w w0 := by rw [hw0]; exact (Below.refl _ _).alloc (Nat.le_refl _) _
  have HB := Lib.hid hb
  have HY0 := Lib.hid (hY.kept hb)
  clear hY hb
  by_cases k0 : k = 0 ∨ k = 1 ∨ k = 2
  · have T := Lib.hid (Take_any y own n tk fl m w0 HY0.out)
    have HK := Lib.hid k0
    rcases k0 with rfl | rfl | rfl <;>
    · go_enter Try.func15, Try.ntmps15
      go_wp2_with fail
      rw [← hw0]
      clear hw0
      refine T.out.mono ?_; rintro e w1 ⟨r, er, tk', rfl, hR, hY, hC⟩
      have HR := Lib.hid hR
      have HY1 := Lib.hid hY
      have HC1 := Lib.hid hC
      clear hR hY hC
      go_wp2_with fail
      go_ret2
      exact act_step HB.out (.take (by simp) HR.out) HY1.out HC1.out
  · by_cases k3 : k = 3
    · subst k3
      have T := Lib.hid (TakeAt_any y own n tk fl s m w0 HY0.out)
      clear k0
      go_enter Try.func15, Try.ntmps15
      go_wp2_with fail
      rw [← hw0]
      clear hw0
      refine T.out.mono ?_; rintro e w1 ⟨er, tk', rfl, hR, hY, hC⟩
      have HR := Lib.hid hR
      have HY1 := Lib.hid hY
      have HC1 := Lib.hid hC
      clear hR hY hC
      go_wp2_with fail
      go_ret2
      exact act_step HB.out (.takeAt rfl HR.out) HY1.out HC1.out
    · by_cases k4 : k = 4 ∨ k = 5
      · have T := Lib.hid (Give_any y own n tk fl s w0 HY0.out)
        have HK := Lib.hid k4
        clear k0 k3
        rcases k4 with rfl | rfl <;>
        · go_enter Try.func15, Try.ntmps15
          go_wp2_with fail
          rw [← hw0]
          clear hw0
          refine T.out.mono ?_; rintro e w1 ⟨er, tk', rfl, hR, hY, hC⟩
          have HR := Lib.hid hR
          have HY1 := Lib.hid hY
          have HC1 := Lib.hid hC
          clear hR hY hC
          go_wp2_with fail
          go_ret2
          exact act_step HB.out (.give (by simp) HR.out) HY1.out HC1.out
      · by_cases k6 : k = 6
        · subst k6
          have T := Lib.hid (Fail_any y own n tk fl s w0 HY0.out)
          clear k0 k3 k4
          go_enter Try.func15, Try.ntmps15
          go_wp2_with fail
          rw [← hw0]
          clear hw0
          refine T.out.mono ?_; rintro e w1 ⟨er, fl', rfl, hR, hY, hC⟩
          have HR := Lib.hid hR
          have HY1 := Lib.hid hY
          have HC1 := Lib.hid hC
          clear hR hY hC
          go_wp2_with fail
          go_ret2
          exact act_step HB.out (.fail rfl HR.out) HY1.out HC1.out
        · have T := Lib.hid (Heal_any y own n tk fl s w0 HY0.out)
          have q0 : (k == 0) = false := beq_eq_false_iff_ne.2 (by omega)
          have q1 : (k == 1) = false := beq_eq_false_iff_ne.2 (by omega)
          have q2 : (k == 2) = false := beq_eq_false_iff_ne.2 (by omega)
          have q3 : (k == 3) = false := beq_eq_false_iff_ne.2 (by omega)
          have q4 : (k == 4) = false := beq_eq_false_iff_ne.2 (by omega)
          have q5 : (k == 5) = false := beq_eq_false_iff_ne.2 (by omega)
          have q6 : (k == 6) = false := beq_eq_false_iff_ne.2 (by omega)
          have HK : Hid (¬ (k = 0 ∨ k = 1 ∨ k = 2 ∨ k = 3 ∨ k = 4 ∨ k = 5 ∨ k = 6)) := by unfold Hid; omega
          clear k0 k3 k4 k6
          go_enter Try.func15, Try.ntmps15
          go_wp2_with fail
          rw [← hw0]
          clear hw0
          refine T.out.mono ?_; rintro e w1 ⟨er, fl', rfl, hR, hY, hC⟩
          have HR := Lib.hid hR
          have HY1 := Lib.hid hY
          have HC1 := Lib.hid hC
          clear hR hY hC
          go_wp2_with fail
          go_ret2
          exact act_step HB.out (.heal HK.out HR.out) HY1.out HC1.out
end Go.Proofs.Ytcdlfhheolbhaaa
