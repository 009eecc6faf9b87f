/-
  The reader's call step.
-/
import Derived.Test.YtdhkinknhjpjmaaDoorIxC
namespace Go.Proofs.YtdhkinknhjpjmaaDoor
open Go Go.RowKit Go.Lib
set_option linter.unusedVariables false

/-- What step answers. -/
def StepTo (w : World) (b : Nat) (o : Option St) (e : Ending) (w' : World) : Prop :=
  w.grownBy w' (some b) ∧ match o with | none => e = .returned (.bool false) | some s' => e = .returned (.bool true) ∧ Rdr w' b s'
theorem step_dig_eq {s : St} {t c : Nat} (h : 48 ≤ c ∧ c ≤ 57) : s.step t c = s.digit (c - 48) := if_pos h
set_option maxRecDepth 100000 in
set_option maxHeartbeats 2000000 in
theorem rstep_dig (b t c : Nat) (s : St) (w : World) (hs : StOk s) (h : Rdr w b s) (hc : 48 ≤ c ∧ c ≤ 57) :
    Calls Tryd.prog 20 #[.pointer (some ⟨b, 0, none⟩), .int .i64 t, .int .i32 c] w (StepTo w b (s.step t c)) := by
  have DG : Hid (Calls Tryd.prog 30 #[.pointer (some ⟨b, 0, none⟩), .int .i64 ((c : Int) - 48)] w fun e w' => ∃ r, e = .returned (.bool r) ∧ StepTo w b (s.step t c) (.returned (.bool r)) w') := by
    have e : ((c : Int) - 48) = ((c - 48 : Nat) : Int) := by omega
    rw [e, step_dig_eq hc]
    unfold St.digit
    by_cases hn : (0 < s.dg ∧ s.num s.part = 0) ∨ s.dg = 4
    · rw [if_pos hn]
      refine (rdigit_no b (c - 48) s w hs (by omega) h hn).mono ?_
      rintro e w' ⟨rfl, hg⟩
      exact ⟨false, rfl, hg, rfl⟩
    · rw [if_neg hn]
      refine (rdigit_yes b (c - 48) s w hs (by omega) h hn).mono ?_
      rintro e w' ⟨rfl, hr, hg⟩
      exact ⟨true, rfl, hg, rfl, hr⟩
  have g1 : decide ((c : Int) ≥ 48) = true := decide_eq_true (by omega)
  have g1n : decide (48 ≤ c) = true := decide_eq_true (by omega)
  have g2 : decide ((c : Int) ≤ 57) = true := decide_eq_true (by omega)
  have g2n : decide (c ≤ 57) = true := decide_eq_true (by omega)
  have hcb : (c : Int) ≤ 57 := by omega
  have hcb2 : 48 ≤ (c : Int) := by omega
  generalize s.step t c = res at *
  clear hs h hc
  go_enter Tryd.func20, Tryd.ntmps20
  go_wp2_with fail
  refine DG.out.mono ?_; rintro e w1 ⟨r, rfl, hr⟩
  have HR := Lib.hid hr
  clear hr DG
  cases r
  all_goals
    go_wp2_with fail
    go_returns
    exact HR.out
set_option maxRecDepth 100000 in
set_option maxHeartbeats 4000000 in
theorem rstep_no (b t c : Nat) (s : St) (w : World) (hs : StOk s) (hcm : c ≤ 2147483647) (h : Rdr w b s) (hnd : ¬ (48 ≤ c ∧ c ≤ 57)) (hno : s.step t c = none) :
    Calls Tryd.prog 20 #[.pointer (some ⟨b, 0, none⟩), .int .i64 t, .int .i32 c] w (StepTo w b (s.step t c)) := by
  rw [hno]
  unfold St.step at hno
  rw [if_neg hnd] at hno
  have G0 : Hid (w.grownBy w (some b)) := World.grownBy.refl w _
  have hp := hs.part
  have c1 := h.cell (i := 1) (by omega)
  have c2 := h.cell (i := 2) (by omega)
  rw [f_part] at c1
  rw [f_dg] at c2
  clear h hs
  by_cases hd : s.dg = 0
  · have z : ((s.dg : Int) == 0) = true := by rw [beq_iff_eq]; omega
    clear hno hd
    have g : (decide ((c : Int) ≥ 48) = false) ∨ (decide ((c : Int) ≥ 48) = true ∧ decide ((c : Int) ≤ 57) = false) := by
      rcases Nat.lt_or_ge c 48 with h | h
      · exact .inl (decide_eq_false (by omega))
      · exact .inr ⟨decide_eq_true (by omega), decide_eq_false (by omega)⟩
    have gn : (decide ((c : Int) ≥ 48) = false → decide (48 ≤ c) = false) ∧ (decide ((c : Int) ≥ 48) = true → decide (48 ≤ c) = true) ∧ (decide ((c : Int) ≤ 57) = false → decide (c ≤ 57) = false) :=
      ⟨fun h => decide_eq_false (by have := of_decide_eq_false h; omega), fun h => decide_eq_true (by have := of_decide_eq_true h; omega), fun h => decide_eq_false (by have := of_decide_eq_false h; omega)⟩
    rcases g with g1 | ⟨g1, g2⟩
    · have g1n := gn.1 g1
      clear gn hnd
      go_enter Tryd.func20, Tryd.ntmps20
      go_wp2_with fail
      go_returns
      exact ⟨G0.out, rfl⟩
    · have g1n := gn.2.1 g1
      have g2n := gn.2.2 g2
      clear gn hnd
      go_enter Tryd.func20, Tryd.ntmps20
      go_wp2_with fail
      go_returns
      exact ⟨G0.out, rfl⟩
  · rw [if_neg hd] at hno
    have z : ((s.dg : Int) == 0) = false := by rw [beq_eq_false_iff_ne]; omega
    have k1 : ¬ (c = 45 ∧ s.part = 0) := fun hh => by rw [if_pos hh] at hno; cases hno
    rw [if_neg k1] at hno
    have k2 : ¬ (c = 58 ∧ s.part = 1) := fun hh => by rw [if_pos hh] at hno; cases hno
    rw [if_neg k2] at hno
    have k3 : ¬ (c = 44 ∧ s.part ≠ 3) := fun hh => by rw [if_pos hh] at hno; cases hno
    rw [if_neg k3] at hno
    have k4 : ¬ (c = 37 ∧ s.part ≠ 3) := fun hh => by rw [if_pos hh] at hno; cases hno
    clear hno hd
    generalize s.part = p at *
    generalize s.dg = d at *
    clear s
    by_cases h45 : c = 45
    · have hp0 : ((p : Int) == 0) = false := by rw [beq_eq_false_iff_ne]; omega
      have e45 : ((c : Int) == 45) = true := by rw [beq_iff_eq]; omega
      have e58 : ((c : Int) == 58) = false := by rw [beq_eq_false_iff_ne]; omega
      have e44 : ((c : Int) == 44) = false := by rw [beq_eq_false_iff_ne]; omega
      have e37 : ((c : Int) == 37) = false := by rw [beq_eq_false_iff_ne]; omega
      clear k1 k2 k3 k4
      have g : (decide ((c : Int) ≥ 48) = false) ∨ (decide ((c : Int) ≥ 48) = true ∧ decide ((c : Int) ≤ 57) = false) := by
        rcases Nat.lt_or_ge c 48 with h | h
        · exact .inl (decide_eq_false (by omega))
        · exact .inr ⟨decide_eq_true (by omega), decide_eq_false (by omega)⟩
      have gn : (decide ((c : Int) ≥ 48) = false → decide (48 ≤ c) = false) ∧ (decide ((c : Int) ≥ 48) = true → decide (48 ≤ c) = true) ∧ (decide ((c : Int) ≤ 57) = false → decide (c ≤ 57) = false) :=
        ⟨fun h => decide_eq_false (by have := of_decide_eq_false h; omega), fun h => decide_eq_true (by have := of_decide_eq_true h; omega), fun h => decide_eq_false (by have := of_decide_eq_false h; omega)⟩
      rcases g with g1 | ⟨g1, g2⟩
      · have g1n := gn.1 g1
        clear gn hnd
        clear h45
        go_enter Tryd.func20, Tryd.ntmps20
        go_wp2_with fail
        go_returns
        exact ⟨G0.out, rfl⟩
      · have g1n := gn.2.1 g1
        have g2n := gn.2.2 g2
        clear gn hnd
        clear h45
        go_enter Tryd.func20, Tryd.ntmps20
        go_wp2_with fail
        go_returns
        exact ⟨G0.out, rfl⟩
    · by_cases h58 : c = 58
      · have hp1 : ((p : Int) == 1) = false := by rw [beq_eq_false_iff_ne]; omega
        have e45 : ((c : Int) == 45) = false := by rw [beq_eq_false_iff_ne]; omega
        have e58 : ((c : Int) == 58) = true := by rw [beq_iff_eq]; omega
        have e44 : ((c : Int) == 44) = false := by rw [beq_eq_false_iff_ne]; omega
        have e37 : ((c : Int) == 37) = false := by rw [beq_eq_false_iff_ne]; omega
        clear k1 k2 k3 k4
        have g : (decide ((c : Int) ≥ 48) = false) ∨ (decide ((c : Int) ≥ 48) = true ∧ decide ((c : Int) ≤ 57) = false) := by
          rcases Nat.lt_or_ge c 48 with h | h
          · exact .inl (decide_eq_false (by omega))
          · exact .inr ⟨decide_eq_true (by omega), decide_eq_false (by omega)⟩
        have gn : (decide ((c : Int) ≥ 48) = false → decide (48 ≤ c) = false) ∧ (decide ((c : Int) ≥ 48) = true → decide (48 ≤ c) = true) ∧ (decide ((c : Int) ≤ 57) = false → decide (c ≤ 57) = false) :=
          ⟨fun h => decide_eq_false (by have := of_decide_eq_false h; omega), fun h => decide_eq_true (by have := of_decide_eq_true h; omega), fun h => decide_eq_false (by have := of_decide_eq_false h; omega)⟩
        rcases g with g1 | ⟨g1, g2⟩
        · have g1n := gn.1 g1
          clear gn hnd
          clear h58 h45
          go_enter Tryd.func20, Tryd.ntmps20
          go_wp2_with fail
          go_returns
          exact ⟨G0.out, rfl⟩
        · have g1n := gn.2.1 g1
          have g2n := gn.2.2 g2
          clear gn hnd
          clear h58 h45
          go_enter Tryd.func20, Tryd.ntmps20
          go_wp2_with fail
          go_returns
          exact ⟨G0.out, rfl⟩
      · by_cases h44 : c = 44
        · have hp3 : ((p : Int) != 3) = false := by simp; omega
          have e45 : ((c : Int) == 45) = false := by rw [beq_eq_false_iff_ne]; omega
          have e58 : ((c : Int) == 58) = false := by rw [beq_eq_false_iff_ne]; omega
          have e44 : ((c : Int) == 44) = true := by rw [beq_iff_eq]; omega
          have e37 : ((c : Int) == 37) = false := by rw [beq_eq_false_iff_ne]; omega
          clear k1 k2 k3 k4
          have g : (decide ((c : Int) ≥ 48) = false) ∨ (decide ((c : Int) ≥ 48) = true ∧ decide ((c : Int) ≤ 57) = false) := by
            rcases Nat.lt_or_ge c 48 with h | h
            · exact .inl (decide_eq_false (by omega))
            · exact .inr ⟨decide_eq_true (by omega), decide_eq_false (by omega)⟩
          have gn : (decide ((c : Int) ≥ 48) = false → decide (48 ≤ c) = false) ∧ (decide ((c : Int) ≥ 48) = true → decide (48 ≤ c) = true) ∧ (decide ((c : Int) ≤ 57) = false → decide (c ≤ 57) = false) :=
            ⟨fun h => decide_eq_false (by have := of_decide_eq_false h; omega), fun h => decide_eq_true (by have := of_decide_eq_true h; omega), fun h => decide_eq_false (by have := of_decide_eq_false h; omega)⟩
          rcases g with g1 | ⟨g1, g2⟩
          · have g1n := gn.1 g1
            clear gn hnd
            clear h58 h45 h44
            go_enter Tryd.func20, Tryd.ntmps20
            go_wp2_with fail
            go_returns
            exact ⟨G0.out, rfl⟩
          · have g1n := gn.2.1 g1
            have g2n := gn.2.2 g2
            clear gn hnd
            clear h58 h45 h44
            go_enter Tryd.func20, Tryd.ntmps20
            go_wp2_with fail
            go_returns
            exact ⟨G0.out, rfl⟩
        · by_cases h37 : c = 37
          · have hp3 : ((p : Int) != 3) = false := by simp; omega
            have e45 : ((c : Int) == 45) = false := by rw [beq_eq_false_iff_ne]; omega
            have e58 : ((c : Int) == 58) = false := by rw [beq_eq_false_iff_ne]; omega
            have e44 : ((c : Int) == 44) = false := by rw [beq_eq_false_iff_ne]; omega
            have e37 : ((c : Int) == 37) = true := by rw [beq_iff_eq]; omega
            clear k1 k2 k3 k4
            have g : (decide ((c : Int) ≥ 48) = false) ∨ (decide ((c : Int) ≥ 48) = true ∧ decide ((c : Int) ≤ 57) = false) := by
              rcases Nat.lt_or_ge c 48 with h | h
              · exact .inl (decide_eq_false (by omega))
              · exact .inr ⟨decide_eq_true (by omega), decide_eq_false (by omega)⟩
            have gn : (decide ((c : Int) ≥ 48) = false → decide (48 ≤ c) = false) ∧ (decide ((c : Int) ≥ 48) = true → decide (48 ≤ c) = true) ∧ (decide ((c : Int) ≤ 57) = false → decide (c ≤ 57) = false) :=
              ⟨fun h => decide_eq_false (by have := of_decide_eq_false h; omega), fun h => decide_eq_true (by have := of_decide_eq_true h; omega), fun h => decide_eq_false (by have := of_decide_eq_false h; omega)⟩
            rcases g with g1 | ⟨g1, g2⟩
            · have g1n := gn.1 g1
              clear gn hnd
              clear h58 h45 h44 h37
              go_enter Tryd.func20, Tryd.ntmps20
              go_wp2_with fail
              go_returns
              exact ⟨G0.out, rfl⟩
            · have g1n := gn.2.1 g1
              have g2n := gn.2.2 g2
              clear gn hnd
              clear h58 h45 h44 h37
              go_enter Tryd.func20, Tryd.ntmps20
              go_wp2_with fail
              go_returns
              exact ⟨G0.out, rfl⟩
          · clear k1 k2 k3 k4
            have e45 : ((c : Int) == 45) = false := by rw [beq_eq_false_iff_ne]; omega
            have e58 : ((c : Int) == 58) = false := by rw [beq_eq_false_iff_ne]; omega
            have e44 : ((c : Int) == 44) = false := by rw [beq_eq_false_iff_ne]; omega
            have e37 : ((c : Int) == 37) = false := by rw [beq_eq_false_iff_ne]; omega
            have g : (decide ((c : Int) ≥ 48) = false) ∨ (decide ((c : Int) ≥ 48) = true ∧ decide ((c : Int) ≤ 57) = false) := by
              rcases Nat.lt_or_ge c 48 with h | h
              · exact .inl (decide_eq_false (by omega))
              · exact .inr ⟨decide_eq_true (by omega), decide_eq_false (by omega)⟩
            have gn : (decide ((c : Int) ≥ 48) = false → decide (48 ≤ c) = false) ∧ (decide ((c : Int) ≥ 48) = true → decide (48 ≤ c) = true) ∧ (decide ((c : Int) ≤ 57) = false → decide (c ≤ 57) = false) :=
              ⟨fun h => decide_eq_false (by have := of_decide_eq_false h; omega), fun h => decide_eq_true (by have := of_decide_eq_true h; omega), fun h => decide_eq_false (by have := of_decide_eq_false h; omega)⟩
            rcases g with g1 | ⟨g1, g2⟩
            · have g1n := gn.1 g1
              clear gn hnd
              clear h58 h45 h44 h37
              go_enter Tryd.func20, Tryd.ntmps20
              go_wp2_with fail
              go_returns
              exact ⟨G0.out, rfl⟩
            · have g1n := gn.2.1 g1
              have g2n := gn.2.2 g2
              clear gn hnd
              clear h58 h45 h44 h37
              go_enter Tryd.func20, Tryd.ntmps20
              go_wp2_with fail
              go_returns
              exact ⟨G0.out, rfl⟩
set_option maxRecDepth 100000 in
set_option maxHeartbeats 2000000 in
theorem rstep_45 (b t : Nat) (s : St) (w : World) (hs : StOk s) (ht : t ≤ 8000000000000000000) (h : Rdr w b s) (hd : 0 < s.dg) (hp : s.part = 0) :
    Calls Tryd.prog 20 #[.pointer (some ⟨b, 0, none⟩), .int .i64 t, .int .i32 45] w (StepTo w b (s.step t 45)) := by
  have hp3 := hs.part
  have c1 := h.cell (i := 1) (by omega)
  have c2 := h.cell (i := 2) (by omega)
  rw [f_part] at c1
  rw [f_dg] at c2
  have z : ((s.dg : Int) == 0) = false := by rw [beq_eq_false_iff_ne]; omega
  have e1 : ((t + 1 : Nat) : Int) = (t : Int) + 1 := by omega
  have t0 : ((s.part : Int) == 0) = true := by rw [beq_iff_eq]; omega
  have e2 : s.step t 45 = some (s.number 1) := (step_part (t := t) hd).1 hp
  have e3 : ((s.part + 1 : Nat) : Int) = (s.part : Int) + 1 := by omega
  have N := Lib.hid (rnumber_any b (s.part + 1) s w (by omega) h)
  rw [e3] at N
  have HR : Hid (∀ w', Rdr w' b (s.number (s.part + 1)) → w.grownBy w' (some b) → StepTo w b (s.step t 45) (.returned (.bool true)) w') := fun w' h1 h2 => by
    rw [e2]; rw [hp] at h1; exact ⟨h2, rfl, h1⟩
  generalize s.number (s.part + 1) = s1 at *
  clear e2 e3
  clear h hs hd hp e1
  generalize hq : s.step t 45 = res at *
  clear hq
  generalize s.part = p at *
  generalize s.dg = d at *
  go_enter Tryd.func20, Tryd.ntmps20
  go_wp2_with fail
  refine N.out.mono ?_; rintro e w1 ⟨rfl, r1, g1⟩
  have H := Lib.hid (HR.out w1 r1 g1)
  clear r1 g1 N HR
  go_wp2_with fail
  go_returns
  exact H.out
set_option maxRecDepth 100000 in
set_option maxHeartbeats 2000000 in
theorem rstep_58 (b t : Nat) (s : St) (w : World) (hs : StOk s) (ht : t ≤ 8000000000000000000) (h : Rdr w b s) (hd : 0 < s.dg) (hp : s.part = 1) :
    Calls Tryd.prog 20 #[.pointer (some ⟨b, 0, none⟩), .int .i64 t, .int .i32 58] w (StepTo w b (s.step t 58)) := by
  have hp3 := hs.part
  have c1 := h.cell (i := 1) (by omega)
  have c2 := h.cell (i := 2) (by omega)
  rw [f_part] at c1
  rw [f_dg] at c2
  have z : ((s.dg : Int) == 0) = false := by rw [beq_eq_false_iff_ne]; omega
  have e1 : ((t + 1 : Nat) : Int) = (t : Int) + 1 := by omega
  have t0 : ((s.part : Int) == 1) = true := by rw [beq_iff_eq]; omega
  have e2 : s.step t 58 = some (s.number 2) := (step_part (t := t) hd).2 hp
  have e3 : ((s.part + 1 : Nat) : Int) = (s.part : Int) + 1 := by omega
  have N := Lib.hid (rnumber_any b (s.part + 1) s w (by omega) h)
  rw [e3] at N
  have HR : Hid (∀ w', Rdr w' b (s.number (s.part + 1)) → w.grownBy w' (some b) → StepTo w b (s.step t 58) (.returned (.bool true)) w') := fun w' h1 h2 => by
    rw [e2]; rw [hp] at h1; exact ⟨h2, rfl, h1⟩
  generalize s.number (s.part + 1) = s1 at *
  clear e2 e3
  clear h hs hd hp e1
  generalize hq : s.step t 58 = res at *
  clear hq
  generalize s.part = p at *
  generalize s.dg = d at *
  go_enter Tryd.func20, Tryd.ntmps20
  go_wp2_with fail
  refine N.out.mono ?_; rintro e w1 ⟨rfl, r1, g1⟩
  have H := Lib.hid (HR.out w1 r1 g1)
  clear r1 g1 N HR
  go_wp2_with fail
  go_returns
  exact H.out
set_option maxRecDepth 100000 in
set_option maxHeartbeats 2000000 in
theorem rstep_44 (b t : Nat) (s : St) (w : World) (hs : StOk s) (ht : t ≤ 8000000000000000000) (h : Rdr w b s) (hd : 0 < s.dg) (hp : s.part ≠ 3) :
    Calls Tryd.prog 20 #[.pointer (some ⟨b, 0, none⟩), .int .i64 t, .int .i32 44] w (StepTo w b (s.step t 44)) := by
  have hp3 := hs.part
  have c1 := h.cell (i := 1) (by omega)
  have c2 := h.cell (i := 2) (by omega)
  rw [f_part] at c1
  rw [f_dg] at c2
  have z : ((s.dg : Int) == 0) = false := by rw [beq_eq_false_iff_ne]; omega
  have e1 : ((t + 1 : Nat) : Int) = (t : Int) + 1 := by omega
  have t0 : ((s.part : Int) != 3) = true := by rw [bne_iff_ne]; omega
  have e2 : s.step t 44 = some (s.fin.item (t + 1) 0) := (step_sign (t := t) hd hp).1
  have EN := Lib.hid (rend_any b s w hs h)
  have IT : Hid (∀ w1, Rdr w1 b s.fin → w.grownBy w1 (some b) → Calls Tryd.prog 32 #[.pointer (some ⟨b, 0, none⟩), .int .i64 ((t : Int) + 1), .int .i64 0] w1 fun e w' => e = .returned (.tuple #[]) ∧ StepTo w b (s.step t 44) (.returned (.bool true)) w') := fun w1 h1 h2 => by
    have := ritem_any b (t + 1) 0 s.fin w1 (by omega) h1
    rw [e1] at this
    refine this.mono ?_
    rintro e w' ⟨rfl, h3, h4⟩
    refine ⟨rfl, ?_⟩
    rw [e2]
    exact ⟨gb_trans h2 h4, rfl, h3⟩
  generalize s.fin = s1 at *
  clear e2
  clear h hs hd hp e1
  generalize hq : s.step t 44 = res at *
  clear hq
  generalize s.part = p at *
  generalize s.dg = d at *
  go_enter Tryd.func20, Tryd.ntmps20
  go_wp2_with fail
  refine EN.out.mono ?_; rintro e w1 ⟨rfl, r1, g1⟩
  have I := Lib.hid (IT.out w1 r1 g1)
  clear r1 g1 EN IT
  go_wp2_with fail
  refine I.out.mono ?_; rintro e w2 ⟨rfl, h2⟩
  have H := Lib.hid h2
  clear h2 I
  go_wp2_with fail
  go_returns
  exact H.out
set_option maxRecDepth 100000 in
set_option maxHeartbeats 2000000 in
theorem rstep_37 (b t : Nat) (s : St) (w : World) (hs : StOk s) (ht : t ≤ 8000000000000000000) (h : Rdr w b s) (hd : 0 < s.dg) (hp : s.part ≠ 3) :
    Calls Tryd.prog 20 #[.pointer (some ⟨b, 0, none⟩), .int .i64 t, .int .i32 37] w (StepTo w b (s.step t 37)) := by
  have hp3 := hs.part
  have c1 := h.cell (i := 1) (by omega)
  have c2 := h.cell (i := 2) (by omega)
  rw [f_part] at c1
  rw [f_dg] at c2
  have z : ((s.dg : Int) == 0) = false := by rw [beq_eq_false_iff_ne]; omega
  have e1 : ((t + 1 : Nat) : Int) = (t : Int) + 1 := by omega
  have t0 : ((s.part : Int) != 3) = true := by rw [bne_iff_ne]; omega
  have e2 : s.step t 37 = some (s.fin.item t 3) := (step_sign (t := t) hd hp).2
  have EN := Lib.hid (rend_any b s w hs h)
  have IT : Hid (∀ w1, Rdr w1 b s.fin → w.grownBy w1 (some b) → Calls Tryd.prog 32 #[.pointer (some ⟨b, 0, none⟩), .int .i64 (t : Int), .int .i64 3] w1 fun e w' => e = .returned (.tuple #[]) ∧ StepTo w b (s.step t 37) (.returned (.bool true)) w') := fun w1 h1 h2 => by
    have := ritem_any b t 3 s.fin w1 (by omega) h1
    skip
    refine this.mono ?_
    rintro e w' ⟨rfl, h3, h4⟩
    refine ⟨rfl, ?_⟩
    rw [e2]
    exact ⟨gb_trans h2 h4, rfl, h3⟩
  generalize s.fin = s1 at *
  clear e2
  clear h hs hd hp e1
  generalize hq : s.step t 37 = res at *
  clear hq
  generalize s.part = p at *
  generalize s.dg = d at *
  go_enter Tryd.func20, Tryd.ntmps20
  go_wp2_with fail
  refine EN.out.mono ?_; rintro e w1 ⟨rfl, r1, g1⟩
  have I := Lib.hid (IT.out w1 r1 g1)
  clear r1 g1 EN IT
  go_wp2_with fail
  refine I.out.mono ?_; rintro e w2 ⟨rfl, h2⟩
  have H := Lib.hid h2
  clear h2 I
  go_wp2_with fail
  go_returns
  exact H.out
theorem rstep_any (b t c : Nat) (s : St) (w : World) (hs : StOk s) (hcm : c ≤ 2147483647) (ht : t ≤ 8000000000000000000) (h : Rdr w b s) :
    Calls Tryd.prog 20 #[.pointer (some ⟨b, 0, none⟩), .int .i64 t, .int .i32 c] w (StepTo w b (s.step t c)) := by
  by_cases hd : 48 ≤ c ∧ c ≤ 57
  · exact rstep_dig b t c s w hs h hd
  · cases hr : s.step t c with
    | none => rw [← hr]; exact rstep_no b t c s w hs hcm h hd hr
    | some s' =>
      rw [← hr]
      unfold St.step at hr
      rw [if_neg hd] at hr
      by_cases h0 : s.dg = 0
      · rw [if_pos h0] at hr; cases hr
      rw [if_neg h0] at hr
      by_cases h1 : c = 45 ∧ s.part = 0
      · rw [h1.1]; exact rstep_45 b t s w hs ht h (by omega) h1.2
      rw [if_neg h1] at hr
      by_cases h2 : c = 58 ∧ s.part = 1
      · rw [h2.1]; exact rstep_58 b t s w hs ht h (by omega) h2.2
      rw [if_neg h2] at hr
      by_cases h3 : c = 44 ∧ s.part ≠ 3
      · rw [h3.1]; exact rstep_44 b t s w hs ht h (by omega) h3.2
      rw [if_neg h3] at hr
      by_cases h4 : c = 37 ∧ s.part ≠ 3
      · rw [h4.1]; exact rstep_37 b t s w hs ht h (by omega) h4.2
      rw [if_neg h4] at hr
      cases hr
/-- What step leaves may be. -/
theorem step_ok {s s' : St} {t c : Nat} (hs : StOk s) (ht : t ≤ 8000000000000000000) (h : s.step t c = some s') : StOk s' := by
  have hfin : StOk { s.fin with part := 0, dg := 0, num := upd s.fin.num 0 0 } ∧ (∀ q, s.fin.num q ≤ 9999) ∧ (∀ p, s.fin.fault = some p → p ≤ 9000000000000000000) := by
    have hn : ∀ q, s.fin.num q ≤ 9999 := fun q => by
      unfold St.fin; split
      · exact fill_le hs.num q
      · split
        · exact fill_le hs.num q
        · exact fill_le hs.num q
    have hf : ∀ p, s.fin.fault = some p → p ≤ 9000000000000000000 := fun p hp => by
      unfold St.fin at hp
      split at hp
      · injection hp with e
        cases hq : s.fault with
        | none => rw [hq] at e; rw [← e]; exact hs.bg
        | some p' => rw [hq] at e; rw [← e]; exact hs.fault p' hq
      · split at hp
        · exact hs.fault p hp
        · exact hs.fault p hp
    have hb : s.fin.bg ≤ 9000000000000000000 := by
      unfold St.fin; split
      · exact hs.bg
      · split <;> exact hs.bg
    refine ⟨⟨Nat.zero_le _, Nat.zero_le _, by show upd s.fin.num 0 0 0 < 1; rw [upd_at]; omega, fun q => ?_, hb, hf⟩, hn, hf⟩
    show upd s.fin.num 0 0 q ≤ 9999
    unfold upd; split
    · omega
    · exact hn q
  have hnum : ∀ p, p ≤ 3 → StOk (s.number p) := fun p hp => ⟨hp, Nat.zero_le _, by show upd s.num p 0 p < 1; rw [upd_at]; omega, fun q => by
    show upd s.num p 0 q ≤ 9999
    unfold upd; split
    · omega
    · exact hs.num q, hs.bg, hs.fault⟩
  have hitem : ∀ t p, p ≤ 3 → t ≤ 9000000000000000000 → StOk (s.fin.item t p) := fun t p hp ht => ⟨hp, Nat.zero_le _, by show upd s.fin.num p 0 p < 1; rw [upd_at]; omega, fun q => by
    show upd s.fin.num p 0 q ≤ 9999
    unfold upd; split
    · omega
    · exact hfin.2.1 q, ht, hfin.2.2⟩
  unfold St.step at h
  split at h
  · rename_i hd
    unfold St.digit at h
    split at h
    · cases h
    · rename_i hn
      injection h with e
      subst e
      have hk := hs.dg
      have hc := hs.cur
      have h4 : s.dg < 4 := by omega
      have hlt : s.num s.part * 10 + (c - 48) < 10 ^ (s.dg + 1) := by rw [Nat.pow_succ]; omega
      refine ⟨hs.part, by show s.dg + 1 ≤ 4; omega, ?_, fun q => ?_, hs.bg, hs.fault⟩
      · show upd s.num s.part (s.num s.part * 10 + (c - 48)) s.part < 10 ^ (s.dg + 1)
        rw [upd_at]; exact hlt
      · show upd s.num s.part (s.num s.part * 10 + (c - 48)) q ≤ 9999
        unfold upd; split
        · have : 10 ^ (s.dg + 1) ≤ 10 ^ 4 := Nat.pow_le_pow_right (by omega) (by omega)
          omega
        · exact hs.num q
  · split at h
    · cases h
    · split at h
      · injection h with e; rw [← e]; exact hnum 1 (by omega)
      · split at h
        · injection h with e; rw [← e]; exact hnum 2 (by omega)
        · split at h
          · injection h with e; rw [← e]; exact hitem (t + 1) 0 (by omega) (by omega)
          · split at h
            · injection h with e; rw [← e]; exact hitem t 3 (by omega) (by omega)
            · cases h
end Go.Proofs.YtdhkinknhjpjmaaDoor
