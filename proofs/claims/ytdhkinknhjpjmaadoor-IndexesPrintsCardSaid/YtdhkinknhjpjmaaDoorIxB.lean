/-
  The reader's calls item, digit, isFault, end.
-/
import Derived.Test.YtdhkinknhjpjmaaDoorIxA
namespace Go.Proofs.YtdhkinknhjpjmaaDoor
open Go Go.RowKit Go.Lib
set_option linter.unusedVariables false

theorem ritem_any (b t p : Nat) (s : St) (w : World) (hp : p < 4) (h : Rdr w b s) :
    Calls Tryd.prog 32 #[.pointer (some ⟨b, 0, none⟩), .int .i64 t, .int .i64 p] w fun e w' => e = .returned (.tuple #[]) ∧ Rdr w' b (s.item t p) ∧ w.grownBy w' (some b) := by
  have c0 := h.cell (i := 0) (by omega)
  have f0 := h.frozen 0
  have N := Lib.hid (rnumber_any b p { s with bg := t } _ hp (h.bg t))
  have G := Lib.hid (gb_set w b 0 (.int .i64 t))
  generalize fieldV s 0 = x0 at c0
  clear h
  go_enter Tryd.func32, Tryd.ntmps32
  go_wp2_with fail
  refine N.out.mono ?_; rintro e w1 ⟨rfl, r1, g1⟩
  have R1 := Lib.hid r1
  have G1 := Lib.hid (gb_trans G.out g1)
  clear r1 g1 G N
  go_wp2_with fail
  go_returns
  exact ⟨rfl, R1.out, G1.out⟩

set_option maxRecDepth 100000 in
set_option maxHeartbeats 1000000 in
theorem rdigit_no (b d : Nat) (s : St) (w : World) (hs : StOk s) (hd : d < 10) (h : Rdr w b s) (hn : (0 < s.dg ∧ s.num s.part = 0) ∨ s.dg = 4) :
    Calls Tryd.prog 30 #[.pointer (some ⟨b, 0, none⟩), .int .i64 d] w fun e w' => e = .returned (.bool false) ∧ w.grownBy w' (some b) := by
  have hp := hs.part
  have c1 := h.cell (i := 1) (by omega)
  have c2 := h.cell (i := 2) (by omega)
  have c3 := h.cell (i := 3 + s.part) (by omega)
  have hpi : (s.part : Int) < 4 := by omega
  rw [f_part] at c1
  rw [f_dg] at c2
  rw [f_num s (by omega)] at c3
  clear h hs
  generalize s.num s.part = n at *
  generalize s.part = p at *
  generalize s.dg = k at *
  have G : Hid (w.grownBy w.drew (some b)) := gb_drew w _
  by_cases h1 : 0 < k ∧ n = 0
  · have t1 : decide ((k : Int) > 0) = true := decide_eq_true (by omega)
    have t1' : decide (0 < k) = true := decide_eq_true (by omega)
    have t2 : ((n : Int) == 0) = true := by rw [beq_iff_eq]; omega
    clear hn h1
    go_enter Tryd.func30, Tryd.ntmps30
    go_wp2_with fail
    go_region
    go_wp2_with fail
    go_returns
    exact ⟨rfl, G.out⟩
  · have hk : k = 4 := by omega
    have t1 : decide ((k : Int) > 0) = true := decide_eq_true (by omega)
    have t1' : decide (0 < k) = true := decide_eq_true (by omega)
    have t2 : ((n : Int) == 0) = false := by rw [beq_eq_false_iff_ne]; omega
    have t3 : ((k : Int) == 4) = true := by rw [beq_iff_eq]; omega
    clear hn h1 hk
    go_enter Tryd.func30, Tryd.ntmps30
    go_wp2_with fail
    go_region
    go_wp2_with fail
    go_returns
    exact ⟨rfl, G.out⟩
set_option maxRecDepth 100000 in
set_option maxHeartbeats 1000000 in
theorem rdigit_yes (b d : Nat) (s : St) (w : World) (hs : StOk s) (hd : d < 10) (h : Rdr w b s) (hn : ¬ ((0 < s.dg ∧ s.num s.part = 0) ∨ s.dg = 4)) :
    Calls Tryd.prog 30 #[.pointer (some ⟨b, 0, none⟩), .int .i64 d] w
      fun e w' => e = .returned (.bool true) ∧ Rdr w' b { s with num := upd s.num s.part (s.num s.part * 10 + d), dg := s.dg + 1 } ∧ w.grownBy w' (some b) := by
  have hp := hs.part
  have h9 := hs.num s.part
  have hk4 := hs.dg
  have c1 := h.cell (i := 1) (by omega)
  have c2 := h.cell (i := 2) (by omega)
  have c3 := h.cell (i := 3 + s.part) (by omega)
  have f2 := h.frozen 2
  have f3 := h.frozen (3 + s.part)
  have hpi : (s.part : Int) < 4 := by omega
  rw [f_part] at c1
  rw [f_dg] at c2
  rw [f_num s (by omega)] at c3
  have hd0 : Rdr w.drew b s := h.drew
  have H := Lib.hid ((hd0.num (p := s.part) (by omega) (s.num s.part * 10 + d)).dg (s.dg + 1))
  have G := Lib.hid (gb_trans (gb_trans (gb_drew w (some b)) (gb_set w.drew b (3 + s.part) (.int .i64 ((s.num s.part * 10 + d : Nat) : Int)))) (gb_set _ b 2 (.int .i64 ((s.dg + 1 : Nat) : Int))))
  clear h hs hd0
  generalize hst : ({ s with num := upd s.num s.part (s.num s.part * 10 + d), dg := s.dg + 1 } : St) = s' at *
  clear hst
  generalize s.num s.part = n at *
  generalize s.part = p at *
  generalize s.dg = k at *
  have t3 : ((k : Int) == 4) = false := by rw [beq_eq_false_iff_ne]; omega
  have e1 : ((n * 10 + d : Nat) : Int) = (n : Int) * 10 + d := by omega
  have e2 : ((k + 1 : Nat) : Int) = (k : Int) + 1 := by omega
  rw [e1, e2] at H G
  clear e1 e2
  by_cases h1 : 0 < k
  · have t1 : decide ((k : Int) > 0) = true := decide_eq_true (by omega)
    have t1' : decide (0 < k) = true := decide_eq_true (by omega)
    have t2 : ((n : Int) == 0) = false := by rw [beq_eq_false_iff_ne]; omega
    clear hn h1
    go_enter Tryd.func30, Tryd.ntmps30
    go_wp2_with fail
    go_region
    go_wp2_with fail
    go_returns
    exact ⟨rfl, H.out, G.out⟩
  · have t1 : decide ((k : Int) > 0) = false := decide_eq_false (by omega)
    have t1' : decide (0 < k) = false := decide_eq_false (by omega)
    clear hn h1
    go_enter Tryd.func30, Tryd.ntmps30
    go_wp2_with fail
    go_region
    go_wp2_with fail
    go_returns
    exact ⟨rfl, H.out, G.out⟩
set_option maxRecDepth 100000 in
set_option maxHeartbeats 1000000 in
theorem rfault_any (b : Nat) (s : St) (w : World) (hp : s.part ≤ 3) (h9 : ∀ q, s.num q ≤ 9999) (h : Rdr w b s) :
    Calls Tryd.prog 33 #[.pointer (some ⟨b, 0, none⟩)] w fun e w' => e = .returned (.bool (isFault s.part s.num)) ∧ w.grownBy w' (some b) ∧ Rdr w' b s := by
  have c1 := h.cell (i := 1) (by omega)
  have c3 := h.cell (i := 3) (by omega)
  have c4 := h.cell (i := 4) (by omega)
  have c5 := h.cell (i := 5) (by omega)
  have c6 := h.cell (i := 6) (by omega)
  rw [f_part] at c1
  rw [show fieldV s 3 = .int .i64 (s.num 0) from f_num s (q := 0) (by omega)] at c3
  rw [show fieldV s 4 = .int .i64 (s.num 1) from f_num s (q := 1) (by omega)] at c4
  rw [show fieldV s 5 = .int .i64 (s.num 2) from f_num s (q := 2) (by omega)] at c5
  rw [show fieldV s 6 = .int .i64 (s.num 3) from f_num s (q := 3) (by omega)] at c6
  have h0 := h9 0; have h1 := h9 1; have h2 := h9 2; have h3 := h9 3
  have R0 := Lib.hid h
  have R1 : Hid (Rdr w.drew b s) := h.drew
  have G0 : Hid (w.grownBy w (some b)) := World.grownBy.refl w _
  have G1 : Hid (w.grownBy w.drew (some b)) := gb_drew w _
  have key : ∀ r, isFault s.part s.num = r → (if s.part = 3 then badMost (s.num 3) else badItem (s.num 0) (s.num 1) (s.num 2)) = r := fun r h => h
  clear h h9
  unfold isFault
  clear key
  generalize s.num 0 = x at *
  generalize s.num 1 = y at *
  generalize s.num 2 = z at *
  generalize s.num 3 = m at *
  generalize s.part = p at *
  by_cases hp3 : p = 3
  · have t0 : ((p : Int) == 3) = true := by rw [beq_iff_eq]; omega
    rw [if_pos hp3]
    clear hp3
    by_cases hm0 : m = 0
    · have t1 : ((m : Int) == 0) = true := by rw [beq_iff_eq]; omega
      have e : badMost m = true := by unfold badMost; rw [decide_eq_true_eq]; omega
      rw [e]
      clear hm0 e
      go_enter Tryd.func33, Tryd.ntmps33
      go_wp2_with fail
      go_returns
      exact ⟨rfl, G0.out, R0.out⟩
    · have t1 : ((m : Int) == 0) = false := by rw [beq_eq_false_iff_ne]; omega
      have e : badMost m = decide ((m : Int) > 1000) := by unfold badMost; exact decide_eq_decide.2 ⟨fun h => by omega, fun h => by omega⟩
      rw [e]
      generalize hq : decide ((m : Int) > 1000) = q
      have hq' : decide ((1000 : Int) < m) = q := hq
      have hqn : decide (1000 < m) = q := by rw [← hq]; exact decide_eq_decide.2 ⟨fun h => by omega, fun h => by omega⟩
      clear hm0 e
      go_enter Tryd.func33, Tryd.ntmps33
      go_wp2_with fail
      go_returns
      exact ⟨rfl, G0.out, R0.out⟩
  · have t0 : ((p : Int) == 3) = false := by rw [beq_eq_false_iff_ne]; omega
    rw [if_neg hp3]
    clear hp3
    have key : ∀ (q1 q2 q3 q4 q5 : Bool), decide ((x : Int) > 1000) = q1 → decide ((y : Int) > 1000) = q2 → decide ((z : Int) > 1000) = q3 → decide ((y : Int) < x) = q4 → ((z : Int) == 0) = q5 →
        Calls Tryd.prog 33 #[.pointer (some ⟨b, 0, none⟩)] w fun e w' => e = .returned (.bool (q1 || (q2 || (q3 || (q4 || q5))))) ∧ w.grownBy w' (some b) ∧ Rdr w' b s := by
      intro q1 q2 q3 q4 q5 t1 t2 t3 t4 t5
      have t1' : decide ((1000 : Int) < x) = q1 := t1
      have t2' : decide ((1000 : Int) < y) = q2 := t2
      have t3' : decide ((1000 : Int) < z) = q3 := t3
      have t1n : decide (1000 < x) = q1 := by rw [← t1]; exact decide_eq_decide.2 ⟨fun h => by omega, fun h => by omega⟩
      have t2n : decide (1000 < y) = q2 := by rw [← t2]; exact decide_eq_decide.2 ⟨fun h => by omega, fun h => by omega⟩
      have t3n : decide (1000 < z) = q3 := by rw [← t3]; exact decide_eq_decide.2 ⟨fun h => by omega, fun h => by omega⟩
      have t4n : decide (y < x) = q4 := by rw [← t4]; exact decide_eq_decide.2 ⟨fun h => by omega, fun h => by omega⟩
      clear h0 h1 h2 h3
      cases q1 with
      | true =>
        go_enter Tryd.func33, Tryd.ntmps33
        go_wp2_with fail
        go_region
        go_wp2_with fail
        go_returns
        exact ⟨rfl, G1.out, R1.out⟩
      | false =>
        cases q2 with
        | true =>
          go_enter Tryd.func33, Tryd.ntmps33
          go_wp2_with fail
          go_region
          go_wp2_with fail
          go_returns
          exact ⟨rfl, G1.out, R1.out⟩
        | false =>
          cases q3 with
          | true =>
            go_enter Tryd.func33, Tryd.ntmps33
            go_wp2_with fail
            go_region
            go_wp2_with fail
            go_returns
            exact ⟨rfl, G1.out, R1.out⟩
          | false =>
            cases q4 with
            | true =>
              go_enter Tryd.func33, Tryd.ntmps33
              go_wp2_with fail
              go_region
              go_wp2_with fail
              go_returns
              exact ⟨rfl, G1.out, R1.out⟩
            | false =>
              go_enter Tryd.func33, Tryd.ntmps33
              go_wp2_with fail
              go_region
              go_wp2_with fail
              go_returns
              exact ⟨rfl, G1.out, R1.out⟩
    have e : badItem x y z = (decide ((x : Int) > 1000) || (decide ((y : Int) > 1000) || (decide ((z : Int) > 1000) || (decide ((y : Int) < x) || ((z : Int) == 0))))) := by
      unfold badItem
      rw [Bool.eq_iff_iff]
      simp only [Bool.or_eq_true, decide_eq_true_eq, beq_iff_eq]
      omega
    rw [e]
    exact key _ _ _ _ _ rfl rfl rfl rfl rfl
end Go.Proofs.YtdhkinknhjpjmaaDoor
