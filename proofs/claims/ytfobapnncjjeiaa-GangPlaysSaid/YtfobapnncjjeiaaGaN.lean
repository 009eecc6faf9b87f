/-
  Matrix.Remove and Matrix.Place.
-/
import Derived.Test.YtfobapnncjjeiaaGaG
import Derived.Test.YtfobapnncjjeiaaGaK
namespace Go.Proofs.Ytfobapnncjjeiaa
open Go Go.RowKit Go.Lib
set_option linter.unusedVariables false

def remA (l : List Ce) (a : Nat) : Nat := if rowsG l ≤ a then 0 else a
theorem remA_act (l : List Ce) (a : Nat) : remA l a < rowsG l ∨ remA l a = 0 := by
  unfold remA; split
  · exact .inr rfl
  · exact .inl (by omega)
/-- What Remove answers, and what is left. -/
inductive RemR (l : List Ce) (a id : Nat) : Int → Nat → List Ce → Prop
  | no (h : IsFind l id none) : RemR l a id 4 a l
  | yes (k : Nat) (h : IsFind l id (some k)) : RemR l a id 0 (remA (l.eraseIdx k) a) (l.eraseIdx k)
theorem dec_le2 (R a : Nat) : decide ((R : Int) ≤ (a : Int)) = decide (R ≤ a) := by
  by_cases h : R ≤ a
  · rw [decide_eq_true h, decide_eq_true (by omega)]
  · rw [decide_eq_false h, decide_eq_false (by omega)]
set_option maxRecDepth 100000 in
set_option maxHeartbeats 4000000 in
theorem gremove_any (m n a id : Nat) (own : Nat → Prop) (l : List Ce) (w : World) (h : GM w m own n a l) :
    Calls Try.prog 30 #[.pointer (some ⟨m, 0, none⟩), .int .u32 (id : Nat)] w fun e w' => ∃ er a' l', e = .returned (.int .i64 er) ∧ RemR l a id er a' l' ∧ GM w' m own n a' l' ∧ Chg own w w' := by
  have FD := Lib.hid (find_any m n a id own l w h)
  have HG := Lib.hid h
  clear h
  go_enter Try.func30, Try.ntmps30
  go_wp2_with fail
  refine FD.out.mono ?_; rintro e w1 ⟨⟨r, rfl, hf⟩, b1⟩
  have HG1 := Lib.hid (HG.out.kept b1)
  have HB1 := Lib.hid b1
  clear b1 FD
  cases r with
  | none =>
    have HF := Lib.hid hf
    clear hf
    rw [show optF none = -1 from rfl]
    go_wp2_with fail
    go_ret
    exact ⟨4, a, l, rfl, .no HF.out, HG1.out, Chg.of_below HB1.out⟩
  | some k =>
    obtain ⟨hk, HF⟩ : ∃ _ : k < l.length, Hid (IsFind l id (some k)) := by
      rcases hf with ⟨h, _⟩ | ⟨k', hk', h, h2⟩
      · cases h
      · injection h with h; subst h; exact ⟨hk', .inr ⟨_, hk', rfl, h2⟩⟩
    rw [show optF (some k) = (k : Int) from rfl]
    have d0 : decide ((k : Int) < 0) = false := decide_eq_false (by omega)
    have DR := Lib.hid (gdrop_any m n a k own l w1 HG1.out.gn hk)
    clear hf hk
    go_wp2_with fail
    refine DR.out.mono ?_; rintro e w2 ⟨rfl, hg2, c2⟩
    have HG2 := Lib.hid hg2
    have HC2 := Lib.hid ((Chg.of_below HB1.out).trans c2)
    have ha := HG.out.a16
    have RW : Hid (∀ w3, Below w2.heap.size w2 w3 → Calls Try.prog 17 #[.pointer (some ⟨m, 0, none⟩)] w3 fun e w' => e = .returned (.int .i64 (rowsG (l.eraseIdx k) : Nat)) ∧ Below w3.heap.size w3 w') := fun w3 hb => rows_any m n a own _ w3 (HG2.out.kept hb)
    have hr16 := rowsG_16 HG2.out.ok
    obtain ⟨v, W, hI, hW, hO⟩ := hg2
    have c1 := hI.gb.c1
    obtain ⟨R, hR⟩ : ∃ R, R = rowsG (l.eraseIdx k) := ⟨_, rfl⟩
    rw [← hR] at RW hr16
    have HR := Lib.hid hR
    have HI := Lib.hid hI
    have HW := Lib.hid hW
    have HO := Lib.hid hO
    clear hI hW hO hR c2 DR d0
    go_wp2_with fail
    go_cut [22] (fun pv wx => pv = .bool (decide (R ≤ a)) ∧ Hid (Below w2.heap.size w2 wx))
    case first =>
      go_region_held3 (fun w' => w'.cell? ⟨m, 1, none⟩ = some (.int .i64 (a : Nat)) ∧ Below w2.heap.size w2 w')
        (first
          | exact ⟨c1, (Below.refl _ _).drew⟩
          | (rcases ‹_ ∧ Below _ _ _› with ⟨g0, g1⟩; exact ⟨cell_next (by assumption) g0, below_next (by assumption) g1⟩))
        (first
          | (go_at_call 17; ((with_reducible refine (RW.out _ (‹_ ∧ Below w2.heap.size w2 _›).2).mono ?_); rintro e w5 ⟨rfl, b2⟩)))
      all_goals (go_wp2_with fail)
      all_goals go_meet
      all_goals (exact ⟨by first | rfl | rw [dec_le2], (‹_ ∧ Below w2.heap.size w2 _›).2⟩)
    case rest =>
      obtain ⟨rfl, HB⟩ := hcut
      have HIc := Lib.hid (HI.out.kept HB.out)
      have HCc := Lib.hid (HC2.out.trans (Chg.of_below HB.out))
      by_cases hra : R ≤ a
      · have HT : Hid (remA (l.eraseIdx k) a = 0) := by unfold Hid remA; rw [← HR.out, if_pos hra]
        have d1 : decide (R ≤ a) = true := decide_eq_true hra
        rw [d1]
        have c1' := HIc.out.gb.c1
        have f1' := HIc.out.gb.frozen 1
        clear c1 RW
        go_wp2_with fail
        go_ret
        refine ⟨0, _, _, rfl, .yes k HF.out, ?_, HCc.out.trans (Chg.setCell _ _ HIc.out.bown)⟩
        rw [HT.out]
        exact ⟨v, W, HIc.out.box (Chg.setCell _ _ rfl) (HIc.out.gb.setA 0), HW.out, HO.out, .inr rfl⟩
      · have HT : Hid (remA (l.eraseIdx k) a = a) := by unfold Hid remA; rw [← HR.out, if_neg hra]
        have d1 : decide (R ≤ a) = false := decide_eq_false hra
        rw [d1]
        have HA : Hid (a < rowsG (l.eraseIdx k) ∨ a = 0) := .inl (by rw [← HR.out]; omega)
        clear c1 RW
        go_wp2_with fail
        go_ret
        refine ⟨0, _, _, rfl, .yes k HF.out, ?_, HCc.out⟩
        rw [HT.out]
        exact ⟨v, W, HIc.out, HW.out, HO.out, HA.out⟩
/-- What Place answers, and what is there then. -/
inductive PlaceR (n : Nat) (l : List Ce) (id : Nat) (O : Int) : Ce → Int → List Ce → Prop
  | arg (h : id = 0 ∨ O < 0 ∨ (n : Int) < O) : PlaceR n l id O (0, 0, 0, 0) 2 l
  | twice (h : ¬ (id = 0 ∨ O < 0 ∨ (n : Int) < O)) (c : Ce) (hc : c ∈ l) (h2 : c.1 = id) : PlaceR n l id O (0, 0, 0, 0) 30 l
  | full (o : Nat) (h0 : O = (o : Int)) (h1 : id ≠ 0) (h2 : o ≤ n) (h3 : ∀ c ∈ l, c.1 ≠ id) (h : IsPlace n l id o none) : PlaceR n l id O (0, 0, 0, 0) 5 l
  | ok (o : Nat) (h0 : O = (o : Int)) (h1 : id ≠ 0) (h2 : o ≤ n) (h3 : ∀ c ∈ l, c.1 ≠ id) (c : Ce) (h : IsPlace n l id o (some c)) : PlaceR n l id O c 0 (insG l c)
theorem rowsG_ins {l : List Ce} (hs : l.Pairwise Bef) (c : Ce) (hs' : (insG l c).Pairwise Bef) : rowsG l ≤ rowsG (insG l c) := by
  rcases Nat.eq_zero_or_pos (rowsG l) with h | h
  · omega
  · obtain ⟨d, hd, e⟩ := rowsG_some h
    have := rowsG_lt hs' (mem_insG.2 (.inr hd))
    omega
def PlacePost (m n a id : Nat) (O : Int) (own : Nat → Prop) (l : List Ce) (w : World) (e : Ending) (w' : World) : Prop :=
  ∃ c er l', e = .returned (.tuple #[ceA c, .int .i64 er]) ∧ PlaceR n l id O c er l' ∧ GM w' m own n a l' ∧ Chg own w w'
end Go.Proofs.Ytfobapnncjjeiaa
