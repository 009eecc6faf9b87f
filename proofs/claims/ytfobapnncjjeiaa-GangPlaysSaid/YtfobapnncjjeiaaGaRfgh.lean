/-
  The document's matrix (gangerref16), in the memory: find, Rows, free, lay.
  The document's matrix: a cell is laid at its place.
  The document's matrix: New, Turn, Idle, Remove.
-/
import Derived.Test.YtfobapnncjjeiaaGaLw
import Derived.Test.YtfobapnncjjeiaaGaRs
import Derived.Test.YtfobapnncjjeiaaGaTn
import Derived.Test.YtfobapnncjjeiaaOnABC
namespace Go.Proofs.Ytfobapnncjjeiaa
set_option linter.unusedVariables false

section
open Go Go.RowKit Go.Lib
/-- The document's matrix: its box of three cells, and its row of cells. -/
structure RMt (w : World) (rb n a : Nat) (lv : Value) (l : List Ce) : Prop where
  blk : Blk w rb #[.int .i64 (n : Int), lv, .int .i64 (a : Int)] 41
  row : COwn w 0 lv l
  ne : lv.ownBlock ≠ some rb
section
variable {w w' : World} {rb n a : Nat} {lv : Value} {l : List Ce}
theorem RMt.kept (h : RMt w rb n a lv l) (hb : Below w.heap.size w w') : RMt w' rb n a lv l := ⟨h.blk.kept hb, own_older h.row hb, h.ne⟩
theorem RMt.chg {own : Nat → Prop} (h : RMt w rb n a lv l) (hc : Chg own w w') (h1 : ¬ own rb) (h2 : ∀ g, lv.ownBlock = some g → ¬ own g) : RMt w' rb n a lv l :=
  ⟨Blk.chgC h.blk hc h1, own_chg h.row hc h2, h.ne⟩
theorem RMt.c0 (h : RMt w rb n a lv l) : w.cell? ⟨rb, 0, none⟩ = some (.int .i64 (n : Int)) := by have := h.blk.cell 0; simpa using this
theorem RMt.c1 (h : RMt w rb n a lv l) : w.cell? ⟨rb, 1, none⟩ = some lv := by have := h.blk.cell 1; simpa using this
theorem RMt.c2 (h : RMt w rb n a lv l) : w.cell? ⟨rb, 2, none⟩ = some (.int .i64 (a : Int)) := by have := h.blk.cell 2; simpa using this
theorem RMt.cr (h : RMt w rb n a lv l) : CRow w lv l := crow_of_own h.row
end
set_option maxRecDepth 100000 in
set_option maxHeartbeats 2000000 in
theorem rfind_any (rb n a id : Nat) (lv : Value) (l : List Ce) (w : World) (h : RMt w rb n a lv l) (hl : l.length ≤ 16384) :
    Calls Try.prog 45 #[.pointer (some ⟨rb, 0, none⟩), .int .u32 (id : Nat)] w fun e w' => (∃ r, e = .returned (.int .i64 (optF r)) ∧ IsFind l id r) ∧ w' = w := by
  have HM := Lib.hid h
  have c1 := h.c1
  obtain ⟨va, vc, rfl⟩ := own_slice h.row
  have HR := Lib.hid h.cr
  obtain ⟨N, hN⟩ : ∃ N, N = l.length := ⟨_, rfl⟩
  have HN := Lib.hid hN
  rw [← hN] at c1 hl
  clear h hN HM
  go_enter Try.func45, Try.ntmps45
  go_wp2_with fail
  go_loopw [5] (fun iv wr => ∃ k : Nat, k ≤ N ∧ iv = .int .i64 (k : Nat) ∧ Hid (∀ j (h : j < l.length), j < k → l[j].1 ≠ id) ∧ wr = w) (fun iv _ => N - (RowKit.intOf iv).toNat)
  case atStart => exact ⟨0, Nat.zero_le _, rfl, fun j _ h => absurd h (Nat.not_lt_zero _), rfl⟩
  case round =>
    obtain ⟨k, hk, rfl, HF, hW⟩ := hrel
    replace hW := hW.symm
    subst hW
    by_cases hlt : k < N
    · have d1 : decide ((k : Int) < (N : Int)) = true := decide_eq_true (by omega)
      have d1' : decide (k < N) = true := decide_eq_true hlt
      have hkN : (k : Int) < (N : Int) := by omega
      have hky : k < l.length := by rw [← HN.out]; exact hlt
      cases va with
      | none => have := crow_none HR.out; rw [this] at hky; simp at hky
      | some A =>
      obtain ⟨bb, off, rfl⟩ := crow_some HR.out (by omega)
      have e0 := (HR.out.cells hky (Below.refl _ _)).1
      obtain ⟨x, hx⟩ : ∃ x, x = l[k].1 := ⟨_, rfl⟩
      rw [← hx] at e0
      by_cases he : x = id
      · have e1 : ((x : Int) == (id : Int)) = true := by simp; omega
        have e1' : (x == id) = true := by simp; omega
        have HT : Hid (IsFind l id (some k)) := .inr ⟨k, hky, rfl, by rw [← hx]; exact he, HF.out⟩
        clear hx hky
        have HE := Lib.hid he
        clear he
        go_wp2_with fail
        go_ret
        exact ⟨⟨some k, rfl, HT.out⟩, rfl⟩
      · have e1 : ((x : Int) == (id : Int)) = false := by simp; omega
        have e1' : (x == id) = false := by simp; omega
        have HF2 : Hid (∀ j (h : j < l.length), j < k + 1 → l[j].1 ≠ id) := fun j h hj => by
          rcases Nat.lt_or_ge j k with h2 | h2
          · exact HF.out j h h2
          · obtain rfl : j = k := by omega
            rw [← hx]; exact he
        clear hx hky he
        go_wp2_with fail
        go_roundw
        case rel => exact ⟨k + 1, hlt, by go_num, HF2, trivial⟩
        case measure => simp [RowKit.intOf]; omega
    · have d1 : decide ((k : Int) < (N : Int)) = false := decide_eq_false (by omega)
      have d1' : decide (k < N) = false := decide_eq_false hlt
      have HT : Hid (IsFind l id none) := .inl ⟨rfl, fun c hc e => by
        obtain ⟨j, hj, rfl⟩ := List.getElem_of_mem hc
        exact HF.out j hj (by have := HN.out; omega) e⟩
      go_wp2_with fail
      go_ret
      exact ⟨⟨none, rfl, HT.out⟩, rfl⟩
theorem rows_take {l : List Ce} (h : l.Pairwise Bef) {k : Nat} (hk : k < l.length) : rowsG (l.take (k + 1)) = l[k].2.1 + 1 ∧ rowsG (l.take k) ≤ l[k].2.1 + 1 := by
  constructor
  · have hl : (l.take (k + 1)).length = k + 1 := by rw [List.length_take]; omega
    rw [rowsG_last (by omega)]
    have : (l.take (k + 1))[(l.take (k + 1)).length - 1]'(by omega) = l[k] := by
      rw [List.getElem_take]; congr 1; omega
    rw [this]
  · cases k with
    | zero => simp [rowsG]
    | succ k =>
      have hl : (l.take (k + 1)).length = k + 1 := by rw [List.length_take]; omega
      rw [rowsG_last (by omega)]
      have : (l.take (k + 1))[(l.take (k + 1)).length - 1]'(by omega) = l[k]'(by omega) := by
        rw [List.getElem_take]; congr 1; omega
      rw [this]
      have hb := (List.pairwise_iff_getElem.1 h) k (k + 1) (by omega) hk (by omega)
      have : (l[k]'(by omega)).2.1 ≤ l[k + 1].2.1 := by rcases hb with hb | ⟨hb, _⟩ <;> (unfold Ce.row at hb; omega)
      show (l[k]'(by omega)).2.1 + 1 ≤ _
      omega
set_option maxRecDepth 100000 in
set_option maxHeartbeats 2000000 in
theorem rrows_any (rb n a nn : Nat) (lv : Value) (l : List Ce) (w : World) (h : RMt w rb n a lv l) (hok : OkG nn l) :
    Calls Try.prog 18 #[.pointer (some ⟨rb, 0, none⟩)] w fun e w' => e = .returned (.int .i64 (rowsG l : Nat)) ∧ w' = w := by
  have c1 := h.c1
  obtain ⟨va, vc, rfl⟩ := own_slice h.row
  have HR := Lib.hid h.cr
  have HOK := Lib.hid hok
  obtain ⟨N, hN⟩ : ∃ N, N = l.length := ⟨_, rfl⟩
  have HN := Lib.hid hN
  have hl := hok.len
  rw [← hN] at c1 hl
  clear h hN hok
  go_enter Try.func18, Try.ntmps18
  go_wp2_with fail
  go_loopw [3, 4] (fun nv iv wr => ∃ k r : Nat, k ≤ N ∧ r ≤ 16 ∧ iv = .int .i64 (k : Nat) ∧ nv = .int .i64 (r : Nat) ∧ Hid (r = rowsG (l.take k)) ∧ wr = w) (fun _ iv _ => N - (RowKit.intOf iv).toNat)
  case atStart => exact ⟨0, 0, Nat.zero_le _, Nat.zero_le _, rfl, rfl, by simp [Hid, rowsG], rfl⟩
  case round =>
    obtain ⟨k, r, hk, hr, rfl, rfl, HRr, hW⟩ := hrel
    replace hW := hW.symm
    subst hW
    by_cases hlt : k < N
    · have d1 : decide ((k : Int) < (N : Int)) = true := decide_eq_true (by omega)
      have d1' : decide (k < N) = true := decide_eq_true hlt
      have hkN : (k : Int) < (N : Int) := by omega
      have hky : k < l.length := by rw [← HN.out]; exact hlt
      cases va with
      | none => have := crow_none HR.out; rw [this] at hky; simp at hky
      | some A =>
      obtain ⟨bb, off, rfl⟩ := crow_some HR.out (by omega)
      have e1 := (HR.out.cells hky (Below.refl _ _)).2.1
      obtain ⟨q1, q2⟩ := rows_take HOK.out.srt hky
      have hx16 := (HOK.out.ce _ (List.getElem_mem hky)).row
      obtain ⟨x, hx⟩ : ∃ x, x = l[k].2.1 := ⟨_, rfl⟩
      have hxr : x < 16 := by rw [hx]; exact hx16
      rw [← hx] at e1 q1 q2
      rw [← HRr.out] at q2
      by_cases he : r ≤ x
      · have e2 : decide ((x : Int) ≥ (r : Int)) = true := decide_eq_true (by omega)
        have e2' : decide ((r : Int) ≤ (x : Int)) = true := decide_eq_true (by omega)
        have e2'' : decide (r ≤ x) = true := decide_eq_true he
        have HT : Hid (x + 1 = rowsG (l.take (k + 1))) := q1.symm
        clear hx hky q1 q2 hx16 HRr
        go_wp2_with fail
        go_roundw
        case rel => exact ⟨k + 1, x + 1, hlt, by omega, by go_num, by go_num, HT, trivial⟩
        case measure => simp [RowKit.intOf]; omega
      · have e2 : decide ((x : Int) ≥ (r : Int)) = false := decide_eq_false (by omega)
        have e2' : decide ((r : Int) ≤ (x : Int)) = false := decide_eq_false (by omega)
        have e2'' : decide (r ≤ x) = false := decide_eq_false he
        have HT : Hid (r = rowsG (l.take (k + 1))) := by unfold Hid; rw [q1]; omega
        clear hx hky q1 q2 hx16 HRr
        go_wp2_with fail
        go_roundw
        case rel => exact ⟨k + 1, r, hlt, hr, by go_num, rfl, HT, trivial⟩
        case measure => simp [RowKit.intOf]; omega
    · have d1 : decide ((k : Int) < (N : Int)) = false := decide_eq_false (by omega)
      have d1' : decide (k < N) = false := decide_eq_false hlt
      have HT : Hid (r = rowsG l) := by unfold Hid; rw [HRr.out, List.take_of_length_le (by have := HN.out; omega)]
      go_wp2_with fail
      go_ret
      exact ⟨by rw [← HT.out]; rfl, rfl⟩
set_option maxRecDepth 100000 in
set_option maxHeartbeats 4000000 in
/-- Has no cell of a row a worker of a block? -/
theorem rfree_any (n r s o : Nat) (lv : Value) (l : List Ce) (w : World) (h : CRow w lv l) (hok : OkG n l) (hr : r < 16) (ho : o ≤ 10) (hs : s ≤ 4096) :
    Calls Try.prog 46 #[lv, .int .i64 (r : Nat), .agg #[.int .i64 (s : Nat), .int .i64 (o : Nat)]] w fun e w' => ∃ f : Bool, e = .returned (.bool f) ∧ BIs f (FreeG l r s o) ∧ Below w.heap.size w w' := by
  obtain ⟨va, vc, rfl⟩ := RowG.slice h
  have HOK := Lib.hid hok
  obtain ⟨N, hN⟩ : ∃ N, N = l.length := ⟨_, rfl⟩
  have HN := Lib.hid hN
  have hl := hok.len
  obtain ⟨X, hX⟩ : ∃ X, X = w.alloc (.cells #[.int .i64 (s : Nat), .int .i64 (o : Nat)] 46) := ⟨_, rfl⟩
  obtain ⟨gB, hgB⟩ : ∃ g, g = w.heap.size := ⟨_, rfl⟩
  have HBX : Hid (Below w.heap.size w X) := by unfold Hid; rw [hX]; exact (Below.refl _ _).alloc (Nat.le_refl _) _
  have HB : Hid (Blk X gB #[.int .i64 (s : Nat), .int .i64 (o : Nat)] 46) := by unfold Hid; rw [hX, hgB]; exact Blk.new w _ _
  have HR : Hid (CRow X (.slice va l.length vc) l) := RowG.kept h HBX.out
  rw [← hN] at hl ⊢
  clear h hok hN
  go_enter Try.func46, Try.ntmps46
  go_upto_region 1 with fail
  rw [← hgB, ← hX]
  clear hgB hX
  go_wp2_with fail
  go_loopw [7] (fun iv wr => ∃ k : Nat, k ≤ N ∧ iv = .int .i64 (k : Nat) ∧ Hid (∀ j (h : j < l.length), j < k → l[j].row = r → ¬ meetC l[j].st l[j].ord s o) ∧ Hid (Below X.heap.size X wr)) (fun iv _ => N - (RowKit.intOf iv).toNat)
  case atStart => exact ⟨0, Nat.zero_le _, rfl, fun j _ h => absurd h (Nat.not_lt_zero _), Below.refl _ _⟩
  case round =>
    obtain ⟨k, hk, rfl, HF, HBr⟩ := hrel
    by_cases hlt : k < N
    · have d1 : decide ((k : Int) < (N : Int)) = true := decide_eq_true (by omega)
      have d1' : decide (k < N) = true := decide_eq_true hlt
      have hkN : (k : Int) < (N : Int) := by omega
      have hky : k < l.length := by rw [← HN.out]; exact hlt
      have hmk := List.getElem_mem hky
      have hyo := (HOK.out.ce _ hmk).ord
      have hy10 := HOK.out.n10
      have hye := (HOK.out.ce _ hmk).en
      have hy2 : l[k].2.2.1 ≤ 4096 := by
        have h2 : l[k].2.2.1 ≤ l[k].en := Nat.le_of_succ_le (en_st _)
        have h3 : 2 ^ n ≤ 2 ^ 10 := Nat.pow_le_pow_right (by omega) hy10
        omega
      cases va with
      | none => have := crow_none HR.out; rw [this] at hky; simp at hky
      | some A =>
      obtain ⟨bb, off, rfl⟩ := crow_some HR.out (by omega)
      obtain ⟨e0, e1, e2, e3⟩ := HR.out.cells hky HBr.out
      have b0 := (HB.out.kept HBr.out).cell 0
      have b1 := (HB.out.kept HBr.out).cell 1
      simp at b0 b1
      have HF2 : Hid (¬ (l[k].row = r ∧ meetC l[k].st l[k].ord s o) → ∀ j (h : j < l.length), j < k + 1 → l[j].row = r → ¬ meetC l[j].st l[j].ord s o) := fun hh j h hj hr' => by
        rcases Nat.lt_or_ge j k with h2 | h2
        · exact HF.out j h h2 hr'
        · obtain rfl : j = k := by omega
          exact fun hm => hh ⟨hr', hm⟩
      have HNO : Hid ((l[k].row = r ∧ meetC l[k].st l[k].ord s o) → ¬ FreeG l r s o) := fun hh hf => hf _ hmk hh.1 hh.2
      obtain ⟨y, hy⟩ : ∃ y, y = l[k] := ⟨_, rfl⟩
      rw [← hy] at e0 e1 e2 e3 hyo hy2 HF2 HNO
      clear hy hky hmk hye
      obtain ⟨y0, y1, y2, y3⟩ := y
      dsimp only [Ce.row, Ce.st, Ce.ord] at e0 e1 e2 e3 hyo hy2 HF2 HNO
      by_cases hrow : y1 = r
      · have q0 : ((y1 : Int) == (r : Int)) = true := by simp; omega
        have q0' : (y1 == r) = true := by simp; omega
        have MT : Hid (∀ wq, Calls Try.prog 25 #[.agg #[.int .i64 (y2 : Nat), .int .i64 (y3 : Nat)], .agg #[.int .i64 (s : Nat), .int .i64 (o : Nat)]] wq fun e w' => e = .returned (.bool (decide (meetC y2 y3 s o))) ∧ Below wq.heap.size wq w') := fun wq => meet_any y2 y3 s o (by omega) (by omega) hy2 (by omega) wq
        obtain ⟨ε, hε⟩ : ∃ ε, ε = decide (meetC y2 y3 s o) := ⟨_, rfl⟩
        have HT : Hid (ε = true → ¬ FreeG l r s o) := fun h => HNO.out ⟨hrow, by rw [hε] at h; exact of_decide_eq_true h⟩
        have HE : Hid (ε = false → ∀ j (h : j < l.length), j < k + 1 → l[j].row = r → ¬ meetC l[j].st l[j].ord s o) := fun h => HF2.out fun hh => by
          rw [hε] at h; exact of_decide_eq_false h hh.2
        rw [← hε] at MT
        have HRW := Lib.hid hrow
        clear hε HF2 HNO HF hrow
        go_wp2_with fail
        go_region_held3 (fun w' => w'.cell? ⟨bb, off + k * 4 + 1, none⟩ = some (.int .i64 (y1 : Nat)) ∧ w'.cell? ⟨bb, off + k * 4 + 2, none⟩ = some (.int .i64 (y2 : Nat)) ∧ w'.cell? ⟨bb, off + k * 4 + 3, none⟩ = some (.int .i64 (y3 : Nat)) ∧ w'.cell? ⟨gB, 0, none⟩ = some (.int .i64 (s : Nat)) ∧ w'.cell? ⟨gB, 1, none⟩ = some (.int .i64 (o : Nat)) ∧ Below X.heap.size X w')
          (first
            | exact ⟨e1, e2, e3, b0, b1, HBr.out.drew⟩
            | (rcases ‹_ ∧ _ ∧ _ ∧ _ ∧ _ ∧ Below X.heap.size X _› with ⟨g0, g1, g2, g3, g4, g5⟩; exact ⟨cell_next (by assumption) g0, cell_next (by assumption) g1, cell_next (by assumption) g2, cell_next (by assumption) g3, cell_next (by assumption) g4, below_next (by assumption) g5⟩))
          (first
            | (go_at_call 25; ((with_reducible refine (MT.out _).mono ?_); rintro e wm ⟨rfl, bm⟩)))
        all_goals (have HB5 := (‹_ ∧ _ ∧ _ ∧ _ ∧ _ ∧ Below X.heap.size X _›).2.2.2.2.2)
        cases ε with
        | true =>
          have HT2 := Lib.hid (HT.out rfl)
          clear HT HE MT
          all_goals (go_wp2_with fail)
          all_goals go_ret
          all_goals exact ⟨false, rfl, BIs.no HT2.out, HBX.out.trans (HB5.mono HBX.out.size)⟩
        | false =>
          have HE2 := Lib.hid (HE.out rfl)
          clear HT HE MT
          all_goals (go_wp2_with fail)
          all_goals go_roundw
          case rel => exact ⟨k + 1, hlt, by go_num, HE2, HB5⟩
          case measure => simp [RowKit.intOf]; omega
      · have q0 : ((y1 : Int) == (r : Int)) = false := by simp; omega
        have q0' : (y1 == r) = false := by simp; omega
        have HE2 := Lib.hid (HF2.out fun hh => hrow hh.1)
        clear HF2 HNO HF
        go_wp2_with fail
        go_quiet (fail)
        go_wp2_with fail
        go_roundw
        case rel => exact ⟨k + 1, hlt, by go_num, HE2, below_drewN HBr.out _⟩
        case measure => simp [RowKit.intOf]; omega
    · have d1 : decide ((k : Int) < (N : Int)) = false := decide_eq_false (by omega)
      have d1' : decide (k < N) = false := decide_eq_false hlt
      have HT : Hid (FreeG l r s o) := fun c hc hr' => by
        obtain ⟨j, hj, rfl⟩ := List.getElem_of_mem hc
        exact HF.out j hj (by have := HN.out; omega) hr'
      go_wp2_with fail
      go_ret
      exact ⟨true, rfl, BIs.yes HT.out, HBX.out.trans (HBr.out.mono HBX.out.size)⟩
end

section
open Go Go.RowKit Go.Lib
theorem insG_at {l : List Ce} {c : Ce} : ∀ {i : Nat}, i ≤ l.length → (∀ j (h : j < l.length), j < i → LexB l[j] c) → (∀ h : i < l.length, ¬ LexB l[i] c) → insG l c = l.take i ++ c :: l.drop i := by
  induction l with
  | nil => intro i hi _ _; simp [insG]
  | cons d l ih =>
    intro i hi h1 h2
    cases i with
    | zero =>
      have : ¬ LexB d c := h2 (by simp)
      unfold insG
      rw [if_neg this]; rfl
    | succ i =>
      have : LexB d c := h1 0 (by simp) (by omega)
      unfold insG
      rw [if_pos this, ih (i := i) (by simpa using hi) (fun j h hj => by have := h1 (j + 1) (by simpa using h) (by omega); simpa using this) (fun h => by have := h2 (by simpa using h); simpa using this)]
      rfl
theorem src_ce {w : World} {g : Nat} {x : Ce} (h : Blk w g #[.int .u32 (x.1 : Nat), .int .i64 (x.2.1 : Nat), .int .i64 (x.2.2.1 : Nat), .int .i64 (x.2.2.2 : Nat)] 48) : Src w 4 (.slice (some ⟨g, 0, none⟩) 1 1) 1 (ceV x) :=
  ⟨rfl, .inr ⟨⟨g, 0, none⟩, 1, rfl, news_blk (cs := ceV x) h⟩⟩
theorem ceV_one1 (x : Ce) : ∀ u ∈ ceV x, u.oneCell' = true := fun u hu => by simp [ceV] at hu; rcases hu with rfl | rfl | rfl | rfl <;> rfl
theorem own_zero {w : World} {base : Nat} {v : Value} {l : List Ce} (h : COwn w base v l) : COwn w 0 v l := by
  obtain ⟨h1, h2 | ⟨g, cap, cur, e, hb, rest⟩⟩ := h
  · exact ⟨h1, .inl h2⟩
  · exact ⟨h1, .inr ⟨g, cap, cur, e, Nat.zero_le _, rest⟩⟩
theorem ceF_len : ∀ l : List Ce, (l.flatMap ceV).length = l.length * 4
  | [] => rfl
  | c :: l => by rw [List.flatMap_cons, List.length_append, ceF_len l, ceV_len, List.length_cons]; omega
theorem addr_add (g o j : Nat) : (⟨g, o, none⟩ : Addr).add j = ⟨g, o + j, none⟩ := by
  unfold Addr.add
  split <;> simp_all
set_option maxRecDepth 100000 in
set_option maxHeartbeats 4000000 in
theorem rlay_any (base : Nat) (lv : Value) (l : List Ce) (c : Ce) (w : World) (ho : COwn w base lv l) (hl : l.length ≤ 16384) :
    Calls Try.prog 47 #[lv, ceA c] w fun e w' => (∃ v', e = .returned v' ∧ COwn w' (w.heap.size + 1) v' (insG l c)) ∧ Below w.heap.size w w' := by
  obtain ⟨i0, hi, hz0, hz1, hz2⟩ := info_parts Try.infoCe
  have h : CRow w lv l := crow_of_own ho
  obtain ⟨va, vc, rfl, hva⟩ : ∃ va vc, lv = .slice va l.length vc ∧ ((va = none ∧ l.length = 0 ∧ vc = 0) ∨ ∃ g, va = some ⟨g, 0, none⟩ ∧ l.length ≤ vc ∧ vc ≤ maxLen) := by
    obtain ⟨_, ⟨e, h0⟩ | ⟨g, cap, cur, e, _, _, h1, h2, _⟩⟩ := ho
    · exact ⟨none, 0, by rw [e, h0], .inl ⟨rfl, h0, rfl⟩⟩
    · exact ⟨_, cap, e, .inr ⟨g, rfl, h1, h2⟩⟩
  have HSR := Lib.hid (src_of_rowG ceV_len (by decide) h)
  obtain ⟨N, hN⟩ : ∃ N, N = l.length := ⟨_, rfl⟩
  rw [← hN] at hva
  have HVA := Lib.hid hva
  have HN := Lib.hid hN
  have HI := Lib.hid (And.intro hi (And.intro hz0 (And.intro hz1 hz2)))
  obtain ⟨x0, x1, x2, x3⟩ := c
  obtain ⟨X, hX⟩ : ∃ X, X = w.alloc (.cells #[.int .u32 (x0 : Nat), .int .i64 (x1 : Nat), .int .i64 (x2 : Nat), .int .i64 (x3 : Nat)] 48) := ⟨_, rfl⟩
  obtain ⟨gC, hgC⟩ : ∃ g, g = w.heap.size := ⟨_, rfl⟩
  have HBX : Hid (Below w.heap.size w X) := by unfold Hid; rw [hX]; exact (Below.refl _ _).alloc (Nat.le_refl _) _
  have HB : Hid (Blk X gC #[.int .u32 (x0 : Nat), .int .i64 (x1 : Nat), .int .i64 (x2 : Nat), .int .i64 (x3 : Nat)] 48) := by unfold Hid; rw [hX, hgC]; exact Blk.new w _ _
  have HR : Hid (CRow X (.slice va l.length vc) l) := RowG.kept h HBX.out
  obtain ⟨B, hB⟩ : ∃ B, B = X.heap.size := ⟨_, rfl⟩
  have hBw : B = w.heap.size + 1 := by rw [hB, hX]; simp
  have HBw := Lib.hid hBw
  have HBB := Lib.hid hB
  rw [← hN] at hl ⊢
  rw [← hN] at HSR
  clear h ho hva hN hi hz0 hz1 hz2 hB hBw
  unfold ceA
  dsimp only
  go_enter Try.func47, Try.ntmps47
  go_upto_region 1 with fail
  rw [← hgC, ← hX]
  clear hgC hX
  go_wp2_with fail
  go_loopw [5, 6] (fun ov iv wr => ∃ k : Nat, k ≤ N ∧ iv = .int .i64 (k : Nat) ∧ Hid (∀ j (h : j < l.length), j < k → LexB l[j] (x0, x1, x2, x3)) ∧ Hid (wr.ownsRow B 48 4 ov k ((l.take k).flatMap ceV)) ∧ Hid (Below X.heap.size X wr)) (fun _ iv _ => N - (RowKit.intOf iv).toNat)
  case atStart => exact ⟨0, Nat.zero_le _, rfl, fun j _ h => absurd h (Nat.not_lt_zero _), by simpa [Hid] using World.ownsRow_nil _ _ _ _, Below.refl _ _⟩
  case round =>
    obtain ⟨k, hk, rfl, HF, HO, HBr⟩ := hrel
    have b0 := (HB.out.kept HBr.out).cell 1
    have b1 := (HB.out.kept HBr.out).cell 2
    simp at b0 b1
    go_upto_region 3 with fail
    go_cut [42] from 7 to 42 (fun cv wx => ∃ β : Bool, cv = .bool β ∧ Hid (BIs β (∃ h : k < l.length, LexB l[k] (x0, x1, x2, x3))) ∧ Hid (∃ q, wx = wr.drewN q))
    case first =>
      by_cases hlt : k < N
      · have d1 : decide ((k : Int) < (N : Int)) = true := decide_eq_true (by omega)
        have d1' : decide (k < N) = true := decide_eq_true hlt
        have hkN : (k : Int) < (N : Int) := by omega
        have hky : k < l.length := by rw [← HN.out]; exact hlt
        cases va with
        | none => have := crow_none HR.out; rw [this] at hky; simp at hky
        | some A =>
        obtain ⟨bb, off, rfl⟩ := crow_some HR.out (by omega)
        have e1 := (HR.out.cells hky HBr.out).2.1
        have e2 := (HR.out.cells hky HBr.out).2.2.1
        have HY : Hid (LexB l[k] (x0, x1, x2, x3) ↔ (l[k].2.1 < x1 ∨ (l[k].2.1 = x1 ∧ l[k].2.2.1 < x2))) := Iff.rfl
        have HEX : Hid ((∃ h : k < l.length, LexB l[k] (x0, x1, x2, x3)) ↔ (l[k].2.1 < x1 ∨ (l[k].2.1 = x1 ∧ l[k].2.2.1 < x2))) := ⟨fun ⟨_, h⟩ => HY.out.1 h, fun h => ⟨hky, HY.out.2 h⟩⟩
        obtain ⟨y1, hy1⟩ : ∃ y, y = l[k].2.1 := ⟨_, rfl⟩
        obtain ⟨y2, hy2⟩ : ∃ y, y = l[k].2.2.1 := ⟨_, rfl⟩
        rw [← hy1] at e1
        rw [← hy2] at e2
        rw [← hy1, ← hy2] at HEX
        clear HY hy1 hy2 hky HF HO
        by_cases h1 : y1 < x1
        · have q1 : decide ((y1 : Int) < (x1 : Int)) = true := decide_eq_true (by omega)
          have q1' : decide (y1 < x1) = true := decide_eq_true h1
          have HT : Hid (BIs true (∃ h : k < l.length, LexB l[k] (x0, x1, x2, x3))) := BIs.yes (HEX.out.2 (.inl h1))
          clear HEX
          go_wp2_with fail
          go_quiet (fail)
          go_wp2_with fail
          go_meet
          exact ⟨_, rfl, HT.out, ⟨_, rfl⟩⟩
        · have q1 : decide ((y1 : Int) < (x1 : Int)) = false := decide_eq_false (by omega)
          have q1' : decide (y1 < x1) = false := decide_eq_false h1
          by_cases h2 : y1 = x1
          · have q2 : ((y1 : Int) == (x1 : Int)) = true := by simp; omega
            have q2' : (y1 == x1) = true := by simp; omega
            have HT : Hid (BIs (decide (y2 < x2)) (∃ h : k < l.length, LexB l[k] (x0, x1, x2, x3))) := by
              unfold Hid BIs; rw [HEX.out, decide_eq_true_eq]; exact ⟨fun h => .inr ⟨h2, h⟩, fun h => h.elim (fun h => absurd h h1) (fun h => h.2)⟩
            have H2 := Lib.hid h2
            obtain ⟨β, hβ⟩ : ∃ β, β = decide (y2 < x2) := ⟨_, rfl⟩
            have q3 : decide ((y2 : Int) < (x2 : Int)) = β := by rw [hβ]; exact decide_eq_decide.2 (by omega)
            have q3' : decide (y2 < x2) = β := hβ.symm
            rw [← hβ] at HT
            clear HEX h2 h1 hβ
            go_wp2_with fail
            go_quiet (fail)
            go_wp2_with fail
            go_meet
            exact ⟨_, rfl, HT.out, ⟨_, rfl⟩⟩
          · have q2 : ((y1 : Int) == (x1 : Int)) = false := by simp; omega
            have q2' : (y1 == x1) = false := by simp; omega
            have HT : Hid (BIs false (∃ h : k < l.length, LexB l[k] (x0, x1, x2, x3))) := BIs.no fun h => (HEX.out.1 h).elim (fun h => h1 h) (fun h => h2 h.1)
            clear HEX
            go_wp2_with fail
            go_quiet (fail)
            go_wp2_with fail
            go_meet
            exact ⟨_, rfl, HT.out, ⟨_, rfl⟩⟩
      · have d1 : decide ((k : Int) < (N : Int)) = false := decide_eq_false (by omega)
        have d1' : decide (k < N) = false := decide_eq_false hlt
        have HT : Hid (BIs false (∃ h : k < l.length, LexB l[k] (x0, x1, x2, x3))) := BIs.no fun ⟨h, _⟩ => by have := HN.out; omega
        clear HF HO
        go_wp2_with fail
        go_quiet (fail)
        go_wp2_with fail
        go_meet
        exact ⟨_, rfl, HT.out, ⟨_, rfl⟩⟩
    case rest =>
      obtain ⟨β, rfl, HT, hw⟩ := hcut
      obtain ⟨q, hq⟩ := hw.out
      have HBc : Hid (Below X.heap.size X wc) := by unfold Hid; rw [hq]; exact below_drewN HBr.out q
      have HOc : Hid (wc.ownsRow B 48 4 u5 k ((l.take k).flatMap ceV)) := by unfold Hid; rw [hq]; exact own_older HO.out (below_drewN (Below.refl _ _) q)
      clear hw hq HBr HO b0 b1
      have HBS : Hid (B ≤ wc.heap.size) := by unfold Hid; rw [HBB.out]; exact HBc.out.size
      cases β with
      | true =>
        obtain ⟨hky, hlex⟩ := HT.out.t
        have hlt : k < N := by rw [HN.out]; exact hky
        have hkN : (k : Int) < (N : Int) := by omega
        have HF2 : Hid (∀ j (h : j < l.length), j < k + 1 → LexB l[j] (x0, x1, x2, x3)) := fun j h hj => by
          rcases Nat.lt_or_ge j k with h2 | h2
          · exact HF.out j h h2
          · obtain rfl : j = k := by omega
            exact hlex
        cases va with
        | none => have := crow_none HR.out; rw [this] at hky; simp at hky
        | some A =>
        obtain ⟨bb, off, rfl⟩ := crow_some HR.out (by omega)
        obtain ⟨e0, e1, e2, e3⟩ := HR.out.cells hky HBc.out
        have HTK : Hid ((l.take (k + 1)).flatMap ceV = (l.take k).flatMap ceV ++ ceV l[k]) := by
          unfold Hid; rw [List.take_add_one, List.getElem?_eq_getElem hky, List.flatMap_append]; simp
        obtain ⟨y, hy⟩ : ∃ y, y = l[k] := ⟨_, rfl⟩
        rw [← hy] at e0 e1 e2 e3 HTK
        clear hy hlex HT hky HF
        obtain ⟨y0, y1, y2, y3⟩ := y
        dsimp only at e0 e1 e2 e3
        obtain ⟨hi, hz0, hz1, hz2⟩ := HI.out
        have HNX : Hid (∀ v8 w8 o, w8.ownsRow B 48 4 v8 (k + 1) ((l.take k).flatMap ceV ++ ceV (y0, y1, y2, y3)) → (wc.alloc o).grownBy w8 u5.ownBlock → Hid (w8.ownsRow B 48 4 v8 (k + 1) ((l.take (k + 1)).flatMap ceV)) ∧ Hid (Below X.heap.size X w8)) := fun v8 w8 o h1 h2 => by
          refine ⟨by unfold Hid; rw [HTK.out]; exact h1, ?_⟩
          have g1 : Below X.heap.size X (wc.alloc o) := HBc.out.alloc (HBc.out.size) _
          refine g1.trans ((Chg.of_grown (own := fun g => u5.ownBlock = some g) h2 fun g e => e).to_below g1.size fun g hg e => ?_)
          have := (HOc.out.lt g e).1
          have := HBB.out
          omega
        clear HTK
        go_wp2_with (first | (at_builtin; refine wpList_app rfl _ _ 35 rfl B 48 i0 _ 4 32 Try.underlying35 hi hz0 hz1 hz2 rfl (by decide) _ k ((l.take k).flatMap ceV) rfl (HOc.out.alloc _) _ 1 (ceV (y0, y1, y2, y3)) rfl (src_ce (x := (y0, y1, y2, y3)) (Blk.new _ _ _)) (ceV_one1 _) (by unfold maxLen; omega) (by omega) (by have := HBS.out; simp; omega) ?_; intro v8 w8 hown8 hgrow8 hat8; obtain ⟨HO8, HB8⟩ := HNX.out v8 w8 _ hown8 hgrow8; clear hown8 hgrow8 hat8))
        go_roundw
        case rel => exact ⟨k + 1, hlt, by go_num, HF2, HO8, HB8⟩
        case measure => simp [RowKit.intOf]; omega
      | false =>
        have HINS : Hid (insG l (x0, x1, x2, x3) = l.take k ++ (x0, x1, x2, x3) :: l.drop k) := insG_at (by rw [← HN.out]; exact hk) HF.out (fun h hl => HT.out.f ⟨h, hl⟩)
        obtain ⟨t0, t1, t2, t3⟩ : wc.cell? ⟨gC, 0, none⟩ = some (.int .u32 (x0 : Nat)) ∧ wc.cell? ⟨gC, 1, none⟩ = some (.int .i64 (x1 : Nat)) ∧ wc.cell? ⟨gC, 2, none⟩ = some (.int .i64 (x2 : Nat)) ∧ wc.cell? ⟨gC, 3, none⟩ = some (.int .i64 (x3 : Nat)) := by
          have b := HB.out.kept HBc.out
          have c0 := b.cell 0
          have c1 := b.cell 1
          have c2 := b.cell 2
          have c3 := b.cell 3
          simp at c0 c1 c2 c3
          exact ⟨c0, c1, c2, c3⟩
        obtain ⟨hi, hz0, hz1, hz2⟩ := HI.out
        clear HF HT
        have HNX : Hid (∀ v8 w8 o, w8.ownsRow B 48 4 v8 (k + 1) ((l.take k).flatMap ceV ++ ceV (x0, x1, x2, x3)) → (wc.alloc o).grownBy w8 u5.ownBlock → Hid (w8.ownsRow B 48 4 v8 (k + 1) ((l.take k).flatMap ceV ++ ceV (x0, x1, x2, x3))) ∧ Hid (Below X.heap.size X w8)) := fun v8 w8 o h1 h2 => by
          refine ⟨h1, ?_⟩
          have g1 : Below X.heap.size X (wc.alloc o) := HBc.out.alloc (HBc.out.size) _
          refine g1.trans ((Chg.of_grown (own := fun g => u5.ownBlock = some g) h2 fun g e => e).to_below g1.size fun g hg e => ?_)
          have := (HOc.out.lt g e).1
          have := HBB.out
          omega
        go_upto_region 7 with (first | (at_builtin; refine wpList_app rfl _ _ 35 rfl B 48 i0 _ 4 32 Try.underlying35 hi hz0 hz1 hz2 rfl (by decide) _ k ((l.take k).flatMap ceV) rfl (HOc.out.alloc _) _ 1 (ceV (x0, x1, x2, x3)) rfl (src_ce (x := (x0, x1, x2, x3)) (Blk.new _ _ _)) (ceV_one1 _) (by unfold maxLen; omega) (by omega) (by have := HBS.out; simp; omega) ?_; intro v8 w8 hown8 hgrow8 hat8; obtain ⟨HO8, HB8⟩ := HNX.out v8 w8 _ hown8 hgrow8; clear hown8 hgrow8 hat8))
        have HB8S : Hid (B ≤ w8.heap.size) := by unfold Hid; rw [HBB.out]; exact HB8.out.size
        have HSR8 : Hid (Src w8 4 (.slice va N vc) N (l.flatMap ceV)) := HSR.out.kept (HBX.out.trans (HB8.out.mono HBX.out.size))
        clear HNX HOc HBc HBS t0 t1 t2 t3
        have hkN : (k : Int) ≤ (N : Int) := by omega
        have HEND : Hid (∀ v9 w9, w9.ownsRow B 48 4 v9 (k + 1 + (N - k)) (((l.take k).flatMap ceV ++ ceV (x0, x1, x2, x3)) ++ (l.drop k).flatMap ceV) → w8.grownBy w9 v8.ownBlock → (∃ v', Ending.returned v9 = .returned v' ∧ COwn w9 (w.heap.size + 1) v' (insG l (x0, x1, x2, x3))) ∧ Below w.heap.size w w9) := fun v9 w9 h1 h2 => by
          have g2 : Below X.heap.size X w9 := HB8.out.trans ((Chg.of_grown (own := fun g => v8.ownBlock = some g) h2 fun g e => e).to_below HB8.out.size fun g hg e => by
            have := (HO8.out.lt g e).1
            have := HBB.out
            omega)
          refine ⟨⟨v9, rfl, ?_⟩, HBX.out.trans (g2.mono HBX.out.size)⟩
          show w9.ownsRow (w.heap.size + 1) 48 4 v9 (insG l (x0, x1, x2, x3)).length ((insG l (x0, x1, x2, x3)).flatMap ceV)
          rw [HINS.out, ← HBw.out]
          have e1 : (l.take k ++ (x0, x1, x2, x3) :: l.drop k).length = k + 1 + (N - k) := by
            rw [List.length_append, List.length_cons, List.length_take, List.length_drop]
            have := HN.out
            omega
          have e2 : (l.take k ++ (x0, x1, x2, x3) :: l.drop k).flatMap ceV = ((l.take k).flatMap ceV ++ ceV (x0, x1, x2, x3)) ++ (l.drop k).flatMap ceV := by
            rw [List.flatMap_append, List.flatMap_cons, List.append_assoc]
          rw [e1, e2]; exact h1
        have HDL : Hid (((l.drop k).flatMap ceV).length = (N - k) * 4) := by
          unfold Hid; rw [ceF_len, List.length_drop, HN.out]
        rcases HVA.out with ⟨rfl, hN0, rfl⟩ | ⟨g, rfl, hcap, hcm⟩
        · obtain rfl : N = 0 := hN0
          obtain rfl : k = 0 := by omega
          have HSRC : Hid (Src w8 4 (.slice none 0 0) 0 ((l.drop 0).flatMap ceV)) := ⟨by rw [HDL.out], .inl ⟨0, rfl, rfl⟩⟩
          clear hkN
          go_wp2_with (first | (at_builtin; refine wpList_app rfl _ _ 35 rfl B 48 i0 _ 4 32 Try.underlying35 hi hz0 hz1 hz2 rfl (by decide) _ (0 + 1) ((l.take 0).flatMap ceV ++ ceV (x0, x1, x2, x3)) rfl HO8.out _ 0 ((l.drop 0).flatMap ceV) rfl HSRC.out (ceV_one _) (by unfold maxLen; omega) (by omega) HB8S.out ?_; intro v9 w9 hown9 hgrow9 hat9; have HE := Lib.hid (HEND.out v9 w9 hown9 hgrow9); clear hown9 hgrow9 hat9))
          go_ret
          exact HE.out
        · by_cases hkc : k < vc
          · have e1 : decide ((k : Int) < (vc : Int)) = true := decide_eq_true (by omega)
            have HSRC : Hid (Src w8 4 (.slice (some ⟨g, k * 4, none⟩) (N - k) (vc - k)) (N - k) ((l.drop k).flatMap ceV)) := by
              refine ⟨HDL.out, .inr ⟨⟨g, k * 4, none⟩, vc - k, rfl, fun j u hj => ?_⟩⟩
              obtain ⟨_, ⟨c, e, _⟩ | ⟨ad, c, e, hc⟩⟩ := HSR8.out
              · cases e
              · injection e with e1 _ _
                injection e1 with e1
                subst e1
                rw [← ceL_drop, List.getElem?_drop] at hj
                have := hc _ u hj
                rw [addr_add] at this ⊢
                rw [Nat.zero_add] at this
                exact this
            go_wp2_with (first | (at_builtin; refine wpList_app rfl _ _ 35 rfl B 48 i0 _ 4 32 Try.underlying35 hi hz0 hz1 hz2 rfl (by decide) _ (k + 1) ((l.take k).flatMap ceV ++ ceV (x0, x1, x2, x3)) rfl HO8.out _ (N - k) ((l.drop k).flatMap ceV) rfl HSRC.out (ceV_one _) (by unfold maxLen; omega) (by omega) HB8S.out ?_; intro v9 w9 hown9 hgrow9 hat9; have HE := Lib.hid (HEND.out v9 w9 hown9 hgrow9); clear hown9 hgrow9 hat9))
            go_ret
            exact HE.out
          · obtain rfl : k = vc := by omega
            obtain rfl : N = k := by omega
            rw [Nat.sub_self] at HEND
            have HSRC : Hid (Src w8 4 (.slice (some ⟨g, 0, none⟩) 0 0) 0 ((l.drop N).flatMap ceV)) := by
              have e : (l.drop N).flatMap ceV = [] := by rw [HN.out, List.drop_length]; rfl
              unfold Hid
              rw [e]
              exact ⟨rfl, .inr ⟨⟨g, 0, none⟩, 0, rfl, fun j u hj => by simp at hj⟩⟩
            go_wp2_with (first | (at_builtin; refine wpList_app rfl _ _ 35 rfl B 48 i0 _ 4 32 Try.underlying35 hi hz0 hz1 hz2 rfl (by decide) _ (N + 1) ((l.take N).flatMap ceV ++ ceV (x0, x1, x2, x3)) rfl HO8.out _ 0 ((l.drop N).flatMap ceV) rfl HSRC.out (ceV_one _) (by unfold maxLen; omega) (by omega) HB8S.out ?_; intro v9 w9 hown9 hgrow9 hat9; have HE := Lib.hid (HEND.out v9 w9 hown9 hgrow9); clear hown9 hgrow9 hat9))
            go_ret
            exact HE.out
end

section
open Go Go.RowKit Go.Lib
section
variable {w w' : World} {rb n a : Nat} {lv : Value} {l : List Ce}
theorem RMt.setA (h : RMt w rb n a lv l) (a' : Nat) : RMt (w.setCell ⟨rb, 2, none⟩ (.int .i64 (a' : Int))) rb n a' lv l := by
  refine ⟨?_, ownsRow_setCell_other h.row h.ne _, h.ne⟩
  have := h.blk.set 2 (.int .i64 (a' : Int))
  simpa using this
theorem RMt.setL (h : RMt w rb n a lv l) {lv' : Value} {l' : List Ce} (ho : COwn w 0 lv' l') (hne : lv'.ownBlock ≠ some rb) : RMt (w.setCell ⟨rb, 1, none⟩ lv') rb n a lv' l' := by
  refine ⟨?_, ownsRow_setCell_other ho hne _, hne⟩
  have := h.blk.set 1 lv'
  simpa using this
theorem RMt.f (h : RMt w rb n a lv l) (i : Nat) : w.frozen? ⟨rb, i, none⟩ = false := h.blk.free i
end
set_option maxRecDepth 100000 in
set_option maxHeartbeats 2000000 in
theorem rturn_any (rb n a nn : Nat) (lv : Value) (l : List Ce) (w : World) (h : RMt w rb n a lv l) (hok : OkG nn l) (ha : a ≤ 16) :
    Calls Try.prog 33 #[.pointer (some ⟨rb, 0, none⟩)] w fun e w' => e = .returned (.tuple #[]) ∧ RMt w' rb n (turnA l a) lv l ∧ Chg (One rb) w w' := by
  have RW := Lib.hid (rrows_any rb n a nn lv l w h hok)
  have c2 := h.c2
  have f2 := h.f 2
  have HM := Lib.hid h
  obtain ⟨R, hR⟩ : ∃ R, R = rowsG l := ⟨_, rfl⟩
  have hR16 : R ≤ 16 := by rw [hR]; exact rowsG_16 hok
  obtain ⟨t, ht⟩ : ∃ t, t = a + 1 := ⟨_, rfl⟩
  have hti : (a : Int) + 1 = (t : Int) := by omega
  have htu : (t : Int) ≤ 17 := by omega
  have HT : Hid (turnA l a = if R ≤ t then 0 else t) := by unfold Hid turnA; rw [hR, ht]
  have HM1 := Lib.hid (HM.out.setA t)
  have f2' := HM1.out.f 2
  have HM2 := Lib.hid (HM1.out.setA 0)
  rw [← hR] at RW
  clear h hok hR ht
  go_enter Try.func33, Try.ntmps33
  go_wp2_with fail
  refine RW.out.mono ?_; rintro e w1 ⟨rfl, hw⟩
  replace hw := hw.symm; subst hw
  by_cases hle : R ≤ t
  · have d1 : decide ((t : Int) ≥ (R : Int)) = true := decide_eq_true (by omega)
    have d1' : decide ((R : Int) ≤ (t : Int)) = true := decide_eq_true (by omega)
    have d1'' : decide (R ≤ t) = true := decide_eq_true hle
    have HT2 : Hid (turnA l a = 0) := by unfold Hid; rw [HT.out, if_pos hle]
    go_wp2_with fail
    go_returns
    exact ⟨rfl, by rw [HT2.out]; exact HM2.out, (Chg.setCell 2 _ rfl : Chg (One rb) _ _).trans (Chg.setCell 2 _ rfl)⟩
  · have d1 : decide ((t : Int) ≥ (R : Int)) = false := decide_eq_false (by omega)
    have d1' : decide ((R : Int) ≤ (t : Int)) = false := decide_eq_false (by omega)
    have d1'' : decide (R ≤ t) = false := decide_eq_false hle
    have HT2 : Hid (turnA l a = t) := by unfold Hid; rw [HT.out, if_neg hle]
    go_wp2_with fail
    go_returns
    exact ⟨rfl, by rw [HT2.out]; exact HM1.out, Chg.setCell 2 _ rfl⟩
theorem used_none {r : Nat} : ∀ {l : List Ce}, (∀ c ∈ l, c.row ≠ r) → usedG l r = 0
  | [], _ => rfl
  | c :: l, h => by
    unfold usedG
    rw [if_neg (h c List.mem_cons_self), used_none (fun d hd => h d (List.mem_cons_of_mem _ hd))]
set_option maxRecDepth 100000 in
set_option maxHeartbeats 2000000 in
theorem ridle_any (rb n a : Nat) (lv : Value) (l : List Ce) (row : Int) (w : World) (h : RMt w rb n a lv l) (hok : OkG n l) :
    Calls Try.prog 21 #[.pointer (some ⟨rb, 0, none⟩), .int .i64 row] w fun e w' => e = .returned (.int .i64 (idleG n l row)) ∧ Below w.heap.size w w' := by
  have hn10 := hok.n10
  by_cases h1 : row < 0
  · have d1 : decide (row < 0) = true := decide_eq_true h1
    have e1 : idleG n l row = 0 := by unfold idleG; rw [if_pos h1]
    rw [e1]
    clear h hok e1 h1
    go_enter Try.func21, Try.ntmps21
    go_wp2_with fail
    go_ret
    exact ⟨rfl, Below.refl _ _⟩
  · have d1 : decide (row < 0) = false := decide_eq_false h1
    obtain ⟨r, rfl⟩ : ∃ r : Nat, row = (r : Int) := ⟨row.toNat, by omega⟩
    have hu := used_bound (r := r) hok
    have e1 : idleG n l (r : Int) = ((2 ^ n : Nat) : Int) - ((usedG l r : Nat) : Int) := by
      unfold idleG
      rw [if_neg h1]
      split
      · rename_i h2
        rw [used_none (fun c hc e => by have := (hok.ce c hc).row; omega)]; simp
      · rfl
    rw [e1]
    have c0 := h.c0
    have c1 := h.c1
    obtain ⟨va, vc, rfl⟩ := own_slice h.row
    have HM := Lib.hid h
    have HR := Lib.hid h.cr
    have HOK := Lib.hid hok
    obtain ⟨N, hN⟩ : ∃ N, N = l.length := ⟨_, rfl⟩
    have HN := Lib.hid hN
    have hl := hok.len
    have SZ := Lib.hid (rSize_any n hn10)
    obtain ⟨Y, hY⟩ : ∃ Y, Y = 2 ^ n := ⟨_, rfl⟩
    have hYu : Y ≤ 1024 := by rw [hY]; have := Nat.pow_le_pow_right (n := 2) (by omega) hn10; simpa using this
    rw [← hY] at SZ hu ⊢
    rw [← hN] at c1 hl
    obtain ⟨U, hU⟩ : ∃ U, U = usedG l r := ⟨_, rfl⟩
    have HU := Lib.hid hU
    rw [← hU] at hu ⊢
    clear h hok hN e1 h1 hU hY
    go_enter Try.func21, Try.ntmps21
    go_wp2_with fail
    refine (SZ.out _).mono ?_; rintro e w1 ⟨rfl, hw⟩
    replace hw := hw.symm; subst hw
    go_wp2_with fail
    go_loopw [5, 6] (fun nv iv wr => ∃ k u : Nat, k ≤ N ∧ u ≤ 1024 ∧ iv = .int .i64 (k : Nat) ∧ nv = .int .i64 ((Y : Int) - (u : Int)) ∧ Hid (u = usedG (l.take k) r) ∧ wr = w) (fun _ iv _ => N - (RowKit.intOf iv).toNat)
    case atStart => exact ⟨0, 0, Nat.zero_le _, Nat.zero_le _, rfl, by simp, by simp [Hid, usedG], rfl⟩
    case round =>
      obtain ⟨k, u, hk, hu1, rfl, rfl, HUk, hW⟩ := hrel
      replace hW := hW.symm
      subst hW
      by_cases hlt : k < N
      · have e1 : decide ((k : Int) < (N : Int)) = true := decide_eq_true (by omega)
        have e1' : decide (k < N) = true := decide_eq_true hlt
        have hkN : (k : Int) < (N : Int) := by omega
        have hky : k < l.length := by rw [← HN.out]; exact hlt
        have hmk := List.getElem_mem hky
        have hyo := (HOK.out.ce _ hmk).ord
        have hut := used_take (r := r) hky
        have hul := used_le l r (k + 1)
        rw [← HU.out] at hul
        cases va with
        | none => have := crow_none HR.out; rw [this] at hky; simp at hky
        | some A =>
        obtain ⟨bb, off, rfl⟩ := crow_some HR.out (by omega)
        have e2 := (HR.out.cells hky (Below.refl _ _)).2.1
        have e3 := (HR.out.cells hky (Below.refl _ _)).2.2.2
        obtain ⟨y, hy⟩ : ∃ y, y = l[k] := ⟨_, rfl⟩
        rw [← hy] at e2 e3 hyo hut
        obtain ⟨y0, y1, y2, y3⟩ := y
        dsimp only [Ce.row, Ce.ord] at e2 e3 hyo hut
        by_cases hrow : y1 = r
        · have q0 : ((y1 : Int) == (r : Int)) = true := by simp; omega
          have q0' : (y1 == r) = true := by simp; omega
          rw [if_pos hrow, ← HUk.out] at hut
          have SZ2 := Lib.hid (rSize_any y3 (by omega))
          obtain ⟨P, hP⟩ : ∃ P, P = 2 ^ y3 := ⟨_, rfl⟩
          rw [← hP] at SZ2 hut
          have HU2 : Hid (u + P = usedG (l.take (k + 1)) r) := hut.symm
          have hPu : u + P ≤ 1024 := by rw [← hut]; omega
          have hsb : (Y : Int) - (u : Int) - (P : Int) = (Y : Int) - ((u + P : Nat) : Int) := by omega
          have hPn : (0 : Int) ≤ (P : Int) := by omega
          have HRW := Lib.hid hrow
          clear hP hut hul hy hmk hky HUk hrow
          go_wp2_with fail
          refine (SZ2.out _).mono ?_; rintro e w2 ⟨rfl, hw⟩
          replace hw := hw.symm; subst hw
          go_wp2_with fail
          go_roundw
          case rel => exact ⟨k + 1, u + P, hlt, hPu, by go_num, (by rw [← hsb]; go_num), HU2, trivial⟩
          case measure => simp [RowKit.intOf]; omega
        · have q0 : ((y1 : Int) == (r : Int)) = false := by simp; omega
          have q0' : (y1 == r) = false := by simp; omega
          rw [if_neg hrow, ← HUk.out] at hut
          have HU2 : Hid (u = usedG (l.take (k + 1)) r) := hut.symm
          clear hut hul hy hmk hky HUk
          go_wp2_with fail
          go_roundw
          case rel => exact ⟨k + 1, u, hlt, hu1, by go_num, rfl, HU2, trivial⟩
          case measure => simp [RowKit.intOf]; omega
      · have e1 : decide ((k : Int) < (N : Int)) = false := decide_eq_false (by omega)
        have e1' : decide (k < N) = false := decide_eq_false hlt
        have HT : Hid (u = U) := by unfold Hid; rw [HUk.out, HU.out, List.take_of_length_le (by have := HN.out; omega)]
        go_wp2_with fail
        go_ret
        exact ⟨by rw [← HT.out]; rfl, Below.refl _ _⟩
theorem er_take {l : List Ce} {t k : Nat} (h : k < l.length) : (l.take (k + 1)).eraseIdx t = (l.take k).eraseIdx t ++ if k = t then [] else [l[k]] := by
  have hlk : (l.take k).length = k := by rw [List.length_take]; omega
  rw [List.take_add_one, List.getElem?_eq_getElem h]
  simp only [Option.toList_some]
  rcases Nat.lt_or_ge t k with h1 | h1
  · rw [List.eraseIdx_append_of_lt_length (by omega), if_neg (by omega)]
  · have e := List.eraseIdx_of_length_le (show (l.take k).length ≤ t by omega)
    rw [List.eraseIdx_append_of_length_le (by omega), e, hlk]
    by_cases h2 : k = t
    · subst h2; rw [if_pos rfl, Nat.sub_self]; rfl
    · have e2 := List.eraseIdx_of_length_le (show ([l[k]] : List Ce).length ≤ t - k by simp; omega)
      rw [if_neg h2, e2]
set_option maxRecDepth 100000 in
set_option maxHeartbeats 4000000 in
theorem rremove_any (rb n a id : Nat) (lv : Value) (l : List Ce) (w : World) (h : RMt w rb n a lv l) (hok : OkG n l) (ha : a ≤ 16) :
    Calls Try.prog 32 #[.pointer (some ⟨rb, 0, none⟩), .int .u32 (id : Nat)] w fun e w' => ∃ er a' l' lv', e = .returned (.int .i64 er) ∧ RemR l a id er a' l' ∧ RMt w' rb n a' lv' l' ∧ (∀ g, lv'.ownBlock = some g → lv.ownBlock = some g ∨ w.heap.size ≤ g) ∧ Chg (One rb) w w' := by
  obtain ⟨i0, hi, hz0, hz1, hz2⟩ := info_parts Try.infoCe
  have HI := Lib.hid (And.intro hi (And.intro hz0 (And.intro hz1 hz2)))
  have FD := Lib.hid (rfind_any rb n a id lv l w h hok.len)
  have HM := Lib.hid h
  have HOK := Lib.hid hok
  have hl := hok.len
  clear h hok hi hz0 hz1 hz2
  go_enter Try.func32, Try.ntmps32
  go_wp2_with fail
  refine FD.out.mono ?_; rintro e w1 ⟨⟨f, rfl, hf⟩, hw⟩
  replace hw := hw.symm; subst hw
  have HF := Lib.hid hf
  clear hf FD
  cases f with
  | none =>
    rw [show optF none = -1 from rfl]
    go_wp2_with fail
    go_ret
    exact ⟨4, a, l, lv, rfl, .no HF.out, HM.out, fun g hg => .inl hg, Chg.refl _ _⟩
  | some t =>
    rw [show optF (some t) = (t : Int) from rfl]
    have htl : t < l.length := by
      rcases HF.out with ⟨h, _⟩ | ⟨k, hk, h, _⟩
      · cases h
      · injection h with h; omega
    have d1 : decide ((t : Int) < 0) = false := decide_eq_false (by omega)
    obtain ⟨N, hN⟩ : ∃ N, N = l.length := ⟨_, rfl⟩
    have HN := Lib.hid hN
    have htN : t < N := by omega
    rw [← hN] at hl
    obtain ⟨va, vc, rfl⟩ := own_slice HM.out.row
    have c1 := HM.out.c1
    rw [← hN] at c1
    have HR := Lib.hid HM.out.cr
    obtain ⟨B, hB⟩ : ∃ B, B = w.heap.size := ⟨_, rfl⟩
    have HB := Lib.hid hB
    clear hN htl hB
    go_wp2_with fail
    go_loopw [6, 7] (fun ov iv wr => ∃ k m : Nat, k ≤ N ∧ iv = .int .i64 (k : Nat) ∧ m ≤ k ∧ Hid (m = ((l.take k).eraseIdx t).length) ∧ Hid (wr.ownsRow B 48 4 ov m (((l.take k).eraseIdx t).flatMap ceV)) ∧ Hid (Below w.heap.size w wr)) (fun _ iv _ => N - (RowKit.intOf iv).toNat)
    case atStart => exact ⟨0, 0, Nat.zero_le _, rfl, Nat.le_refl _, by simp [Hid], by simpa [Hid] using World.ownsRow_nil _ _ _ _, Below.refl _ _⟩
    case round =>
      obtain ⟨k, m, hk, rfl, hmk, HMk, HO, HBr⟩ := hrel
      have c1r : wr.cell? ⟨rb, 1, none⟩ = some (.slice va N vc) := by
        have := (HM.out.kept HBr.out).c1
        rw [← HN.out] at this; exact this
      by_cases hlt : k < N
      · have e1 : decide ((k : Int) < (N : Int)) = true := decide_eq_true (by omega)
        have e1' : decide (k < N) = true := decide_eq_true hlt
        have hkN : (k : Int) < (N : Int) := by omega
        have hky : k < l.length := by rw [← HN.out]; exact hlt
        have hEI : Hid ((l.take (k + 1)).eraseIdx t = (l.take k).eraseIdx t ++ if k = t then [] else [l[k]]) := er_take hky
        by_cases hkt : k = t
        · have q0 : ((k : Int) != (t : Int)) = false := by simp; omega
          have q0' : (k != t) = false := by simp; omega
          have HMk2 : Hid (m = ((l.take (k + 1)).eraseIdx t).length) := by unfold Hid; rw [hEI.out, if_pos hkt, List.append_nil]; exact HMk.out
          have HO2 : Hid (wr.ownsRow B 48 4 u6 m (((l.take (k + 1)).eraseIdx t).flatMap ceV)) := by unfold Hid; rw [hEI.out, if_pos hkt, List.append_nil]; exact HO.out
          have HKT := Lib.hid hkt
          clear hkt hEI HMk HO hky
          go_wp2_with fail
          go_roundw
          case rel => exact ⟨k + 1, m, hlt, by go_num, by omega, HMk2, HO2, HBr⟩
          case measure => simp [RowKit.intOf]; omega
        · have q0 : ((k : Int) != (t : Int)) = true := by simp; omega
          have q0' : (k != t) = true := by simp; omega
          have HMk2 : Hid (m + 1 = ((l.take (k + 1)).eraseIdx t).length) := by unfold Hid; rw [hEI.out, if_neg hkt, List.length_append, ← HMk.out]; rfl
          have HFL : Hid (((l.take (k + 1)).eraseIdx t).flatMap ceV = ((l.take k).eraseIdx t).flatMap ceV ++ ceV l[k]) := by
            unfold Hid; rw [hEI.out, if_neg hkt, List.flatMap_append]; simp
          cases va with
          | none => have := crow_none HR.out; rw [this] at hky; simp at hky
          | some A =>
          obtain ⟨bb, off, rfl⟩ := crow_some HR.out (by omega)
          obtain ⟨e0, e2, e3, e4⟩ := HR.out.cells hky HBr.out
          obtain ⟨y, hy⟩ : ∃ y, y = l[k] := ⟨_, rfl⟩
          rw [← hy] at e0 e2 e3 e4 HFL
          clear hy hky hEI HMk
          obtain ⟨y0, y1, y2, y3⟩ := y
          dsimp only at e0 e2 e3 e4
          obtain ⟨hi, hz0, hz1, hz2⟩ := HI.out
          have HBS : Hid (B ≤ wr.heap.size) := by unfold Hid; rw [HB.out]; exact HBr.out.size
          have HNX : Hid (∀ v8 w8 o, w8.ownsRow B 48 4 v8 (m + 1) (((l.take k).eraseIdx t).flatMap ceV ++ ceV (y0, y1, y2, y3)) → (wr.alloc o).grownBy w8 u6.ownBlock → Hid (w8.ownsRow B 48 4 v8 (m + 1) (((l.take (k + 1)).eraseIdx t).flatMap ceV)) ∧ Hid (Below w.heap.size w w8)) := fun v8 w8 o h1 h2 => by
            refine ⟨by unfold Hid; rw [HFL.out]; exact h1, ?_⟩
            have g1 : Below w.heap.size w (wr.alloc o) := HBr.out.alloc (HBr.out.size) _
            refine g1.trans ((Chg.of_grown (own := fun g => u6.ownBlock = some g) h2 fun g e => e).to_below g1.size fun g hg e => ?_)
            have := (HO.out.lt g e).1
            have := HB.out
            omega
          clear HFL
          go_wp2_with (first | (at_builtin; refine wpList_app rfl _ _ 35 rfl B 48 i0 _ 4 32 Try.underlying35 hi hz0 hz1 hz2 rfl (by decide) _ m (((l.take k).eraseIdx t).flatMap ceV) rfl (HO.out.alloc _) _ 1 (ceV (y0, y1, y2, y3)) rfl (src_ce (x := (y0, y1, y2, y3)) (Blk.new _ _ _)) (ceV_one1 _) (by unfold maxLen; omega) (by omega) (by have := HBS.out; simp; omega) ?_; intro v8 w8 hown8 hgrow8 hat8; obtain ⟨HO8, HB8⟩ := HNX.out v8 w8 _ hown8 hgrow8; clear hown8 hgrow8 hat8))
          go_roundw
          case rel => exact ⟨k + 1, m + 1, hlt, by go_num, by omega, HMk2, HO8, HB8⟩
          case measure => simp [RowKit.intOf]; omega
      · have e1 : decide ((k : Int) < (N : Int)) = false := decide_eq_false (by omega)
        have e1' : decide (k < N) = false := decide_eq_false hlt
        have hlk : l.take k = l := List.take_of_length_le (by have := HN.out; omega)
        rw [hlk] at HMk HO
        have HO0 : Hid (COwn wr 0 u6 (l.eraseIdx t)) := by
          have : COwn wr B u6 (l.eraseIdx t) := by show wr.ownsRow B 48 4 u6 (l.eraseIdx t).length _; rw [← HMk.out]; exact HO.out
          exact own_zero this
        have hnew : Hid (∀ g, u6.ownBlock = some g → B ≤ g) := fun g hg => (HO.out.lt g hg).1
        obtain ⟨E, hE⟩ : ∃ E, E = (l.eraseIdx t).length := ⟨_, rfl⟩
        obtain ⟨ua, uc, hu⟩ : ∃ ua uc, u6 = .slice ua E uc := by
          obtain ⟨a, c, e⟩ := own_slice HO0.out
          exact ⟨a, c, by rw [hE]; exact e⟩
        subst hu
        clear hE
        have hrbB : rb < B := by rw [HB.out]; exact HM.out.blk.lt
        have HM1 := Lib.hid ((HM.out.kept HBr.out).setL HO0.out (fun e => by have := hnew.out rb e; omega))
        have f1 := (HM.out.kept HBr.out).f 1
        have HOK2 : Hid (OkG n (l.eraseIdx t)) := HOK.out.sub (List.eraseIdx_sublist l t)
        obtain ⟨W, hW⟩ : ∃ W, W = wr.setCell ⟨rb, 1, none⟩ (.slice ua E uc) := ⟨_, rfl⟩
        have HCW : Hid (Chg (One rb) w W) := by unfold Hid; rw [hW]; exact (Chg.of_below HBr.out).trans (Chg.setCell 1 _ rfl)
        rw [← hW] at HM1
        have RW := Lib.hid (rrows_any rb n a n (.slice ua E uc) (l.eraseIdx t) W HM1.out HOK2.out)
        have c2 := HM1.out.c2
        have f2 := HM1.out.f 2
        obtain ⟨R, hR⟩ : ∃ R, R = rowsG (l.eraseIdx t) := ⟨_, rfl⟩
        have hR16 : R ≤ 16 := by rw [hR]; exact rowsG_16 HOK2.out
        have HRA : Hid (remA (l.eraseIdx t) a = if R ≤ a then 0 else a) := by unfold Hid remA; rw [hR]
        rw [← hR] at RW
        have HNB : Hid (∀ g, (Value.slice ua E uc).ownBlock = some g → (Value.slice va l.length vc).ownBlock = some g ∨ w.heap.size ≤ g) := fun g hg => .inr (by rw [← HB.out]; exact hnew.out g hg)
        have HEND : Hid (∀ a' w', RMt w' rb n a' (.slice ua E uc) (l.eraseIdx t) → Chg (One rb) W w' → a' = remA (l.eraseIdx t) a → ∃ er a' l' lv', Ending.returned (.int .i64 0) = .returned (.int .i64 er) ∧ RemR l a id er a' l' ∧ RMt w' rb n a' lv' l' ∧ (∀ g, lv'.ownBlock = some g → (Value.slice va l.length vc).ownBlock = some g ∨ w.heap.size ≤ g) ∧ Chg (One rb) w w') := fun a' w' h1 h2 h3 =>
          ⟨0, a', l.eraseIdx t, (.slice ua E uc), rfl, by rw [h3]; exact .yes t HF.out, h1, HNB.out, HCW.out.trans h2⟩
        clear hR HMk HO hlk
        go_upto_region 11 with fail
        rw [← hW]
        clear hW
        go_wp2_with fail
        refine RW.out.mono ?_; rintro e w4 ⟨rfl, hw⟩
        replace hw := hw.symm; subst hw
        by_cases hle : R ≤ a
        · have d2 : decide ((a : Int) ≥ (R : Int)) = true := decide_eq_true (by omega)
          have d2' : decide ((R : Int) ≤ (a : Int)) = true := decide_eq_true (by omega)
          have d2'' : decide (R ≤ a) = true := decide_eq_true hle
          have HE := Lib.hid (HEND.out 0 _ (HM1.out.setA 0) (Chg.setCell 2 _ rfl) (by rw [HRA.out, if_pos hle]))
          go_wp2_with fail
          go_ret
          exact HE.out
        · have d2 : decide ((a : Int) ≥ (R : Int)) = false := decide_eq_false (by omega)
          have d2' : decide ((R : Int) ≤ (a : Int)) = false := decide_eq_false (by omega)
          have d2'' : decide (R ≤ a) = false := decide_eq_false hle
          have HE := Lib.hid (HEND.out a _ HM1.out (Chg.refl _ _) (by rw [HRA.out, if_neg hle]))
          go_wp2_with fail
          go_ret
          exact HE.out
end

end Go.Proofs.Ytfobapnncjjeiaa
