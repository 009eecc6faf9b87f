/-
  rank.Top with the law's own function value: at any keys.
-/
import Derived.Test.YtpgiladbljnpcaaKeyM
import Derived.Test.YtpgiladbljnpcaaKeyL
import Derived.Test.YtpgiladbljnpcaaKeyKnown
import Derived.Defers
import Derived.Recover
namespace Go.Proofs.Ytpgiladbljnpcaa
open Go.ChangeShapes Go.WideShapes Go.ChangeAt Go.RowKit Go.Lib Go.Sort Go.Maps
set_option linter.unusedVariables false

theorem catch_idle (p : Addr) (w : World) :
    CallsD Try.prog 46 #[.pointer (some p)] .returning w fun e u' w' => e = .returned (.tuple #[]) ∧ u' = .returning ∧ w' = w := by
  refine callsD_of_wpS Try.func46 rfl fun c₀ cs hu => ?_
  apply wpS_seq
  apply wpS_region
  simp [wpOpsS, go_sem, recoverD, hu, Try.ntmps46, Exit.thenS]
  refine wpS_cond (t := false) (by simp [Act.eval, Array.replicate]) ?_
  simp only [Bool.false_eq_true, if_false]
  refine wpS_of_wp (wp_skip ?_)
  cases c₀
  simp_all [bodyPostS, results, Try.results46]

theorem grownBy_setCell (w : World) (a : Addr) (u : Value) : w.grownBy (w.setCell a u) (some a.block) :=
  ⟨rfl, rfl, rfl, by simp [World.setCell], fun k hk hne => Below.heap_setCell _ _ _ _ (fun e => hne (by rw [e]))⟩
def I64' (n : Int) : Prop := -9223372036854775808 ≤ n ∧ n ≤ 9223372036854775807
/-- Does the law's function say so of a key? -/
def mayB (mark : Int) (k : Key) : Bool := k.2.2 % 4 != mark % 4

theorem may_any (k : Key) (A M : Nat) (ac mark : Int) (w : World) (hA : Blk w A #[.int .i64 ac] 3) (hM : Blk w M #[.int .u32 mark] 22) (hk : 0 ≤ k.2.2 ∧ k.2.2 ≤ 4294967295) (hm : 0 ≤ mark ∧ mark ≤ 4294967295) (hac : 0 ≤ ac ∧ ac ≤ 1048576) :
    Calls Try.prog 31 #[keyV k, .pointer (some ⟨A, 0, none⟩), .pointer (some ⟨M, 0, none⟩)] w
      fun e w' => e = .returned (.bool (mayB mark k)) ∧ Blk w' A #[.int .i64 (ac + 1)] 3 ∧ w.grownBy w' (some A) := by
  obtain ⟨p, t, i⟩ := k
  obtain ⟨hk0, hk1⟩ := hk
  obtain ⟨hm0, hm1⟩ := hm
  obtain ⟨ha0, ha1⟩ := hac
  dsimp only at hk0 hk1
  have a0 := hA.cell 0; simp at a0
  have m0 := hM.cell 0; simp at m0
  have f0 := hA.free 0
  have hlA := hA.lt
  have hlM := hM.lt
  have hne : A ≠ w.heap.size := by omega
  have hAM : M ≠ A := by
    intro e; subst e
    have := hA.cell 0; rw [m0] at this; simp at this
  have HM : Hid (mayB mark (p, t, i) = (i % 4 != mark % 4)) := rfl
  have HA := Lib.hid hA
  generalize mayB mark (p, t, i) = mb at *
  unfold keyV
  clear hA hM
  go_enter Try.func31, Try.ntmps31
  go_wp2_with fail
  go_ret
  refine ⟨kret_bool HM.out.symm, ((HA.out.set 0 _).old _), ?_⟩
  exact (grownBy_setCell _ _ _).trans (World.grownBy_alloc _ _ _)

/-- The first j keys of which the function says so. -/
def mayL (mark : Int) (xs : List Key) (j : Nat) : List Key := (xs.take j).filter (mayB mark)
theorem mayL_len (mark : Int) (xs : List Key) (j : Nat) : (mayL mark xs j).length ≤ j := Nat.le_trans (List.length_filter_le _ _) (List.length_take_le _ _)
theorem mayL_snoc (mark : Int) (xs : List Key) (j : Nat) (h : j < xs.length) : mayL mark xs (j + 1) = mayL mark xs j ++ if mayB mark (at_ xs j) then [at_ xs j] else [] := by
  unfold mayL
  rw [List.take_add_one, at_get h, List.filter_append]
  simp [List.filter_cons]
/-- Where the search stops. -/
def stops (mark n : Int) (xs : List Key) (J : Nat) : Prop := J ≤ xs.length ∧ (∀ i, i < J → ((mayL mark xs i).length : Int) < n) ∧ (J = xs.length ∨ n ≤ (mayL mark xs J).length)
theorem stops_eq {mark n : Int} {xs : List Key} {J J' : Nat} (h : stops mark n xs J) (h' : stops mark n xs J') : J = J' := by
  obtain ⟨h1, h2, h3⟩ := h
  obtain ⟨h1', h2', h3'⟩ := h'
  rcases Nat.lt_trichotomy J J' with hl | hl | hl
  · have := h2' J hl
    rcases h3 with h3 | h3 <;> omega
  · exact hl
  · have := h2 J' hl
    rcases h3' with h3' | h3' <;> omega
def TopPost (w : World) (A : Nat) (mark n : Int) (xs : List Key) (e : Ending) (w' : World) : Prop :=
  ∃ (v' : Value) (J : Nat), e = .returned v' ∧ stops mark n xs J ∧ KRow w' v' (mayL mark xs J) ∧ Blk w' A #[.int .i64 J] 3 ∧ w.grownBy w' (some A)
/-- What is handed back, in the world behind: the result's cell laid once more, and a block of a key. -/
theorem top_end {w wr W : World} {A R j : Nat} {mark n : Int} {xs : List Key} {v : Value} {e : Ending} (he : e = .returned v) (hs : stops mark n xs j) (ho : wr.ownsRow (R + 1) 24 3 v (mayL mark xs j).length (flatL (mayL mark xs j)))
    (hA : Blk wr A #[.int .i64 j] 3) (hg : w.grownBy wr (some A)) (hR : w.heap.size = R) (hRA : A < R) (hW : wr.grownBy W (some R)) : TopPost w A mark n xs e W := by
  have hne : v.ownBlock ≠ some R := fun e => by have := (ho.lt R e).1; omega
  refine ⟨v, j, he, hs, krow_of_owns (ho.kept hW (.inr hne)), hA.grown hW (fun e => by injection e with e; omega), ?_⟩
  exact ⟨hW.os.trans hg.os, hW.tape.trans hg.tape, hW.output.trans hg.output, Nat.le_trans hg.size hW.size, fun k hk hne => (hW.block k (Nat.lt_of_lt_of_le hk hg.size) (fun e => by injection e with e; omega)).trans (hg.block k hk hne)⟩
theorem grown_far {w w2 w3 : World} {A : Nat} {row : Option Nat} (h : w.grownBy w2 (some A)) (hg : w2.grownBy w3 row) (hr : ∀ k, row = some k → w.heap.size ≤ k) : w.grownBy w3 (some A) :=
  ⟨hg.os.trans h.os, hg.tape.trans h.tape, hg.output.trans h.output, Nat.le_trans h.size hg.size, fun k hk hne => (hg.block k (Nat.lt_of_lt_of_le hk h.size) (fun e => by have := hr k e.symm; omega)).trans (h.block k hk hne)⟩
theorem kcells_grown {w w' : World} {b off : Nat} {xs : List Key} {A : Nat} (h : KCells w b off xs) (hg : w.grownBy w' (some A)) (hne : b ≠ A) : KCells w' b off xs := by
  have hn : (some b : Option Nat) ≠ some A := fun e => hne (by injection e)
  exact ⟨Nat.lt_of_lt_of_le h.1 hg.size, fun j hj => ⟨hg.cell (h.2 j hj).1 hn, hg.cell (h.2 j hj).2.1 hn, hg.cell (h.2 j hj).2.2 hn⟩⟩

set_option maxRecDepth 100000 in
set_option maxHeartbeats 2000000 in
theorem top_row (b off c : Nat) (xs : List Key) (n mark : Int) (A M : Nat) (w : World) (hn : xs.length ≤ 1048576) (h0 : 0 < xs.length) (hI : I64' n) (hc : KCells w b off xs) (hbA : b ≠ A) (hMA : M ≠ A)
    (hA : Blk w A #[.int .i64 0] 3) (hM : Blk w M #[.int .u32 mark] 22) (hids : ∀ x ∈ xs, 0 ≤ x.2.2 ∧ x.2.2 ≤ 4294967295) (hm : 0 ≤ mark ∧ mark ≤ 4294967295) :
    Calls Try.prog 30 #[.slice (some ⟨b, off, none⟩) xs.length c, .int .i64 n, .func (.func 31) #[] #[.pointer (some ⟨A, 0, none⟩), .pointer (some ⟨M, 0, none⟩)]] w
      fun e w' => TopPost w A mark n xs e w' := by
  obtain ⟨i0, hi, hz0, hz1, hz2⟩ := info_parts Try.infoKey
  have hmf : ∀ (fn : Fn) (first cap : Array Value) (w : World), (Instr.makeFunc fn first cap).run Try.prog w = .ok (.func fn first cap) w := fun _ _ _ _ => rfl
  have HC := Lib.hid hc
  have HA := Lib.hid hA
  have HM := Lib.hid hM
  have hRA : A < w.heap.size := hA.lt
  have HF : Hid (∀ j w (ac : Int), j < xs.length → Blk w A #[.int .i64 ac] 3 → Blk w M #[.int .u32 mark] 22 → 0 ≤ ac ∧ ac ≤ 1048576 → Calls Try.prog 31 #[keyV (at_ xs j), .pointer (some ⟨A, 0, none⟩), .pointer (some ⟨M, 0, none⟩)] w
      fun e w' => e = .returned (.bool (mayB mark (at_ xs j))) ∧ Blk w' A #[.int .i64 (ac + 1)] 3 ∧ w.grownBy w' (some A)) := fun j w ac hj h1 h2 h3 => may_any _ A M ac mark w h1 h2 (hids _ (List.mem_of_getElem? (at_get hj))) hm h3
  have HS : Hid (∀ j, j < xs.length → mayL mark xs (j + 1) = mayL mark xs j ++ if mayB mark (at_ xs j) then [at_ xs j] else []) := mayL_snoc mark xs
  have HLe : Hid (∀ j, (mayL mark xs j).length ≤ j) := mayL_len mark xs
  have HMA : Hid (M ≠ A) := hMA
  have HBA : Hid (b ≠ A) := hbA
  unfold I64' at hI
  obtain ⟨hI1, hI2⟩ := hI
  unfold keyV at HF
  clear hc hA hM hids hm hMA hbA
  go_enter_defers Try.func30, Try.ntmps30
  go_wp2_with fail
  go_loopw [12] (fun i wr => ∃ (j : Nat) (v : Value), j ≤ xs.length ∧ i = .int .i64 j ∧ (∀ i, i < j → ((mayL mark xs i).length : Int) < n) ∧ wr.ownsRow (w.heap.size + 1) 24 3 v (mayL mark xs j).length (flatL (mayL mark xs j)) ∧
      Blk wr w.heap.size #[v] 28 ∧ Blk wr A #[.int .i64 j] 3 ∧ w.grownBy wr (some A)) (fun i _ => xs.length - (intOf i).toNat)
  case atStart => exact ⟨0, .slice none 0 0, Nat.zero_le _, rfl, fun j hj => absurd hj (Nat.not_lt_zero _), World.ownsRow_nil _ _ _ _, Blk.new _ _ _, HA.out.old _, World.grownBy_alloc _ _ _⟩
  case round =>
    obtain ⟨j, v, hj, rfl, he0, hown, hrb, hab, hg⟩ := hrel
    have HE := Lib.hid he0
    have HO := Lib.hid hown
    have HR := Lib.hid hrb
    have HAB := Lib.hid hab
    have HG := Lib.hid hg
    obtain ⟨S, cp, rfl⟩ : ∃ S cp, v = .slice S (mayL mark xs j).length cp := by
      obtain ⟨_, ⟨hv, hn0⟩ | ⟨g, cap, cur, hv, _⟩⟩ := hown
      · exact ⟨none, 0, by rw [hn0]; exact hv⟩
      · exact ⟨_, cap, hv⟩
    have r0 := hrb.cell 0; simp at r0
    have fr := hrb.free 0
    have hRs := hrb.lt
    have hle := HLe.out j
    clear he0 hown hrb hab hg
    by_cases hlt : j < xs.length
    · have hlt' : decide (j < xs.length) = true := decide_eq_true hlt
      have hlt2 : (j : Int) < xs.length := by omega
      obtain ⟨c0, c1, c2⟩ := (kcells_grown HC.out HG.out HBA.out).2 j hlt
      change wr.cell? _ = some (Value.int .i64 (at_ xs j).1) at c0
      change wr.cell? _ = some (Value.int .i64 (at_ xs j).2.1) at c1
      change wr.cell? _ = some (Value.int .u32 (at_ xs j).2.2) at c2
      by_cases hbr : n ≤ ((mayL mark xs j).length : Int)
      · have hbr' : decide ((((mayL mark xs j).length : Nat) : Int) ≥ n) = true := decide_eq_true hbr
        have HST : Hid (stops mark n xs j) := ⟨hj, HE.out, .inr hbr⟩
        have HO' := Lib.hid (fun W (e : Ending) (he : e = Ending.returned (Value.slice S (mayL mark xs j).length cp)) (hW : wr.grownBy W (some w.heap.size)) => top_end he HST.out HO.out HAB.out HG.out rfl hRA hW)
        generalize at_ xs j = x at *
        generalize mayL mark xs j = ml at *
        have HD : Hid (∀ o, ((wr.setCell ⟨w.heap.size, 0, none⟩ (Value.slice S ml.length cp)).alloc o).cell? ⟨w.heap.size, 0, none⟩ = some (Value.slice S ml.length cp)) := fun o => ((HR.out.set 0 _).old o).cell 0
        go_wp2_with fail
        refine leaves_cons (f := 46) (args := #[.pointer (some ⟨w.heap.size, 0, none⟩)]) (by simp) (by simp [go_sem]) ?_
        refine (catch_idle ⟨w.heap.size, 0, none⟩ _).mono ?_
        rintro e u' w'' ⟨rfl, rfl, rfl⟩
        simp [Leaves, settle, results, Try.results30, go_sem, HD.out]
        exact HO'.out _ _ rfl ((grownBy_setCell _ _ _).trans (World.grownBy_alloc _ _ _))
      · have hbr' : decide ((((mayL mark xs j).length : Nat) : Int) ≥ n) = false := decide_eq_false hbr
        have HE1 : Hid (∀ i, i < j + 1 → ((mayL mark xs i).length : Int) < n) := fun i hi => by
          rcases Nat.lt_succ_iff_lt_or_eq.1 hi with h | rfl
          · exact HE.out i h
          · omega
        have HF1 := Lib.hid (fun w ac => HF.out j w ac hlt)
        have HS1 := Lib.hid (HS.out j hlt)
        have hAw : A < wr.heap.size := HAB.out.lt
        have hz2R : (some w.heap.size : Option Nat) ≠ some A := fun e => by injection e with e; omega
        have HZ2 := Lib.hid hz2R
        obtain ⟨x, hx⟩ : ∃ x, x = at_ xs j := ⟨_, rfl⟩
        rw [← hx] at c0 c1 c2 HF1 HS1
        clear hx hz2R
        cases hq : mayB mark x
        all_goals
          rw [hq] at HF1 HS1
          clear hq
          generalize mayL mark xs j = ml at *
          go_wp2_with fail
          refine (HF1.out _ j (HAB.out.old _) ((Blk.grown HM.out HG.out (fun e => HMA.out (by injection e))).old _) ⟨by omega, by omega⟩).mono ?_; rintro e w2 ⟨rfl, ha2, g2⟩
          have HA2 := Lib.hid ha2
          have HR2 := Lib.hid ((HR.out.old _).grown g2 HZ2.out)
          have HG2 := Lib.hid ((HG.out.trans (World.grownBy_alloc _ _ _)).trans g2)
          have hkb : Blk w2 wr.heap.size #[.int .i64 x.1, .int .i64 x.2.1, .int .u32 x.2.2] 24 := (Blk.new _ _ _).grown g2 (fun e => by injection e with e; omega)
          have OW2 := Lib.hid ((HO.out.alloc _).kept g2 (.inr (fun e => by have := (HO.out.lt A e).1; omega)))
          have s0 := HR2.out.cell 0; simp at s0
          have fs := HR2.out.free 0
          have k0 := hkb.cell 0; simp at k0
          have k1 := hkb.cell 1; simp at k1
          have k2 := hkb.cell 2; simp at k2
          have hR2 := HR2.out.lt
          clear r0 fr ha2 g2 c0 c1 c2 hkb
        · have HS2 : Hid (mayL mark xs (j + 1) = ml) := by have := HS1.out; simp at this; exact this
          go_wp2_with fail
          go_roundw
          case rel => exact ⟨j + 1, .slice S ml.length cp, hlt, by go_num, HE1.out, by rw [HS2.out]; exact OW2.out, HR2.out, by have := HA2.out; rw [show ((j + 1 : Nat) : Int) = (j : Int) + 1 by omega]; exact this, HG2.out⟩
          case measure => simp [intOf]; omega
        · have HS2 : Hid (mayL mark xs (j + 1) = ml ++ [x]) := by have := HS1.out; simp at this; exact this
          go_wp2_with (at_builtin; refine wpList_append_own _ rfl _ _ 28 rfl (w.heap.size + 1) 24 i0 _ 3 24 Try.underlying28 hi hz0 hz1 hz2 rfl (by decide) _ ml.length _ rfl (World.ownsRow.alloc OW2.out _) ⟨w2.heap.size, 0, none⟩ 1 1 (encK x) rfl rfl (news_key (x := x) (Blk.new _ _ _)) (encK_one x) (by unfold maxLen; omega) (by omega) (by simp; omega) ?_; intro v4 w4 hown4 hgrow4 _; have ho4 := Lib.hid hown4; have hG4 := Lib.hid hgrow4; obtain ⟨g, cap, cur, rfl, hg4, _⟩ := owns_pos hown4 (Nat.succ_pos _); have HR4 := Lib.hid ((HR2.out.old _).grown hgrow4 (fun e => by have := (OW2.out.lt w.heap.size e.symm).1; omega)); have s4 := HR4.out.cell 0; simp at s4; have fs4 := HR4.out.free 0; clear hown4 hgrow4)
          go_roundw
          case rel =>
            refine ⟨j + 1, .slice (some ⟨g, 0, none⟩) (ml.length + 1) cap, hlt, by go_num, HE1.out, ?_, HR4.out.set 0 _, ?_, ?_⟩
            · have hl1 : (ml ++ [x]).length = ml.length + 1 := by simp
              rw [HS2.out, hl1, flatL_append]
              have e2 : flatL [x] = encK x := by simp [flatL]
              rw [e2]
              exact ownsRow_setCell_below ho4.out (Nat.lt_succ_self _) _
            · have h1 := ((HA2.out.old (.cells (encK x).toArray 24)).grown hG4.out (fun e => by have := (OW2.out.lt A e.symm).1; omega))
              rw [show ((j + 1 : Nat) : Int) = (j : Int) + 1 by omega]
              exact h1.other (by show A ≠ w.heap.size; omega) _
            · exact grown_far (grown_far (grown_far HG2.out (World.grownBy_alloc _ _ none) (fun k hk => nomatch hk)) hG4.out (fun k hk => by have := (OW2.out.lt k hk).1; omega)) (grownBy_setCell _ _ _) (fun k hk => by injection hk with hk; rw [← hk]; exact Nat.le_refl _)
          case measure => simp [intOf]; omega
    · obtain rfl : j = xs.length := by omega
      have hlt' : decide (xs.length < xs.length) = false := decide_eq_false (by omega)
      have HST : Hid (stops mark n xs xs.length) := ⟨hj, HE.out, .inl rfl⟩
      have HO' := Lib.hid (fun W (e : Ending) (he : e = Ending.returned (Value.slice S (mayL mark xs xs.length).length cp)) (hW : wr.grownBy W (some w.heap.size)) => top_end he HST.out HO.out HAB.out HG.out rfl hRA hW)
      generalize mayL mark xs xs.length = ml at *
      have HD : Hid ((wr.setCell ⟨w.heap.size, 0, none⟩ (Value.slice S ml.length cp)).cell? ⟨w.heap.size, 0, none⟩ = some (Value.slice S ml.length cp)) := ((HR.out.set 0 _).cell 0)
      go_wp2_with fail
      refine leaves_cons (f := 46) (args := #[.pointer (some ⟨w.heap.size, 0, none⟩)]) (by simp) (by simp [go_sem]) ?_
      refine (catch_idle ⟨w.heap.size, 0, none⟩ _).mono ?_
      rintro e u' w'' ⟨rfl, rfl, rfl⟩
      simp [Leaves, settle, results, Try.results30, go_sem, HD.out]
      exact HO'.out _ _ rfl (grownBy_setCell _ _ _)

set_option maxRecDepth 100000 in
theorem top_nil (a : Option Addr) (c : Nat) (n mark : Int) (A M : Nat) (w : World) (hA : Blk w A #[.int .i64 0] 3) :
    Calls Try.prog 30 #[.slice a 0 c, .int .i64 n, .func (.func 31) #[] #[.pointer (some ⟨A, 0, none⟩), .pointer (some ⟨M, 0, none⟩)]] w
      fun e w' => TopPost w A mark n [] e w' := by
  have hmf : ∀ (fn : Fn) (first cap : Array Value) (w : World), (Instr.makeFunc fn first cap).run Try.prog w = .ok (.func fn first cap) w := fun _ _ _ _ => rfl
  have HA := Lib.hid hA
  have hRA := hA.lt
  have HT : Hid (∀ W (e : Ending), e = Ending.returned (Value.slice none 0 0) → (w.alloc (.cells #[.slice none 0 0] 28)).grownBy W (some w.heap.size) → TopPost w A mark n [] e W) := fun W e he hW =>
    top_end (R := w.heap.size) (j := 0) (wr := w.alloc (.cells #[.slice none 0 0] 28)) he ⟨Nat.le_refl _, fun i hi => absurd hi (Nat.not_lt_zero _), .inl rfl⟩ (World.ownsRow_nil _ _ _ _) (HA.out.old _) (World.grownBy_alloc _ _ _) rfl hRA hW
  clear hA
  go_enter_defers Try.func30, Try.ntmps30
  go_wp2_with fail
  refine wp_loop_rounds 1 ?_
  rw [rounds_succ]
  go_wp2_with fail
  refine leaves_cons (f := 46) (args := #[.pointer (some ⟨w.heap.size, 0, none⟩)]) (by simp) (by simp [go_sem]) ?_
  refine (catch_idle ⟨w.heap.size, 0, none⟩ _).mono ?_
  rintro e u' w'' ⟨rfl, rfl, rfl⟩
  simp [Leaves, settle, results, Try.results30, go_sem]
  exact HT.out _ _ rfl (World.grownBy.refl _ _)
end Go.Proofs.Ytpgiladbljnpcaa
