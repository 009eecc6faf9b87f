/-
  Sorting rows of uint32, further: what has changed where a function makes boxes, too; reversing; the heap.
  Sorting rows of uint32: the pivot.
  Sorting rows of uint32: patterns are broken.
-/
import Derived.Test.YtfobapnncjjeiaaSuA
import Derived.Test.YtfobapnncjjeiaaChg
import Derived.Sort.LotB
import Derived.Deep.RegionHeld3
import Derived.Lib.BitFns
import Derived.Test.YtfobapnncjjeiaaShelf
namespace Go.Proofs.Ytfobapnncjjeiaa
set_option linter.unusedVariables false

section
open Go Go.RowKit Go.Lib Go.Sort
/-- A row in the memory that has been sorted on: but for it only new blocks. -/
structure SoG (w : World) (blk off : Nat) (d' : Array Int) (w' : World) : Prop where
  chg : Chg (One blk) w w'
  at_ : ∀ cur e fr, w.heap[blk]? = some (.cells cur e fr) → w'.heap[blk]? = some (.cells (putCells uE off d' cur) e fr)
section
variable {w w' w1 w2 : World} {blk off : Nat} {d d' d1 d2 : Array Int}
theorem SoG.of_so (h : SoW w blk off d' w') : SoG w blk off d' w' := by
  obtain ⟨n, rfl⟩ := h
  refine ⟨⟨rfl, rfl, rfl, by simp [putRow, mapBlock, Sort.ahead], fun k hk hne => ?_⟩, fun cur e fr hb => ?_⟩
  · simp only [putRow, mapBlock, Sort.ahead]
    rw [Array.getElem?_modify, if_neg (fun e => hne e.symm)]
  · simp [putRow, mapBlock, Sort.ahead, Array.getElem?_modify, hb, onCells]
theorem SoG.cell (h : SoG w blk off d' w') (hH : Holds uE w blk off d) (hs : d'.size = d.size) {j : Nat} (hj : j < d.size) :
    w'.cell? ⟨blk, off + j, none⟩ = some (.int .u32 d'[j]!) ∧ w'.frozen? ⟨blk, off + j, none⟩ = false := by
  have h1 := cell?_putRow uE w blk off d d' hH hs j (by omega)
  have h2 := (hH j hj).2
  obtain ⟨c, e, fr, hb, _⟩ := cells_of_cell? (hH j hj).1
  have h3 := h.at_ c e fr hb
  constructor
  · rw [← h1]
    unfold World.cell?
    simp only [putRow, mapBlock, Array.getElem?_modify, hb, h3, onCells, if_pos, Option.map_some]
  · rw [← h2]
    unfold World.frozen?
    simp only [hb, h3]
theorem SoG.holds (h : SoG w blk off d' w') (hH : Holds uE w blk off d) (hs : d'.size = d.size) : Holds uE w' blk off d' := fun j hj => h.cell hH hs (by omega)
theorem SoG.self (hH : Holds uE w blk off d) : SoG w blk off d w := .of_so (SoW.self hH)
theorem put_put (off : Nat) (cur : Array Value) (h : d2.size = d1.size) : putCells uE off d2 (putCells uE off d1 cur) = putCells uE off d2 cur := by
  apply Array.ext_getElem?
  intro i
  simp only [putCells, Array.getElem?_mapIdx]
  cases cur[i]? with
  | none => rfl
  | some x =>
    simp only [Option.map_some]
    by_cases hi : off ≤ i ∧ i < off + d2.size
    · rw [if_pos hi, if_pos hi]
    · rw [if_neg hi, if_neg hi, if_neg (by rw [← h]; exact hi)]
theorem SoG.trans (h1 : SoG w blk off d1 w1) (h2 : SoG w1 blk off d2 w2) (hs : d2.size = d1.size) : SoG w blk off d2 w2 :=
  ⟨h1.chg.trans h2.chg, fun cur e fr hb => by rw [h2.at_ _ _ _ (h1.at_ _ _ _ hb), put_put off cur hs]⟩
theorem SoG.below (h1 : SoG w blk off d1 w1) (hb : Below w1.heap.size w1 w2) : SoG w blk off d1 w2 :=
  ⟨h1.chg.more hb, fun cur e fr h => by rw [hb.block blk (Array.getElem?_eq_some_iff.1 (h1.at_ _ _ _ h)).1]; exact h1.at_ _ _ _ h⟩
/-- A box of the function's own is written to. -/
theorem SoG.aside {rb : Nat} (h1 : SoG w blk off d1 w1) (hc : Chg (One rb) w1 w2) (hr : w.heap.size ≤ rb) (hblk : blk < w.heap.size) : SoG w blk off d1 w2 :=
  ⟨⟨hc.os.trans h1.chg.os, hc.tape.trans h1.chg.tape, hc.output.trans h1.chg.output, Nat.le_trans h1.chg.size hc.size, fun k hk hn => (hc.block k (Nat.lt_of_lt_of_le hk h1.chg.size) (fun e => by have : k = rb := e; omega)).trans (h1.chg.block k hk hn)⟩,
    fun cur e fr h => by rw [hc.block blk (Array.getElem?_eq_some_iff.1 (h1.at_ _ _ _ h)).1 (fun e => by have : blk = rb := e; omega)]; exact h1.at_ _ _ _ h⟩
theorem SoG.drewN (h : SoG w blk off d' w') (q : Nat) : SoG w blk off d' (w'.drewN q) := h.below (below_drewN (Below.refl _ _) q)
theorem SoG.swap (h : SoG w blk off d' w') (hH : Holds uE w blk off d) (hs : d'.size = d.size) {j k : Nat} (hj : j < d'.size) (hk : k < d'.size) :
    SoG w blk off (swp d' j k) ((w'.setCell ⟨blk, off + j, none⟩ (.int .u32 d'[k]!)).setCell ⟨blk, off + k, none⟩ (.int .u32 d'[j]!)) :=
  h.trans (.of_so ((SoW.self (h.holds hH hs)).swap hj hk)) (by simp [swp])
end
/-- Behind a store into one cell the other one is there, be it the same one. -/
theorem set_cell {w : World} {blk off : Nat} {d : Array Int} (hH : Holds uE w blk off d) {i k : Nat} (hi : i < d.size) (hk : k < d.size) (x : Int) :
    ∃ z, (w.setCell ⟨blk, off + i, none⟩ (.int .u32 x)).cell? ⟨blk, off + k, none⟩ = some (.int .u32 z) ∧ (w.setCell ⟨blk, off + i, none⟩ (.int .u32 x)).frozen? ⟨blk, off + k, none⟩ = false := by
  have e := putRow_set uE w blk off d i x hi
  rw [putRow_self uE w blk off d hH] at e
  have e' : w.setCell ⟨blk, off + i, none⟩ (.int .u32 x) = putRow uE w blk off (d.setIfInBounds i x) := e
  rw [e']
  exact ⟨_, cell?_putRow uE w blk off d _ hH (by simp) k (by simpa using hk), by rw [frozen?_putRow]; exact (hH k hk).2⟩
theorem swp_sz (d : Array Int) (j k : Nat) : (swp d j k).size = d.size := by simp [swp]
set_option maxRecDepth 100000 in
set_option maxHeartbeats 2000000 in
theorem revU_any (blk off cap a b : Nat) (d : Array Int) (w : World) (hH : Holds uE w blk off d) (hab : a < b) (hb : b ≤ d.size) (hsz : d.size ≤ 4194304) :
    Calls Try.prog 64 #[.slice (some ⟨blk, off, none⟩) d.size cap, .int .i64 (a : Nat), .int .i64 (b : Nat)] w fun e w' =>
      e = .returned (.tuple #[]) ∧ ∃ d', SoG w blk off d' w' ∧ PermIn a b d d' := by
  have HH := Lib.hid hH
  have HR : Hid (PermIn a b d (reverseRange d a b)) := reverseRange_holds d a b (by omega) hb
  obtain ⟨N, hN⟩ : ∃ N, N = d.size := ⟨_, rfl⟩
  have HN := Lib.hid hN
  rw [← hN] at hb hsz ⊢
  clear hH hN
  go_enter Try.func64, Try.ntmps64
  go_wp2_with fail
  go_loopw [6, 7] (fun iv jv wr => ∃ (i j : Nat) (dk : Array Int), iv = .int .i64 i ∧ jv = .int .i64 j ∧ i ≤ j + 1 ∧ j < b ∧ Hid (SoG w blk off dk wr ∧ dk.size = N ∧ reverseLoop i j dk = reverseRange d a b)) (fun iv jv _ => (RowKit.intOf jv).toNat + 1 - (RowKit.intOf iv).toNat)
  case atStart => exact ⟨a, b - 1, d, rfl, by go_num, by omega, by omega, SoG.self HH.out, HN.out.symm, rfl⟩
  case round =>
    obtain ⟨i, j, dk, rfl, rfl, hij, hjb, HK⟩ := hrel
    have hdk := HK.out.2.1
    by_cases hlt : i < j
    · have d1 : decide ((i : Int) < (j : Int)) = true := decide_eq_true (by omega)
      have d1' : decide (i < j) = true := decide_eq_true hlt
      obtain ⟨c0, f0⟩ := HK.out.1.cell HH.out (hdk.trans HN.out) (j := i) (by have := HN.out; omega)
      obtain ⟨c1, f1⟩ := HK.out.1.cell HH.out (hdk.trans HN.out) (j := j) (by have := HN.out; omega)
      have HSW := Lib.hid (HK.out.1.swap HH.out (hdk.trans HN.out) (j := i) (k := j) (by omega) (by omega))
      have HE : Hid (reverseLoop (i + 1) (j - 1) (swp dk i j) = reverseRange d a b) := by
        unfold Hid; rw [← HK.out.2.2]; conv => rhs; unfold reverseLoop
        rw [if_pos hlt]
      have HZ : Hid ((swp dk i j).size = N) := by unfold Hid; rw [swp_sz]; exact hdk
      obtain ⟨x, hx⟩ : ∃ x, x = dk[i]! := ⟨_, rfl⟩
      obtain ⟨y, hy⟩ : ∃ y, y = dk[j]! := ⟨_, rfl⟩
      rw [← hx, ← hy] at HSW
      rw [← hx] at c0
      rw [← hy] at c1
      have hiN : (i : Int) < (N : Int) := by omega
      have hjN : (j : Int) < (N : Int) := by omega
      clear hx hy HK hdk
      go_wp2_with fail
      go_region
      go_wp2_with fail
      go_roundw
      case rel => exact ⟨i + 1, j - 1, _, by go_num, by go_num, by omega, by omega, HSW.out.drewN _, HZ.out, HE.out⟩
      case measure => simp [RowKit.intOf]; omega
    · have d1 : decide ((i : Int) < (j : Int)) = false := decide_eq_false (by omega)
      have d1' : decide (i < j) = false := decide_eq_false hlt
      have HE : Hid (dk = reverseRange d a b) := by unfold Hid; rw [← HK.out.2.2]; unfold reverseLoop; rw [if_neg hlt]
      go_wp2_with fail
      go_returns
      exact ⟨rfl, dk, HK.out.1, by rw [HE.out]; exact HR.out⟩
theorem sift_stop {hi first root : Nat} {d : Array Int} (h : hi ≤ 2 * root + 1) : siftDown ltInt hi first root d = d := by
  unfold siftDown; rw [dif_pos h]
theorem sift_left {hi first root : Nat} {d : Array Int} (h : 2 * root + 1 < hi) (hc : 2 * root + 1 + 1 < hi → ltInt d[first + (2 * root + 1)]! d[first + (2 * root + 1) + 1]! = false) :
    siftDown ltInt hi first root d = if ltInt d[first + root]! d[first + (2 * root + 1)]! = true then siftDown ltInt hi first (2 * root + 1) (swp d (first + root) (first + (2 * root + 1))) else d := by
  conv => lhs; unfold siftDown
  rw [dif_neg (by omega), if_neg]
  · cases ltInt d[first + root]! d[first + (2 * root + 1)]! <;> simp
  · intro hh
    rw [Bool.and_eq_true, decide_eq_true_eq] at hh
    have := hc hh.1
    rw [this] at hh
    exact absurd hh.2 (by simp)
theorem sift_right {hi first root : Nat} {d : Array Int} (h : 2 * root + 1 + 1 < hi) (hc : ltInt d[first + (2 * root + 1)]! d[first + (2 * root + 1) + 1]! = true) :
    siftDown ltInt hi first root d = if ltInt d[first + root]! d[first + (2 * root + 2)]! = true then siftDown ltInt hi first (2 * root + 2) (swp d (first + root) (first + (2 * root + 2))) else d := by
  conv => lhs; unfold siftDown
  rw [dif_neg (by omega), if_pos (by rw [Bool.and_eq_true, decide_eq_true_eq]; exact ⟨h, hc⟩), dif_pos (by omega)]
  cases ltInt d[first + root]! d[first + (2 * root + 2)]! <;> simp
end

section
open Go Go.RowKit Go.Lib Go.Sort
theorem holds_chg {w w' : World} {blk off sb : Nat} {d : Array Int} (hH : Holds uE w blk off d) (hc : Chg (One sb) w w') (hne : blk ≠ sb) : Holds uE w' blk off d := fun j hj => by
  obtain ⟨h1, h2⟩ := hH j hj
  obtain ⟨c, e, fr, hb, _⟩ := cells_of_cell? h1
  have h3 := hc.block blk (Array.getElem?_eq_some_iff.1 hb).1 hne
  constructor
  · rw [← h1]; unfold World.cell?; simp only [h3]
  · rw [← h2]; unfold World.frozen?; simp only [h3]
theorem holds_drewN {w : World} {blk off : Nat} {d : Array Int} (hH : Holds uE w blk off d) (q : Nat) : Holds uE (w.drewN q) blk off d := hH
set_option maxRecDepth 100000 in
set_option maxHeartbeats 2000000 in
theorem order2U_any (blk off cap a b sb n : Nat) (d : Array Int) (w : World) (hH : Holds uE w blk off d) (hne : blk ≠ sb) (hB : Blk w sb #[.int .i64 (n : Nat)] 3) (hn : n ≤ 100) (ha : a < d.size) (hb : b < d.size) (hsz : d.size ≤ 4194304) :
    Calls Try.prog 83 #[.slice (some ⟨blk, off, none⟩) d.size cap, .int .i64 (a : Nat), .int .i64 (b : Nat), .pointer (some ⟨sb, 0, none⟩)] w fun e w' =>
      ∃ p q : Nat, e = .returned (.tuple #[.int .i64 (p : Nat), .int .i64 (q : Nat)]) ∧ ((p = a ∧ q = b) ∨ (p = b ∧ q = a)) ∧ ∃ n' : Nat, n' ≤ n + 1 ∧ Blk w' sb #[.int .i64 (n' : Nat)] 3 ∧ Chg (One sb) w w' := by
  obtain ⟨c0, f0⟩ := hH a ha
  obtain ⟨c1, f1⟩ := hH b hb
  obtain ⟨x, hx⟩ : ∃ x, x = d[a]! := ⟨_, rfl⟩
  obtain ⟨y, hy⟩ : ∃ y, y = d[b]! := ⟨_, rfl⟩
  rw [← hx] at c0
  rw [← hy] at c1
  obtain ⟨q, hq⟩ : ∃ q, q = ltInt y x := ⟨_, rfl⟩
  have LXY : Hid (∀ w1, Calls Try.prog 66 #[.int .u32 y, .int .u32 x] w1 fun e w' => e = .returned (.bool q) ∧ w' = w1) := fun w1 => by rw [hq]; exact lessU_any y x w1
  obtain ⟨N, hN⟩ : ∃ N, N = d.size := ⟨_, rfl⟩
  rw [← hN] at ha hb hsz ⊢
  have haN : (a : Int) < (N : Int) := by omega
  have hbN : (b : Int) < (N : Int) := by omega
  have HB := Lib.hid hB
  clear hx hy hq hN hH hB
  go_enter Try.func83, Try.ntmps83
  go_wp2_with fail
  go_quiet (first | (go_at_call 66; exact Calls.quiet_of_same (LXY.out _)))
  obtain ⟨W, hW⟩ : ∃ W, W = w.drewN nq := ⟨_, rfl⟩
  have s0 : W.cell? ⟨sb, 0, none⟩ = some (.int .i64 (n : Nat)) := by rw [hW]; have := HB.out.cell 0; simpa using this
  have s1 : W.frozen? ⟨sb, 0, none⟩ = false := by rw [hW]; exact HB.out.free 0
  have HBW : Hid (Blk W sb #[.int .i64 (n : Nat)] 3) := by unfold Hid; rw [hW]; exact HB.out
  have HCW : Hid (Chg (One sb) w W) := by unfold Hid; rw [hW]; exact Chg.of_below (below_drewN (Below.refl _ _) nq)
  rw [← hW]
  clear hW HB LXY c0 c1 f0 f1
  cases q with
  | true =>
    go_wp2_with fail
    go_ret2
    refine ⟨b, a, rfl, .inr ⟨rfl, rfl⟩, n + 1, Nat.le_refl _, ?_, HCW.out.trans (Chg.setCell 0 _ rfl)⟩
    have := HBW.out.set 0 (.int .i64 ((n + 1 : Nat) : Int))
    simpa using this
  | false =>
    go_wp2_with fail
    go_ret2
    exact ⟨a, b, rfl, .inl ⟨rfl, rfl⟩, n, by omega, HBW.out, HCW.out⟩
set_option maxRecDepth 100000 in
set_option maxHeartbeats 2000000 in
theorem medianU_any (blk off cap a b c sb n : Nat) (d : Array Int) (w : World) (hH : Holds uE w blk off d) (hne : blk ≠ sb) (hB : Blk w sb #[.int .i64 (n : Nat)] 3) (hn : n ≤ 90) (ha : a < d.size) (hb : b < d.size) (hc : c < d.size) (hsz : d.size ≤ 4194304) :
    Calls Try.prog 79 #[.slice (some ⟨blk, off, none⟩) d.size cap, .int .i64 (a : Nat), .int .i64 (b : Nat), .int .i64 (c : Nat), .pointer (some ⟨sb, 0, none⟩)] w fun e w' =>
      ∃ p : Nat, e = .returned (.int .i64 (p : Nat)) ∧ (p = a ∨ p = b ∨ p = c) ∧ ∃ n' : Nat, n' ≤ n + 3 ∧ Blk w' sb #[.int .i64 (n' : Nat)] 3 ∧ Chg (One sb) w w' := by
  have O2 : Hid (∀ (a b n : Nat) (w : World), Holds uE w blk off d → Blk w sb #[.int .i64 (n : Nat)] 3 → n ≤ 100 → a < d.size → b < d.size → Calls Try.prog 83 #[.slice (some ⟨blk, off, none⟩) d.size cap, .int .i64 (a : Nat), .int .i64 (b : Nat), .pointer (some ⟨sb, 0, none⟩)] w fun e w' =>
      ∃ p q : Nat, e = .returned (.tuple #[.int .i64 (p : Nat), .int .i64 (q : Nat)]) ∧ ((p = a ∧ q = b) ∨ (p = b ∧ q = a)) ∧ ∃ n' : Nat, n' ≤ n + 1 ∧ Blk w' sb #[.int .i64 (n' : Nat)] 3 ∧ Chg (One sb) w w') := fun a b n w h1 h2 h3 h4 h5 => order2U_any blk off cap a b sb n d w h1 hne h2 h3 h4 h5 hsz
  have HH := Lib.hid hH
  have HB := Lib.hid hB
  obtain ⟨N, hN⟩ : ∃ N, N = d.size := ⟨_, rfl⟩
  rw [← hN] at ha hb hc hsz O2 ⊢
  clear hH hB hN
  go_enter Try.func79, Try.ntmps79
  go_wp2_with fail
  refine (O2.out a b n w HH.out HB.out (by omega) ha hb).mono ?_
  rintro e w1 ⟨p1, q1, rfl, h1, n1, hn1, B1, C1⟩
  have HH1 := Lib.hid (holds_chg HH.out C1 hne)
  have HB1 := Lib.hid B1
  have HC1 := Lib.hid C1
  have hp1 : p1 < N := by rcases h1 with ⟨h, _⟩ | ⟨h, _⟩ <;> omega
  have hq1 : q1 < N := by rcases h1 with ⟨_, h⟩ | ⟨_, h⟩ <;> omega
  clear B1 C1 HB HH
  go_wp2_with fail
  refine (O2.out q1 c n1 w1 HH1.out HB1.out (by omega) hq1 hc).mono ?_
  rintro e w2 ⟨p2, q2, rfl, h2, n2, hn2, B2, C2⟩
  have HH2 := Lib.hid (holds_chg HH1.out C2 hne)
  have HB2 := Lib.hid B2
  have HC2 := Lib.hid (HC1.out.trans C2)
  have hp2 : p2 < N := by rcases h2 with ⟨h, _⟩ | ⟨h, _⟩ <;> omega
  clear B2 C2 HB1 HH1 HC1
  go_wp2_with fail
  refine (O2.out p1 p2 n2 w2 HH2.out HB2.out (by omega) hp1 hp2).mono ?_
  rintro e w3 ⟨p3, q3, rfl, h3, n3, hn3, B3, C3⟩
  have HB3 := Lib.hid B3
  have HC3 := Lib.hid (HC2.out.trans C3)
  clear B3 C3 HB2 HH2 HC2
  go_wp2_with fail
  go_ret
  exact ⟨q3, rfl, by omega, n3, by omega, HB3.out, HC3.out⟩
set_option maxRecDepth 100000 in
set_option maxHeartbeats 2000000 in
theorem medianAdjU_any (blk off cap a sb n : Nat) (d : Array Int) (w : World) (hH : Holds uE w blk off d) (hne : blk ≠ sb) (hB : Blk w sb #[.int .i64 (n : Nat)] 3) (hn : n ≤ 90) (ha : 1 ≤ a) (hb : a + 1 < d.size) (hsz : d.size ≤ 4194304) :
    Calls Try.prog 78 #[.slice (some ⟨blk, off, none⟩) d.size cap, .int .i64 (a : Nat), .pointer (some ⟨sb, 0, none⟩)] w fun e w' =>
      ∃ p : Nat, e = .returned (.int .i64 (p : Nat)) ∧ (p = a - 1 ∨ p = a ∨ p = a + 1) ∧ ∃ n' : Nat, n' ≤ n + 3 ∧ Blk w' sb #[.int .i64 (n' : Nat)] 3 ∧ Chg (One sb) w w' := by
  have MD := Lib.hid (medianU_any blk off cap (a - 1) a (a + 1) sb n d w hH hne hB hn (by omega) (by omega) (by omega) hsz)
  obtain ⟨s, hs⟩ : ∃ s, s = a - 1 := ⟨_, rfl⟩
  rw [← hs] at MD ⊢
  have hsi : (a : Int) - 1 = (s : Int) := by omega
  obtain ⟨t, ht⟩ : ∃ s, s = a + 1 := ⟨_, rfl⟩
  rw [← ht] at MD hb ⊢
  have hti : (a : Int) + 1 = (t : Int) := by omega
  obtain ⟨N, hN⟩ : ∃ N, N = d.size := ⟨_, rfl⟩
  rw [← hN] at MD hsz hb ⊢
  have htb : (t : Int) ≤ 4194304 := by omega
  clear hH hB hN hs ht
  go_enter Try.func78, Try.ntmps78
  go_wp2_with fail
  refine MD.out.mono ?_
  rintro e w1 ⟨p, rfl, hp, n1, hn1, B1, C1⟩
  have HB1 := Lib.hid B1
  have HC1 := Lib.hid C1
  clear B1 C1 MD
  go_wp2_with fail
  go_ret
  exact ⟨p, rfl, hp, n1, hn1, HB1.out, HC1.out⟩
set_option maxRecDepth 100000 in
set_option maxHeartbeats 2000000 in
theorem pivotU_any (blk off cap a b : Nat) (d : Array Int) (w : World) (hH : Holds uE w blk off d) (hblk : blk < w.heap.size) (hab : a + 12 < b) (hb : b ≤ d.size) (hsz : d.size ≤ 4194304) :
    Calls Try.prog 63 #[.slice (some ⟨blk, off, none⟩) d.size cap, .int .i64 (a : Nat), .int .i64 (b : Nat)] w fun e w' =>
      ∃ p h : Nat, e = .returned (.tuple #[.int .i64 (p : Nat), .int .i64 (h : Nat)]) ∧ a ≤ p ∧ p < b ∧ h ≤ 2 ∧ Below w.heap.size w w' := by
  obtain ⟨g, hg⟩ : ∃ g, g = w.heap.size := ⟨_, rfl⟩
  have hne : blk ≠ g := by omega
  obtain ⟨X, hX⟩ : ∃ X, X = w.alloc (.cells #[.int .i64 ((0 : Nat) : Int)] 3) := ⟨_, rfl⟩
  have HBX : Hid (Blk X g #[.int .i64 ((0 : Nat) : Int)] 3) := by unfold Hid; rw [hX, hg]; exact Blk.new w _ _
  have HWX : Hid (Below w.heap.size w X) := by unfold Hid; rw [hX]; exact (Below.refl _ _).alloc (Nat.le_refl _) _
  have HHX : Hid (Holds uE X blk off d) := fun j hj => by
    obtain ⟨h1, h2⟩ := hH j hj
    obtain ⟨c, e, fr, hbk, _⟩ := cells_of_cell? h1
    have h3 := HWX.out.block blk hblk
    constructor
    · rw [← h1]; unfold World.cell?; simp only [h3]
    · rw [← h2]; unfold World.frozen?; simp only [h3]
  have HEND : Hid (∀ w2, Chg (One g) X w2 → Below w.heap.size w w2) := fun w2 h => HWX.out.trans (h.to_below HWX.out.size (fun k hk e => by have : k = g := e; omega))
  have MD : Hid (∀ (a b c n : Nat) (w : World), Holds uE w blk off d → Blk w g #[.int .i64 (n : Nat)] 3 → n ≤ 90 → a < d.size → b < d.size → c < d.size → Calls Try.prog 79 #[.slice (some ⟨blk, off, none⟩) d.size cap, .int .i64 (a : Nat), .int .i64 (b : Nat), .int .i64 (c : Nat), .pointer (some ⟨g, 0, none⟩)] w fun e w' =>
      ∃ p : Nat, e = .returned (.int .i64 (p : Nat)) ∧ (p = a ∨ p = b ∨ p = c) ∧ ∃ n' : Nat, n' ≤ n + 3 ∧ Blk w' g #[.int .i64 (n' : Nat)] 3 ∧ Chg (One g) w w') := fun a b c n w h1 h2 h3 h4 h5 h6 => medianU_any blk off cap a b c g n d w h1 hne h2 h3 h4 h5 h6 hsz
  have MA : Hid (∀ (a n : Nat) (w : World), Holds uE w blk off d → Blk w g #[.int .i64 (n : Nat)] 3 → n ≤ 90 → 1 ≤ a → a + 1 < d.size → Calls Try.prog 78 #[.slice (some ⟨blk, off, none⟩) d.size cap, .int .i64 (a : Nat), .pointer (some ⟨g, 0, none⟩)] w fun e w' =>
      ∃ p : Nat, e = .returned (.int .i64 (p : Nat)) ∧ (p = a - 1 ∨ p = a ∨ p = a + 1) ∧ ∃ n' : Nat, n' ≤ n + 3 ∧ Blk w' g #[.int .i64 (n' : Nat)] 3 ∧ Chg (One g) w w') := fun a n w h1 h2 h3 h4 h5 => medianAdjU_any blk off cap a g n d w h1 hne h2 h3 h4 h5 hsz
  obtain ⟨N, hN⟩ : ∃ N, N = d.size := ⟨_, rfl⟩
  rw [← hN] at hb hsz MD MA ⊢
  obtain ⟨l, hl⟩ : ∃ l, l = b - a := ⟨_, rfl⟩
  have hli : (b : Int) - (a : Int) = (l : Int) := by omega
  obtain ⟨q, hq⟩ : ∃ q, q = l / 4 := ⟨_, rfl⟩
  have hqi : (l : Int) / 4 = (q : Int) := by omega
  have hqt : Int.tdiv (l : Int) 4 = (q : Int) := by rw [Int.tdiv_eq_ediv_of_nonneg (by omega)]; omega
  obtain ⟨i, hi⟩ : ∃ i, i = a + q := ⟨_, rfl⟩
  obtain ⟨j, hj⟩ : ∃ i, i = a + q * 2 := ⟨_, rfl⟩
  obtain ⟨k, hk⟩ : ∃ i, i = a + q * 3 := ⟨_, rfl⟩
  have hii : (a : Int) + (q : Int) * 1 = (i : Int) := by omega
  have hii' : (a : Int) + (q : Int) = (i : Int) := by omega
  have hji : (a : Int) + (q : Int) * 2 = (j : Int) := by omega
  have hki : (a : Int) + (q : Int) * 3 = (k : Int) := by omega
  have b1 : a + 1 ≤ i := by omega
  have b2 : i < j := by omega
  have b3 : j < k := by omega
  have b4 : k + 1 < b := by omega
  have hlb : 12 < l := by omega
  have hlu : l ≤ 4194304 := by omega
  have d8 : decide ((l : Int) ≥ 8) = true := decide_eq_true (by omega)
  have d8' : decide (8 ≤ (l : Int)) = true := decide_eq_true (by omega)
  have d8'' : decide (8 ≤ l) = true := decide_eq_true (by omega)
  clear hH hN hl hq hi hj hk
  go_enter Try.func63, Try.ntmps63
  go_upto_region 3 with fail
  rw [← hg]
  have hX' : w.alloc (.cells #[.int .i64 0] 3) = X := by rw [hX]; rfl
  rw [hX']
  clear hX hX' hg
  by_cases hl50 : l < 50
  · have d50 : decide ((l : Int) ≥ 50) = false := decide_eq_false (by omega)
    have d50' : decide (50 ≤ (l : Int)) = false := decide_eq_false (by omega)
    have d50'' : decide (50 ≤ l) = false := decide_eq_false (by omega)
    go_wp2_with fail
    refine (MD.out i j k 0 X HHX.out HBX.out (by omega) (by omega) (by omega) (by omega)).mono ?_
    rintro e w1 ⟨p, rfl, hp, n1, hn1, B1, C1⟩
    have hpa : a ≤ p ∧ p < b := by omega
    have HBE := Lib.hid (HEND.out w1 C1)
    have s0 : w1.cell? ⟨g, 0, none⟩ = some (.int .i64 (n1 : Nat)) := by have := B1.cell 0; simpa using this
    clear hp B1 C1
    by_cases z0 : n1 = 0
    · have t0 : ((n1 : Int) == 0) = true := by simp; exact z0
      have t0' : (n1 == 0) = true := by simp; exact z0
      have Z0 := Lib.hid z0
      clear z0
      go_wp2_with fail
      go_ret2
      exact ⟨p, 1, rfl, hpa.1, hpa.2, by omega, HBE.out⟩
    · have t0 : ((n1 : Int) == 0) = false := by simp; omega
      have t0' : (n1 == 0) = false := by simp; omega
      by_cases z1 : n1 = 12
      · have t1 : ((n1 : Int) == 12) = true := by simp; omega
        have t1' : (n1 == 12) = true := by simp; omega
        have Z0 := Lib.hid z1
        clear z1
        go_wp2_with fail
        go_ret2
        exact ⟨p, 2, rfl, hpa.1, hpa.2, by omega, HBE.out⟩
      · have t1 : ((n1 : Int) == 12) = false := by simp; omega
        have t1' : (n1 == 12) = false := by simp; omega
        go_wp2_with fail
        go_ret2
        exact ⟨p, 0, rfl, hpa.1, hpa.2, by omega, HBE.out⟩
  · have d50 : decide ((l : Int) ≥ 50) = true := decide_eq_true (by omega)
    have d50' : decide (50 ≤ (l : Int)) = true := decide_eq_true (by omega)
    have d50'' : decide (50 ≤ l) = true := decide_eq_true (by omega)
    go_wp2_with fail
    refine (MA.out i 0 X HHX.out HBX.out (by omega) (by omega) (by omega)).mono ?_
    rintro e w1 ⟨pi, rfl, hpi, n1, hn1, B1, C1⟩
    have H1 := Lib.hid (holds_chg HHX.out C1 hne)
    have HB1 := Lib.hid B1
    have HC1 := Lib.hid C1
    clear B1 C1
    go_wp2_with fail
    refine (MA.out j n1 w1 H1.out HB1.out (by omega) (by omega) (by omega)).mono ?_
    rintro e w2 ⟨pj, rfl, hpj, n2, hn2, B2, C2⟩
    have H2 := Lib.hid (holds_chg H1.out C2 hne)
    have HB2 := Lib.hid B2
    have HC2 := Lib.hid (HC1.out.trans C2)
    clear B2 C2 H1 HB1 HC1
    go_wp2_with fail
    refine (MA.out k n2 w2 H2.out HB2.out (by omega) (by omega) (by omega)).mono ?_
    rintro e w3 ⟨pk, rfl, hpk, n3, hn3, B3, C3⟩
    have H3 := Lib.hid (holds_chg H2.out C3 hne)
    have HB3 := Lib.hid B3
    have HC3 := Lib.hid (HC2.out.trans C3)
    clear B3 C3 H2 HB2 HC2
    have e1 : a ≤ pi ∧ pi < b := by omega
    have e2 : a ≤ pj ∧ pj < b := by omega
    have e3 : a ≤ pk ∧ pk < b := by omega
    clear hpi hpj hpk
    go_wp2_with fail
    refine (MD.out pi pj pk n3 w3 H3.out HB3.out (by omega) (by omega) (by omega) (by omega)).mono ?_
    rintro e w4 ⟨p, rfl, hp, n4, hn4, B4, C4'⟩
    have C4 := HC3.out.trans C4'
    clear C4'
    have hpa : a ≤ p ∧ p < b := by omega
    have HBE := Lib.hid (HEND.out w4 C4)
    have s0 : w4.cell? ⟨g, 0, none⟩ = some (.int .i64 (n4 : Nat)) := by have := B4.cell 0; simpa using this
    clear hp B4 C4
    by_cases z0 : n4 = 0
    · have t0 : ((n4 : Int) == 0) = true := by simp; exact z0
      have t0' : (n4 == 0) = true := by simp; exact z0
      have Z0 := Lib.hid z0
      clear z0
      go_wp2_with fail
      go_ret2
      exact ⟨p, 1, rfl, hpa.1, hpa.2, by omega, HBE.out⟩
    · have t0 : ((n4 : Int) == 0) = false := by simp; omega
      have t0' : (n4 == 0) = false := by simp; omega
      by_cases z1 : n4 = 12
      · have t1 : ((n4 : Int) == 12) = true := by simp; omega
        have t1' : (n4 == 12) = true := by simp; omega
        have Z0 := Lib.hid z1
        clear z1
        go_wp2_with fail
        go_ret2
        exact ⟨p, 2, rfl, hpa.1, hpa.2, by omega, HBE.out⟩
      · have t1 : ((n4 : Int) == 12) = false := by simp; omega
        have t1' : (n4 == 12) = false := by simp; omega
        go_wp2_with fail
        go_ret2
        exact ⟨p, 0, rfl, hpa.1, hpa.2, by omega, HBE.out⟩
end

section
open Go Go.RowKit Go.Lib Go.Sort
theorem xor_nat (a b : Int) : ∃ n : Nat, bits .xor .u64 a b = (n : Int) ∧ n < 18446744073709551616 := by
  obtain ⟨z, hz⟩ : ∃ z, bits .xor .u64 a b = IntKind.u64.wrap z := ⟨_, rfl⟩
  rw [hz, IntKind.wrap_u64]
  exact ⟨(z % 18446744073709551616).toNat, by omega, by omega⟩
set_option maxRecDepth 100000 in
set_option maxHeartbeats 2000000 in
theorem nextX_any (rb r : Nat) (w : World) (hB : Blk w rb #[.int .u64 (r : Nat)] 104) (hr : r < 18446744073709551616) :
    Calls Try.prog 77 #[.pointer (some ⟨rb, 0, none⟩)] w fun e w' =>
      ∃ x : Nat, e = .returned (.int .u64 (x : Nat)) ∧ x < 18446744073709551616 ∧ Blk w' rb #[.int .u64 (x : Nat)] 104 ∧ Chg (One rb) w w' := by
  have s0 : w.cell? ⟨rb, 0, none⟩ = some (.int .u64 (r : Nat)) := by have := hB.cell 0; simpa using this
  have s1 : w.frozen? ⟨rb, 0, none⟩ = false := hB.free 0
  have HB := Lib.hid hB
  clear hB
  go_enter Try.func77, Try.ntmps77
  go_wp2_with fail
  obtain ⟨n1, e1, l1⟩ := xor_nat (r : Int) (IntKind.u64.wrap ((r : Int) * 8192))
  obtain ⟨n2, e2, l2⟩ := xor_nat (n1 : Int) ((n1 : Int) / 128)
  obtain ⟨n3, e3, l3⟩ := xor_nat (n2 : Int) (IntKind.u64.wrap ((n2 : Int) * 131072))
  have E1 := Lib.hid e1
  have E2 := Lib.hid e2
  have E3 := Lib.hid e3
  clear e1 e2 e3
  go_region
  rw [E1.out]
  obtain ⟨W1, hW1⟩ : ∃ W, W = (w.setCell ⟨rb, 0, none⟩ (.int .u64 (n1 : Nat))).drew := ⟨_, rfl⟩
  have B1 : Hid (Blk W1 rb #[.int .u64 (n1 : Nat)] 104) := by
    unfold Hid; rw [hW1]; have := HB.out.set 0 (.int .u64 (n1 : Nat)); exact Blk.drew (by simpa using this)
  have C1 : Hid (Chg (One rb) w W1) := by
    unfold Hid; rw [hW1]; exact (Chg.setCell 0 _ rfl : Chg (One rb) w _).trans (Chg.of_below ((Below.refl _ _).drew))
  rw [← hW1]
  have s0 : W1.cell? ⟨rb, 0, none⟩ = some (.int .u64 (n1 : Nat)) := by have := B1.out.cell 0; simpa using this
  have s1 : W1.frozen? ⟨rb, 0, none⟩ = false := B1.out.free 0
  clear hW1
  clear HB E1
  go_wp2_with fail
  go_region
  rw [E2.out]
  obtain ⟨W2, hW2⟩ : ∃ W, W = (W1.setCell ⟨rb, 0, none⟩ (.int .u64 (n2 : Nat))).drew := ⟨_, rfl⟩
  have B2 : Hid (Blk W2 rb #[.int .u64 (n2 : Nat)] 104) := by
    unfold Hid; rw [hW2]; have := B1.out.set 0 (.int .u64 (n2 : Nat)); exact Blk.drew (by simpa using this)
  have C2 : Hid (Chg (One rb) w W2) := by
    unfold Hid; rw [hW2]; exact C1.out.trans ((Chg.setCell 0 _ rfl : Chg (One rb) W1 _).trans (Chg.of_below ((Below.refl _ _).drew)))
  rw [← hW2]
  have s0 : W2.cell? ⟨rb, 0, none⟩ = some (.int .u64 (n2 : Nat)) := by have := B2.out.cell 0; simpa using this
  have s1 : W2.frozen? ⟨rb, 0, none⟩ = false := B2.out.free 0
  clear hW2
  clear B1 C1 E2
  go_wp2_with fail
  go_region
  rw [E3.out]
  obtain ⟨W3, hW3⟩ : ∃ W, W = (W2.setCell ⟨rb, 0, none⟩ (.int .u64 (n3 : Nat))).drew := ⟨_, rfl⟩
  have B3 : Hid (Blk W3 rb #[.int .u64 (n3 : Nat)] 104) := by
    unfold Hid; rw [hW3]; have := B2.out.set 0 (.int .u64 (n3 : Nat)); exact Blk.drew (by simpa using this)
  have C3 : Hid (Chg (One rb) w W3) := by
    unfold Hid; rw [hW3]; exact C2.out.trans ((Chg.setCell 0 _ rfl : Chg (One rb) W2 _).trans (Chg.of_below ((Below.refl _ _).drew)))
  rw [← hW3]
  have s0 : W3.cell? ⟨rb, 0, none⟩ = some (.int .u64 (n3 : Nat)) := by have := B3.out.cell 0; simpa using this
  have s1 : W3.frozen? ⟨rb, 0, none⟩ = false := B3.out.free 0
  clear hW3
  clear B2 C2 E3
  go_wp2_with fail
  go_ret
  exact ⟨n3, rfl, l3, B3.out, C3.out⟩
theorem bl_pow : ∀ n : Nat, n ≠ 0 → n < 2 ^ 64 → n < 2 ^ Lib.bitLen n ∧ 2 ^ Lib.bitLen n ≤ 2 * n := by
  intro n
  induction n using Nat.strongRecOn with
  | ind n ih =>
    intro h0 h
    rw [Lib.bitLen_half n h0 h]
    by_cases h1 : n / 2 = 0
    · rw [h1]
      have : n = 1 := by omega
      subst this
      decide
    · obtain ⟨a, b⟩ := ih (n / 2) (by omega) h1 (by omega)
      rw [Nat.add_comm, Nat.pow_succ]
      omega
set_option maxRecDepth 100000 in
theorem npowU_any (n : Nat) (w : World) (h0 : n ≠ 0) (h : n ≤ 4194304) :
    Calls Try.prog 76 #[.int .i64 (n : Nat)] w fun e w' => (∃ m k : Nat, e = .returned (.int .u64 (m : Nat)) ∧ m = 2 ^ k ∧ n < m ∧ m ≤ 2 * n) ∧ w' = w := by
  have BL := Lib.hid (Try.bits_Len (n : Int) w (by omega) (by omega))
  obtain ⟨p1, p2⟩ := bl_pow n h0 (by omega)
  have e0 : ((n : Int)).toNat = n := by omega
  obtain ⟨k, hk⟩ : ∃ k, k = Lib.bitLen n := ⟨_, rfl⟩
  rw [e0, ← hk] at BL
  rw [← hk] at p1 p2
  have hk23 : k ≤ 23 := by
    rcases Nat.lt_or_ge 23 k with h | h
    · have := Nat.pow_le_pow_right (n := 2) (by omega) h
      omega
    · exact h
  have hcv : IntKind.u64.wrap (n : Int) = (n : Int) := by rw [IntKind.wrap_u64]; omega
  obtain ⟨m, hm⟩ : ∃ m, m = 2 ^ k := ⟨_, rfl⟩
  have HM := Lib.hid hm
  have hmi : IntKind.u64.wrap ((2 : Int) ^ k) = (m : Int) := by
    have e : ((2 : Int) ^ k) = ((2 ^ k : Nat) : Int) := by simp
    rw [e, ← hm, IntKind.wrap_u64]; omega
  rw [← hm] at p1 p2
  clear hk hm e0
  go_enter Try.func76, Try.ntmps76
  go_wp2_with fail
  refine BL.out.mono ?_; rintro e w1 ⟨rfl, hw⟩
  subst hw
  go_wp2_with fail
  go_ret
  exact ⟨⟨m, k, rfl, HM.out, p1, p2⟩, rfl⟩
theorem low_bits {r m k : Nat} (hm : m = 2 ^ k) (hr : r < 18446744073709551616) (hm2 : m < 18446744073709551616) (h1 : 1 ≤ m) : ∃ x : Nat, bits .and .u64 (r : Int) ((m : Int) - 1) = (x : Int) ∧ x < m := by
  have e : ((m : Int) - 1) = ((m - 1 : Nat) : Int) := by omega
  refine ⟨r &&& (m - 1), ?_, ?_⟩
  · rw [e]
    show IntKind.u64.wrap ((BitVec.ofInt 64 (r : Int) &&& BitVec.ofInt 64 ((m - 1 : Nat) : Int)).toNat : Int) = _
    rw [BitVec.toNat_and, BitVec.ofInt_natCast, BitVec.ofInt_natCast, BitVec.toNat_ofNat, BitVec.toNat_ofNat, Nat.mod_eq_of_lt (by omega), Nat.mod_eq_of_lt (by omega), IntKind.wrap_u64]
    have : r &&& (m - 1) ≤ m - 1 := Nat.and_le_right
    omega
  · have : r &&& (m - 1) ≤ m - 1 := Nat.and_le_right
    omega
set_option maxRecDepth 100000 in
set_option maxHeartbeats 4000000 in
theorem breakU_any (blk off cap a b : Nat) (d : Array Int) (w : World) (hH : Holds uE w blk off d) (hblk : blk < w.heap.size) (hab : a + 12 < b) (hb : b ≤ d.size) (hsz : d.size ≤ 4194304) :
    Calls Try.prog 62 #[.slice (some ⟨blk, off, none⟩) d.size cap, .int .i64 (a : Nat), .int .i64 (b : Nat)] w fun e w' =>
      e = .returned (.tuple #[]) ∧ ∃ d', SoG w blk off d' w' ∧ PermIn a b d d' := by
  have HH := Lib.hid hH
  obtain ⟨g, hg⟩ : ∃ g, g = w.heap.size := ⟨_, rfl⟩
  have hne : blk ≠ g := by omega
  obtain ⟨N, hN⟩ : ∃ N, N = d.size := ⟨_, rfl⟩
  have HN := Lib.hid hN
  obtain ⟨l, hl⟩ : ∃ l, l = b - a := ⟨_, rfl⟩
  have hli : (b : Int) - (a : Int) = (l : Int) := by omega
  obtain ⟨q, hq⟩ : ∃ q, q = l / 4 := ⟨_, rfl⟩
  have hqi : (l : Int) / 4 = (q : Int) := by omega
  have hqt : Int.tdiv (l : Int) 4 = (q : Int) := by rw [Int.tdiv_eq_ediv_of_nonneg (by omega)]; omega
  obtain ⟨i0, hi0⟩ : ∃ i, i = a + q * 2 - 1 := ⟨_, rfl⟩
  have hi0i : (a : Int) + (q : Int) * 2 - 1 = (i0 : Int) := by omega
  obtain ⟨T, hT⟩ : ∃ T, T = i0 + 2 := ⟨_, rfl⟩
  have hii : (a : Int) + (q : Int) * 2 + 1 = (T : Int) := by omega
  have hia : a ≤ i0 := by omega
  have hib : i0 + 2 < b := by omega
  have hlb : 12 < l := by omega
  have hlu : l ≤ 4194304 := by omega
  have hal : a + l = b := by omega
  have d8 : decide ((l : Int) ≥ 8) = true := decide_eq_true (by omega)
  have d8' : decide (8 ≤ (l : Int)) = true := decide_eq_true (by omega)
  have d8'' : decide (8 ≤ l) = true := decide_eq_true (by omega)
  have hcv : IntKind.u64.wrap (l : Int) = (l : Int) := by rw [IntKind.wrap_u64]; omega
  obtain ⟨X, hX⟩ : ∃ X, X = w.alloc (.cells #[.int .u64 (l : Nat)] 104) := ⟨_, rfl⟩
  have HBX : Hid (Blk X g #[.int .u64 (l : Nat)] 104) := by unfold Hid; rw [hX, hg]; exact Blk.new w _ _
  have HWX : Hid (Below w.heap.size w X) := by unfold Hid; rw [hX]; exact (Below.refl _ _).alloc (Nat.le_refl _) _
  have HSX : Hid (SoG w blk off d X) := (SoG.self HH.out).below HWX.out
  have NP := Lib.hid (npowU_any l X (by omega) hlu)
  have HASD : Hid (∀ dk w1 w2, SoG w blk off dk w1 → Chg (One g) w1 w2 → SoG w blk off dk w2) := fun dk w1 w2 h1 h2 => h1.aside h2 (by omega) hblk
  rw [← hN] at hb hsz ⊢
  clear hH hN hl hq hi0 HWX
  go_enter Try.func62, Try.ntmps62
  go_upto_region 3 with fail
  rw [← hg, ← hX]
  clear hX hg
  go_wp2_with fail
  refine NP.out.mono ?_; rintro e w1 ⟨⟨m, k, rfl, hm, hm1, hm2⟩, hw⟩
  replace hw := hw.symm; subst hw
  have HM := Lib.hid hm
  clear hm NP d8 d8' d8'' hcv
  go_wp2_with fail
  clear hi0i
  go_loopw [9] (fun iv wr => ∃ (I x : Nat) (dk : Array Int), iv = .int .i64 (I : Nat) ∧ i0 ≤ I ∧ I ≤ i0 + 3 ∧ x < 18446744073709551616 ∧ Hid (SoG w blk off dk wr ∧ PermIn a b d dk ∧ Blk wr g #[.int .u64 (x : Nat)] 104)) (fun iv _ => i0 + 3 - (RowKit.intOf iv).toNat)
  case atStart => exact ⟨i0, l, d, by go_num, Nat.le_refl _, by omega, by omega, HSX.out, permIn_refl _ _ _, HBX.out⟩
  case round =>
    obtain ⟨I, x, dk, rfl, hI1, hI2, hx, HK⟩ := hrel
    have hdk : dk.size = N := by rw [HN.out]; exact HK.out.2.1.1
    by_cases hlt : I ≤ T
    · have d1 : decide ((I : Int) ≤ (T : Int)) = true := decide_eq_true (by omega)
      have d1' : decide (I ≤ T) = true := decide_eq_true hlt
      have NX := Lib.hid (nextX_any g x wr HK.out.2.2 hx)
      have HG := Lib.hid HK.out.1
      have HP := Lib.hid HK.out.2.1
      clear HK
      go_wp2_with fail
      refine NX.out.mono ?_; rintro e w2 ⟨y, rfl, hy, B2, C2⟩
      have HG2 := Lib.hid (HASD.out _ _ _ HG.out C2)
      have HB2 := Lib.hid B2
      obtain ⟨o, ho, hom⟩ := low_bits HM.out hy (by omega) (by omega)
      clear B2 C2 NX HG
      have hIN : (I : Int) < (N : Int) := by omega
      have hIv : IntKind.i64.wrap (I : Int) = (I : Int) := by rw [IntKind.wrap_i64]; omega
      obtain ⟨c0, f0⟩ := HG2.out.cell HH.out (hdk.trans HN.out) (j := I) (by have := HN.out; omega)
      by_cases hol : l ≤ o
      · have d2 : decide ((o : Int) ≥ (l : Int)) = true := decide_eq_true (by omega)
        have d2' : decide ((l : Int) ≤ (o : Int)) = true := decide_eq_true (by omega)
        have d2'' : decide (l ≤ o) = true := decide_eq_true hol
        obtain ⟨o', ho'⟩ : ∃ o', o' = o - l := ⟨_, rfl⟩
        have hoi : (o : Int) - (l : Int) = (o' : Int) := by omega
        have hol' : o' < l := by omega
        have hou : o ≤ 8388608 := by omega
        clear ho'
        obtain ⟨J, hJ⟩ : ∃ J, J = a + o' := ⟨_, rfl⟩
        have hJi : (a : Int) + (o' : Int) = (J : Int) := by omega
        have hJw : IntKind.i64.wrap ((a : Int) + (o' : Int)) = (J : Int) := by rw [IntKind.wrap_i64]; omega
        have hJv : IntKind.i64.wrap (J : Int) = (J : Int) := by rw [IntKind.wrap_i64]; omega
        have hJN : (J : Int) < (N : Int) := by omega
        have hJ1 : a ≤ J := by omega
        have hJ2 : J < b := by omega
        have hob : (o' : Int) ≤ 4194304 := by omega
        obtain ⟨c1, f1⟩ := HG2.out.cell HH.out (hdk.trans HN.out) (j := J) (by have := HN.out; omega)
        obtain ⟨z, cz, fz⟩ := set_cell (HG2.out.holds HH.out (hdk.trans HN.out)) (i := I) (k := J) (by omega) (by omega) dk[J]!
        have HS := Lib.hid (HG2.out.swap HH.out (hdk.trans HN.out) (j := I) (k := J) (by omega) (by omega))
        have HP2 : Hid (PermIn a b d (swp dk I J)) := permIn_trans _ _ _ _ _ HP.out (swp_permIn dk a b I J (by omega) (by omega) (by omega) (by omega) (by omega))
        have HB3 : Hid (∀ u v, Blk ((w2.setCell ⟨blk, off + I, none⟩ u).setCell ⟨blk, off + J, none⟩ v) g #[.int .u64 (y : Nat)] 104) := fun u v => (HB2.out.other (fun e => hne e.symm) u).other (fun e => hne e.symm) v
        obtain ⟨u, hu⟩ : ∃ x, x = dk[I]! := ⟨_, rfl⟩
        obtain ⟨v, hv⟩ : ∃ y, y = dk[J]! := ⟨_, rfl⟩
        rw [← hu, ← hv] at HS
        rw [← hu] at c0
        rw [← hv] at c1
        rw [← hv] at cz fz
        clear hu hv hJ hdk HP HB2 HG2
        go_wp2_with fail
        go_region
        go_wp2_with fail
        go_roundw
        case rel => exact ⟨I + 1, y, _, by go_num, by omega, by omega, hy, HS.out.drewN _, HP2.out, (HB3.out _ _).kept (below_drewN (Below.refl _ _) _)⟩
        case measure => simp [RowKit.intOf]; omega
      · have d2 : decide ((o : Int) ≥ (l : Int)) = false := decide_eq_false (by omega)
        have d2' : decide ((l : Int) ≤ (o : Int)) = false := decide_eq_false (by omega)
        have d2'' : decide (l ≤ o) = false := decide_eq_false hol
        have hol' : o < l := by omega
        obtain ⟨J, hJ⟩ : ∃ J, J = a + o := ⟨_, rfl⟩
        have hJi : (a : Int) + (o : Int) = (J : Int) := by omega
        have hJw : IntKind.i64.wrap ((a : Int) + (o : Int)) = (J : Int) := by rw [IntKind.wrap_i64]; omega
        have hJv : IntKind.i64.wrap (J : Int) = (J : Int) := by rw [IntKind.wrap_i64]; omega
        have hJN : (J : Int) < (N : Int) := by omega
        have hJ1 : a ≤ J := by omega
        have hJ2 : J < b := by omega
        have hob : (o : Int) ≤ 4194304 := by omega
        obtain ⟨c1, f1⟩ := HG2.out.cell HH.out (hdk.trans HN.out) (j := J) (by have := HN.out; omega)
        obtain ⟨z, cz, fz⟩ := set_cell (HG2.out.holds HH.out (hdk.trans HN.out)) (i := I) (k := J) (by omega) (by omega) dk[J]!
        have HS := Lib.hid (HG2.out.swap HH.out (hdk.trans HN.out) (j := I) (k := J) (by omega) (by omega))
        have HP2 : Hid (PermIn a b d (swp dk I J)) := permIn_trans _ _ _ _ _ HP.out (swp_permIn dk a b I J (by omega) (by omega) (by omega) (by omega) (by omega))
        have HB3 : Hid (∀ u v, Blk ((w2.setCell ⟨blk, off + I, none⟩ u).setCell ⟨blk, off + J, none⟩ v) g #[.int .u64 (y : Nat)] 104) := fun u v => (HB2.out.other (fun e => hne e.symm) u).other (fun e => hne e.symm) v
        obtain ⟨u, hu⟩ : ∃ x, x = dk[I]! := ⟨_, rfl⟩
        obtain ⟨v, hv⟩ : ∃ y, y = dk[J]! := ⟨_, rfl⟩
        rw [← hu, ← hv] at HS
        rw [← hu] at c0
        rw [← hv] at c1
        rw [← hv] at cz fz
        clear hu hv hJ hdk HP HB2 HG2
        go_wp2_with fail
        go_region
        go_wp2_with fail
        go_roundw
        case rel => exact ⟨I + 1, y, _, by go_num, by omega, by omega, hy, HS.out.drewN _, HP2.out, (HB3.out _ _).kept (below_drewN (Below.refl _ _) _)⟩
        case measure => simp [RowKit.intOf]; omega
    · have d1 : decide ((I : Int) ≤ (T : Int)) = false := decide_eq_false (by omega)
      have d1' : decide (I ≤ T) = false := decide_eq_false hlt
      go_wp2_with fail
      go_returns
      exact ⟨rfl, dk, HK.out.1, HK.out.2.1⟩
end

end Go.Proofs.Ytfobapnncjjeiaa
