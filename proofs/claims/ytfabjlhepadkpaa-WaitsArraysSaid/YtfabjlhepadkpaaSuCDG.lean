/-
  Sorting rows of uint32, further: what has changed where a function makes boxes, too; reversing; the heap.
    Sorting rows of uint32: the pivot.
    Sorting rows of uint32: patterns are broken.
  Sorting rows of uint32: siftDown, heapSort.
  Sorting rows of uint32: the two partitions.
-/
import Derived.Test.YtfabjlhepadkpaaSuA
import Derived.Test.YtfabjlhepadkpaaChg
import Derived.Sort.LotB
import Derived.Deep.RegionHeld3
import Derived.Lib.BitFns
import Derived.Test.YtfabjlhepadkpaaShelf
import Derived.Sort.LotC
namespace Go.Proofs.Ytfabjlhepadkpaa
set_option linter.unusedVariables false

section

section
open Go Go.RowKit Go.Lib Go.Sort
/-- A row in the memory that has been sorted on: but for it only new blocks. -/
structure SoG (w : World) (blk off : Nat) (d' : Array Int) (w' : World) : Prop where
  chg : Chg (One blk) w w'
  at_ : ∀ cur e fr, w.heap[blk]? = some (.cells cur e fr) → w'.heap[blk]? = some (.cells (putCells uE off d' cur) e fr)
section
variable {w w' w1 w2 : World} {blk off : Nat} {d d' d1 d2 : Array Int}
theorem SoG.of_so (h : SoW w blk off d' w') : SoG w blk off d' w' := by
  obtain ⟨n, rfl⟩ := h
  refine ⟨⟨rfl, rfl, rfl, by simp [putRow, mapBlock, Sort.ahead], fun k hk hne => ?_⟩, fun cur e fr hb => ?_⟩
  · simp only [putRow, mapBlock, Sort.ahead]
    rw [Array.getElem?_modify, if_neg (fun e => hne e.symm)]
  · simp [putRow, mapBlock, Sort.ahead, Array.getElem?_modify, hb, onCells]
theorem SoG.cell (h : SoG w blk off d' w') (hH : Holds uE w blk off d) (hs : d'.size = d.size) {j : Nat} (hj : j < d.size) :
    w'.cell? ⟨blk, off + j, none⟩ = some (.int .u32 d'[j]!) ∧ w'.frozen? ⟨blk, off + j, none⟩ = false := by
  have h1 := cell?_putRow uE w blk off d d' hH hs j (by omega)
  have h2 := (hH j hj).2
  obtain ⟨c, e, fr, hb, _⟩ := cells_of_cell? (hH j hj).1
  have h3 := h.at_ c e fr hb
  constructor
  · rw [← h1]
    unfold World.cell?
    simp only [putRow, mapBlock, Array.getElem?_modify, hb, h3, onCells, if_pos, Option.map_some]
  · rw [← h2]
    unfold World.frozen?
    simp only [hb, h3]
theorem SoG.holds (h : SoG w blk off d' w') (hH : Holds uE w blk off d) (hs : d'.size = d.size) : Holds uE w' blk off d' := fun j hj => h.cell hH hs (by omega)
theorem SoG.self (hH : Holds uE w blk off d) : SoG w blk off d w := .of_so (SoW.self hH)
theorem put_put (off : Nat) (cur : Array Value) (h : d2.size = d1.size) : putCells uE off d2 (putCells uE off d1 cur) = putCells uE off d2 cur := by
  apply Array.ext_getElem?
  intro i
  simp only [putCells, Array.getElem?_mapIdx]
  cases cur[i]? with
  | none => rfl
  | some x =>
    simp only [Option.map_some]
    by_cases hi : off ≤ i ∧ i < off + d2.size
    · rw [if_pos hi, if_pos hi]
    · rw [if_neg hi, if_neg hi, if_neg (by rw [← h]; exact hi)]
theorem SoG.trans (h1 : SoG w blk off d1 w1) (h2 : SoG w1 blk off d2 w2) (hs : d2.size = d1.size) : SoG w blk off d2 w2 :=
  ⟨h1.chg.trans h2.chg, fun cur e fr hb => by rw [h2.at_ _ _ _ (h1.at_ _ _ _ hb), put_put off cur hs]⟩
theorem SoG.below (h1 : SoG w blk off d1 w1) (hb : Below w1.heap.size w1 w2) : SoG w blk off d1 w2 :=
  ⟨h1.chg.more hb, fun cur e fr h => by rw [hb.block blk (Array.getElem?_eq_some_iff.1 (h1.at_ _ _ _ h)).1]; exact h1.at_ _ _ _ h⟩
/-- A box of the function's own is written to. -/
theorem SoG.aside {rb : Nat} (h1 : SoG w blk off d1 w1) (hc : Chg (One rb) w1 w2) (hr : w.heap.size ≤ rb) (hblk : blk < w.heap.size) : SoG w blk off d1 w2 :=
  ⟨⟨hc.os.trans h1.chg.os, hc.tape.trans h1.chg.tape, hc.output.trans h1.chg.output, Nat.le_trans h1.chg.size hc.size, fun k hk hn => (hc.block k (Nat.lt_of_lt_of_le hk h1.chg.size) (fun e => by have : k = rb := e; omega)).trans (h1.chg.block k hk hn)⟩,
    fun cur e fr h => by rw [hc.block blk (Array.getElem?_eq_some_iff.1 (h1.at_ _ _ _ h)).1 (fun e => by have : blk = rb := e; omega)]; exact h1.at_ _ _ _ h⟩
theorem SoG.drewN (h : SoG w blk off d' w') (q : Nat) : SoG w blk off d' (w'.drewN q) := h.below (below_drewN (Below.refl _ _) q)
theorem SoG.swap (h : SoG w blk off d' w') (hH : Holds uE w blk off d) (hs : d'.size = d.size) {j k : Nat} (hj : j < d'.size) (hk : k < d'.size) :
    SoG w blk off (swp d' j k) ((w'.setCell ⟨blk, off + j, none⟩ (.int .u32 d'[k]!)).setCell ⟨blk, off + k, none⟩ (.int .u32 d'[j]!)) :=
  h.trans (.of_so ((SoW.self (h.holds hH hs)).swap hj hk)) (by simp [swp])
end
/-- Behind a store into one cell the other one is there, be it the same one. -/
theorem set_cell {w : World} {blk off : Nat} {d : Array Int} (hH : Holds uE w blk off d) {i k : Nat} (hi : i < d.size) (hk : k < d.size) (x : Int) :
    ∃ z, (w.setCell ⟨blk, off + i, none⟩ (.int .u32 x)).cell? ⟨blk, off + k, none⟩ = some (.int .u32 z) ∧ (w.setCell ⟨blk, off + i, none⟩ (.int .u32 x)).frozen? ⟨blk, off + k, none⟩ = false := by
  have e := putRow_set uE w blk off d i x hi
  rw [putRow_self uE w blk off d hH] at e
  have e' : w.setCell ⟨blk, off + i, none⟩ (.int .u32 x) = putRow uE w blk off (d.setIfInBounds i x) := e
  rw [e']
  exact ⟨_, cell?_putRow uE w blk off d _ hH (by simp) k (by simpa using hk), by rw [frozen?_putRow]; exact (hH k hk).2⟩
theorem swp_sz (d : Array Int) (j k : Nat) : (swp d j k).size = d.size := by simp [swp]
set_option maxRecDepth 100000 in
set_option maxHeartbeats 2000000 in
theorem revU_any (blk off cap a b : Nat) (d : Array Int) (w : World) (hH : Holds uE w blk off d) (hab : a < b) (hb : b ≤ d.size) (hsz : d.size ≤ 4194304) :
    Calls Try.prog 78 #[.slice (some ⟨blk, off, none⟩) d.size cap, .int .i64 (a : Nat), .int .i64 (b : Nat)] w fun e w' =>
      e = .returned (.tuple #[]) ∧ ∃ d', SoG w blk off d' w' ∧ PermIn a b d d' := by
  have HH := Lib.hid hH
  have HR : Hid (PermIn a b d (reverseRange d a b)) := reverseRange_holds d a b (by omega) hb
  obtain ⟨N, hN⟩ : ∃ N, N = d.size := ⟨_, rfl⟩
  have HN := Lib.hid hN
  rw [← hN] at hb hsz ⊢
  clear hH hN
  go_enter Try.func78, Try.ntmps78
  go_wp2_with fail
  go_loopw [6, 7] (fun iv jv wr => ∃ (i j : Nat) (dk : Array Int), iv = .int .i64 i ∧ jv = .int .i64 j ∧ i ≤ j + 1 ∧ j < b ∧ Hid (SoG w blk off dk wr ∧ dk.size = N ∧ reverseLoop i j dk = reverseRange d a b)) (fun iv jv _ => (RowKit.intOf jv).toNat + 1 - (RowKit.intOf iv).toNat)
  case atStart => exact ⟨a, b - 1, d, rfl, by go_num, by omega, by omega, SoG.self HH.out, HN.out.symm, rfl⟩
  case round =>
    obtain ⟨i, j, dk, rfl, rfl, hij, hjb, HK⟩ := hrel
    have hdk := HK.out.2.1
    by_cases hlt : i < j
    · have d1 : decide ((i : Int) < (j : Int)) = true := decide_eq_true (by omega)
      have d1' : decide (i < j) = true := decide_eq_true hlt
      obtain ⟨c0, f0⟩ := HK.out.1.cell HH.out (hdk.trans HN.out) (j := i) (by have := HN.out; omega)
      obtain ⟨c1, f1⟩ := HK.out.1.cell HH.out (hdk.trans HN.out) (j := j) (by have := HN.out; omega)
      have HSW := Lib.hid (HK.out.1.swap HH.out (hdk.trans HN.out) (j := i) (k := j) (by omega) (by omega))
      have HE : Hid (reverseLoop (i + 1) (j - 1) (swp dk i j) = reverseRange d a b) := by
        unfold Hid; rw [← HK.out.2.2]; conv => rhs; unfold reverseLoop
        rw [if_pos hlt]
      have HZ : Hid ((swp dk i j).size = N) := by unfold Hid; rw [swp_sz]; exact hdk
      obtain ⟨x, hx⟩ : ∃ x, x = dk[i]! := ⟨_, rfl⟩
      obtain ⟨y, hy⟩ : ∃ y, y = dk[j]! := ⟨_, rfl⟩
      rw [← hx, ← hy] at HSW
      rw [← hx] at c0
      rw [← hy] at c1
      have hiN : (i : Int) < (N : Int) := by omega
      have hjN : (j : Int) < (N : Int) := by omega
      clear hx hy HK hdk
      go_wp2_with fail
      go_region
      go_wp2_with fail
      go_roundw
      case rel => exact ⟨i + 1, j - 1, _, by go_num, by go_num, by omega, by omega, HSW.out.drewN _, HZ.out, HE.out⟩
      case measure => simp [RowKit.intOf]; omega
    · have d1 : decide ((i : Int) < (j : Int)) = false := decide_eq_false (by omega)
      have d1' : decide (i < j) = false := decide_eq_false hlt
      have HE : Hid (dk = reverseRange d a b) := by unfold Hid; rw [← HK.out.2.2]; unfold reverseLoop; rw [if_neg hlt]
      go_wp2_with fail
      go_returns
      exact ⟨rfl, dk, HK.out.1, by rw [HE.out]; exact HR.out⟩
theorem sift_stop {hi first root : Nat} {d : Array Int} (h : hi ≤ 2 * root + 1) : siftDown ltInt hi first root d = d := by
  unfold siftDown; rw [dif_pos h]
theorem sift_left {hi first root : Nat} {d : Array Int} (h : 2 * root + 1 < hi) (hc : 2 * root + 1 + 1 < hi → ltInt d[first + (2 * root + 1)]! d[first + (2 * root + 1) + 1]! = false) :
    siftDown ltInt hi first root d = if ltInt d[first + root]! d[first + (2 * root + 1)]! = true then siftDown ltInt hi first (2 * root + 1) (swp d (first + root) (first + (2 * root + 1))) else d := by
  conv => lhs; unfold siftDown
  rw [dif_neg (by omega), if_neg]
  · cases ltInt d[first + root]! d[first + (2 * root + 1)]! <;> simp
  · intro hh
    rw [Bool.and_eq_true, decide_eq_true_eq] at hh
    have := hc hh.1
    rw [this] at hh
    exact absurd hh.2 (by simp)
theorem sift_right {hi first root : Nat} {d : Array Int} (h : 2 * root + 1 + 1 < hi) (hc : ltInt d[first + (2 * root + 1)]! d[first + (2 * root + 1) + 1]! = true) :
    siftDown ltInt hi first root d = if ltInt d[first + root]! d[first + (2 * root + 2)]! = true then siftDown ltInt hi first (2 * root + 2) (swp d (first + root) (first + (2 * root + 2))) else d := by
  conv => lhs; unfold siftDown
  rw [dif_neg (by omega), if_pos (by rw [Bool.and_eq_true, decide_eq_true_eq]; exact ⟨h, hc⟩), dif_pos (by omega)]
  cases ltInt d[first + root]! d[first + (2 * root + 2)]! <;> simp
end

section
open Go Go.RowKit Go.Lib Go.Sort
theorem holds_chg {w w' : World} {blk off sb : Nat} {d : Array Int} (hH : Holds uE w blk off d) (hc : Chg (One sb) w w') (hne : blk ≠ sb) : Holds uE w' blk off d := fun j hj => by
  obtain ⟨h1, h2⟩ := hH j hj
  obtain ⟨c, e, fr, hb, _⟩ := cells_of_cell? h1
  have h3 := hc.block blk (Array.getElem?_eq_some_iff.1 hb).1 hne
  constructor
  · rw [← h1]; unfold World.cell?; simp only [h3]
  · rw [← h2]; unfold World.frozen?; simp only [h3]
theorem holds_drewN {w : World} {blk off : Nat} {d : Array Int} (hH : Holds uE w blk off d) (q : Nat) : Holds uE (w.drewN q) blk off d := hH
set_option maxRecDepth 100000 in
set_option maxHeartbeats 2000000 in
theorem order2U_any (blk off cap a b sb n : Nat) (d : Array Int) (w : World) (hH : Holds uE w blk off d) (hne : blk ≠ sb) (hB : Blk w sb #[.int .i64 (n : Nat)] 3) (hn : n ≤ 100) (ha : a < d.size) (hb : b < d.size) (hsz : d.size ≤ 4194304) :
    Calls Try.prog 91 #[.slice (some ⟨blk, off, none⟩) d.size cap, .int .i64 (a : Nat), .int .i64 (b : Nat), .pointer (some ⟨sb, 0, none⟩)] w fun e w' =>
      ∃ p q : Nat, e = .returned (.tuple #[.int .i64 (p : Nat), .int .i64 (q : Nat)]) ∧ ((p = a ∧ q = b) ∨ (p = b ∧ q = a)) ∧ ∃ n' : Nat, n' ≤ n + 1 ∧ Blk w' sb #[.int .i64 (n' : Nat)] 3 ∧ Chg (One sb) w w' := by
  obtain ⟨c0, f0⟩ := hH a ha
  obtain ⟨c1, f1⟩ := hH b hb
  obtain ⟨x, hx⟩ : ∃ x, x = d[a]! := ⟨_, rfl⟩
  obtain ⟨y, hy⟩ : ∃ y, y = d[b]! := ⟨_, rfl⟩
  rw [← hx] at c0
  rw [← hy] at c1
  obtain ⟨q, hq⟩ : ∃ q, q = ltInt y x := ⟨_, rfl⟩
  have LXY : Hid (∀ w1, Calls Try.prog 80 #[.int .u32 y, .int .u32 x] w1 fun e w' => e = .returned (.bool q) ∧ w' = w1) := fun w1 => by rw [hq]; exact lessU_any y x w1
  obtain ⟨N, hN⟩ : ∃ N, N = d.size := ⟨_, rfl⟩
  rw [← hN] at ha hb hsz ⊢
  have haN : (a : Int) < (N : Int) := by omega
  have hbN : (b : Int) < (N : Int) := by omega
  have HB := Lib.hid hB
  clear hx hy hq hN hH hB
  go_enter Try.func91, Try.ntmps91
  go_wp2_with fail
  go_quiet (first | (go_at_call 80; exact Calls.quiet_of_same (LXY.out _)))
  obtain ⟨W, hW⟩ : ∃ W, W = w.drewN nq := ⟨_, rfl⟩
  have s0 : W.cell? ⟨sb, 0, none⟩ = some (.int .i64 (n : Nat)) := by rw [hW]; have := HB.out.cell 0; simpa using this
  have s1 : W.frozen? ⟨sb, 0, none⟩ = false := by rw [hW]; exact HB.out.free 0
  have HBW : Hid (Blk W sb #[.int .i64 (n : Nat)] 3) := by unfold Hid; rw [hW]; exact HB.out
  have HCW : Hid (Chg (One sb) w W) := by unfold Hid; rw [hW]; exact Chg.of_below (below_drewN (Below.refl _ _) nq)
  rw [← hW]
  clear hW HB LXY c0 c1 f0 f1
  cases q with
  | true =>
    go_wp2_with fail
    go_ret2
    refine ⟨b, a, rfl, .inr ⟨rfl, rfl⟩, n + 1, Nat.le_refl _, ?_, HCW.out.trans (Chg.setCell 0 _ rfl)⟩
    have := HBW.out.set 0 (.int .i64 ((n + 1 : Nat) : Int))
    simpa using this
  | false =>
    go_wp2_with fail
    go_ret2
    exact ⟨a, b, rfl, .inl ⟨rfl, rfl⟩, n, by omega, HBW.out, HCW.out⟩
set_option maxRecDepth 100000 in
set_option maxHeartbeats 2000000 in
theorem medianU_any (blk off cap a b c sb n : Nat) (d : Array Int) (w : World) (hH : Holds uE w blk off d) (hne : blk ≠ sb) (hB : Blk w sb #[.int .i64 (n : Nat)] 3) (hn : n ≤ 90) (ha : a < d.size) (hb : b < d.size) (hc : c < d.size) (hsz : d.size ≤ 4194304) :
    Calls Try.prog 90 #[.slice (some ⟨blk, off, none⟩) d.size cap, .int .i64 (a : Nat), .int .i64 (b : Nat), .int .i64 (c : Nat), .pointer (some ⟨sb, 0, none⟩)] w fun e w' =>
      ∃ p : Nat, e = .returned (.int .i64 (p : Nat)) ∧ (p = a ∨ p = b ∨ p = c) ∧ ∃ n' : Nat, n' ≤ n + 3 ∧ Blk w' sb #[.int .i64 (n' : Nat)] 3 ∧ Chg (One sb) w w' := by
  have O2 : Hid (∀ (a b n : Nat) (w : World), Holds uE w blk off d → Blk w sb #[.int .i64 (n : Nat)] 3 → n ≤ 100 → a < d.size → b < d.size → Calls Try.prog 91 #[.slice (some ⟨blk, off, none⟩) d.size cap, .int .i64 (a : Nat), .int .i64 (b : Nat), .pointer (some ⟨sb, 0, none⟩)] w fun e w' =>
      ∃ p q : Nat, e = .returned (.tuple #[.int .i64 (p : Nat), .int .i64 (q : Nat)]) ∧ ((p = a ∧ q = b) ∨ (p = b ∧ q = a)) ∧ ∃ n' : Nat, n' ≤ n + 1 ∧ Blk w' sb #[.int .i64 (n' : Nat)] 3 ∧ Chg (One sb) w w') := fun a b n w h1 h2 h3 h4 h5 => order2U_any blk off cap a b sb n d w h1 hne h2 h3 h4 h5 hsz
  have HH := Lib.hid hH
  have HB := Lib.hid hB
  obtain ⟨N, hN⟩ : ∃ N, N = d.size := ⟨_, rfl⟩
  rw [← hN] at ha hb hc hsz O2 ⊢
  clear hH hB hN
  go_enter Try.func90, Try.ntmps90
  go_wp2_with fail
  refine (O2.out a b n w HH.out HB.out (by omega) ha hb).mono ?_
  rintro e w1 ⟨p1, q1, rfl, h1, n1, hn1, B1, C1⟩
  have HH1 := Lib.hid (holds_chg HH.out C1 hne)
  have HB1 := Lib.hid B1
  have HC1 := Lib.hid C1
  have hp1 : p1 < N := by rcases h1 with ⟨h, _⟩ | ⟨h, _⟩ <;> omega
  have hq1 : q1 < N := by rcases h1 with ⟨_, h⟩ | ⟨_, h⟩ <;> omega
  clear B1 C1 HB HH
  go_wp2_with fail
  refine (O2.out q1 c n1 w1 HH1.out HB1.out (by omega) hq1 hc).mono ?_
  rintro e w2 ⟨p2, q2, rfl, h2, n2, hn2, B2, C2⟩
  have HH2 := Lib.hid (holds_chg HH1.out C2 hne)
  have HB2 := Lib.hid B2
  have HC2 := Lib.hid (HC1.out.trans C2)
  have hp2 : p2 < N := by rcases h2 with ⟨h, _⟩ | ⟨h, _⟩ <;> omega
  clear B2 C2 HB1 HH1 HC1
  go_wp2_with fail
  refine (O2.out p1 p2 n2 w2 HH2.out HB2.out (by omega) hp1 hp2).mono ?_
  rintro e w3 ⟨p3, q3, rfl, h3, n3, hn3, B3, C3⟩
  have HB3 := Lib.hid B3
  have HC3 := Lib.hid (HC2.out.trans C3)
  clear B3 C3 HB2 HH2 HC2
  go_wp2_with fail
  go_ret
  exact ⟨q3, rfl, by omega, n3, by omega, HB3.out, HC3.out⟩
set_option maxRecDepth 100000 in
set_option maxHeartbeats 2000000 in
theorem medianAdjU_any (blk off cap a sb n : Nat) (d : Array Int) (w : World) (hH : Holds uE w blk off d) (hne : blk ≠ sb) (hB : Blk w sb #[.int .i64 (n : Nat)] 3) (hn : n ≤ 90) (ha : 1 ≤ a) (hb : a + 1 < d.size) (hsz : d.size ≤ 4194304) :
    Calls Try.prog 89 #[.slice (some ⟨blk, off, none⟩) d.size cap, .int .i64 (a : Nat), .pointer (some ⟨sb, 0, none⟩)] w fun e w' =>
      ∃ p : Nat, e = .returned (.int .i64 (p : Nat)) ∧ (p = a - 1 ∨ p = a ∨ p = a + 1) ∧ ∃ n' : Nat, n' ≤ n + 3 ∧ Blk w' sb #[.int .i64 (n' : Nat)] 3 ∧ Chg (One sb) w w' := by
  have MD := Lib.hid (medianU_any blk off cap (a - 1) a (a + 1) sb n d w hH hne hB hn (by omega) (by omega) (by omega) hsz)
  obtain ⟨s, hs⟩ : ∃ s, s = a - 1 := ⟨_, rfl⟩
  rw [← hs] at MD ⊢
  have hsi : (a : Int) - 1 = (s : Int) := by omega
  obtain ⟨t, ht⟩ : ∃ s, s = a + 1 := ⟨_, rfl⟩
  rw [← ht] at MD hb ⊢
  have hti : (a : Int) + 1 = (t : Int) := by omega
  obtain ⟨N, hN⟩ : ∃ N, N = d.size := ⟨_, rfl⟩
  rw [← hN] at MD hsz hb ⊢
  have htb : (t : Int) ≤ 4194304 := by omega
  clear hH hB hN hs ht
  go_enter Try.func89, Try.ntmps89
  go_wp2_with fail
  refine MD.out.mono ?_
  rintro e w1 ⟨p, rfl, hp, n1, hn1, B1, C1⟩
  have HB1 := Lib.hid B1
  have HC1 := Lib.hid C1
  clear B1 C1 MD
  go_wp2_with fail
  go_ret
  exact ⟨p, rfl, hp, n1, hn1, HB1.out, HC1.out⟩
set_option maxRecDepth 100000 in
set_option maxHeartbeats 2000000 in
theorem pivotU_any (blk off cap a b : Nat) (d : Array Int) (w : World) (hH : Holds uE w blk off d) (hblk : blk < w.heap.size) (hab : a + 12 < b) (hb : b ≤ d.size) (hsz : d.size ≤ 4194304) :
    Calls Try.prog 77 #[.slice (some ⟨blk, off, none⟩) d.size cap, .int .i64 (a : Nat), .int .i64 (b : Nat)] w fun e w' =>
      ∃ p h : Nat, e = .returned (.tuple #[.int .i64 (p : Nat), .int .i64 (h : Nat)]) ∧ a ≤ p ∧ p < b ∧ h ≤ 2 ∧ Below w.heap.size w w' := by
  obtain ⟨g, hg⟩ : ∃ g, g = w.heap.size := ⟨_, rfl⟩
  have hne : blk ≠ g := by omega
  obtain ⟨X, hX⟩ : ∃ X, X = w.alloc (.cells #[.int .i64 ((0 : Nat) : Int)] 3) := ⟨_, rfl⟩
  have HBX : Hid (Blk X g #[.int .i64 ((0 : Nat) : Int)] 3) := by unfold Hid; rw [hX, hg]; exact Blk.new w _ _
  have HWX : Hid (Below w.heap.size w X) := by unfold Hid; rw [hX]; exact (Below.refl _ _).alloc (Nat.le_refl _) _
  have HHX : Hid (Holds uE X blk off d) := fun j hj => by
    obtain ⟨h1, h2⟩ := hH j hj
    obtain ⟨c, e, fr, hbk, _⟩ := cells_of_cell? h1
    have h3 := HWX.out.block blk hblk
    constructor
    · rw [← h1]; unfold World.cell?; simp only [h3]
    · rw [← h2]; unfold World.frozen?; simp only [h3]
  have HEND : Hid (∀ w2, Chg (One g) X w2 → Below w.heap.size w w2) := fun w2 h => HWX.out.trans (h.to_below HWX.out.size (fun k hk e => by have : k = g := e; omega))
  have MD : Hid (∀ (a b c n : Nat) (w : World), Holds uE w blk off d → Blk w g #[.int .i64 (n : Nat)] 3 → n ≤ 90 → a < d.size → b < d.size → c < d.size → Calls Try.prog 90 #[.slice (some ⟨blk, off, none⟩) d.size cap, .int .i64 (a : Nat), .int .i64 (b : Nat), .int .i64 (c : Nat), .pointer (some ⟨g, 0, none⟩)] w fun e w' =>
      ∃ p : Nat, e = .returned (.int .i64 (p : Nat)) ∧ (p = a ∨ p = b ∨ p = c) ∧ ∃ n' : Nat, n' ≤ n + 3 ∧ Blk w' g #[.int .i64 (n' : Nat)] 3 ∧ Chg (One g) w w') := fun a b c n w h1 h2 h3 h4 h5 h6 => medianU_any blk off cap a b c g n d w h1 hne h2 h3 h4 h5 h6 hsz
  have MA : Hid (∀ (a n : Nat) (w : World), Holds uE w blk off d → Blk w g #[.int .i64 (n : Nat)] 3 → n ≤ 90 → 1 ≤ a → a + 1 < d.size → Calls Try.prog 89 #[.slice (some ⟨blk, off, none⟩) d.size cap, .int .i64 (a : Nat), .pointer (some ⟨g, 0, none⟩)] w fun e w' =>
      ∃ p : Nat, e = .returned (.int .i64 (p : Nat)) ∧ (p = a - 1 ∨ p = a ∨ p = a + 1) ∧ ∃ n' : Nat, n' ≤ n + 3 ∧ Blk w' g #[.int .i64 (n' : Nat)] 3 ∧ Chg (One g) w w') := fun a n w h1 h2 h3 h4 h5 => medianAdjU_any blk off cap a g n d w h1 hne h2 h3 h4 h5 hsz
  obtain ⟨N, hN⟩ : ∃ N, N = d.size := ⟨_, rfl⟩
  rw [← hN] at hb hsz MD MA ⊢
  obtain ⟨l, hl⟩ : ∃ l, l = b - a := ⟨_, rfl⟩
  have hli : (b : Int) - (a : Int) = (l : Int) := by omega
  obtain ⟨q, hq⟩ : ∃ q, q = l / 4 := ⟨_, rfl⟩
  have hqi : (l : Int) / 4 = (q : Int) := by omega
  have hqt : Int.tdiv (l : Int) 4 = (q : Int) := by rw [Int.tdiv_eq_ediv_of_nonneg (by omega)]; omega
  obtain ⟨i, hi⟩ : ∃ i, i = a + q := ⟨_, rfl⟩
  obtain ⟨j, hj⟩ : ∃ i, i = a + q * 2 := ⟨_, rfl⟩
  obtain ⟨k, hk⟩ : ∃ i, i = a + q * 3 := ⟨_, rfl⟩
  have hii : (a : Int) + (q : Int) * 1 = (i : Int) := by omega
  have hii' : (a : Int) + (q : Int) = (i : Int) := by omega
  have hji : (a : Int) + (q : Int) * 2 = (j : Int) := by omega
  have hki : (a : Int) + (q : Int) * 3 = (k : Int) := by omega
  have b1 : a + 1 ≤ i := by omega
  have b2 : i < j := by omega
  have b3 : j < k := by omega
  have b4 : k + 1 < b := by omega
  have hlb : 12 < l := by omega
  have hlu : l ≤ 4194304 := by omega
  have d8 : decide ((l : Int) ≥ 8) = true := decide_eq_true (by omega)
  have d8' : decide (8 ≤ (l : Int)) = true := decide_eq_true (by omega)
  have d8'' : decide (8 ≤ l) = true := decide_eq_true (by omega)
  clear hH hN hl hq hi hj hk
  go_enter Try.func77, Try.ntmps77
  go_upto_region 3 with fail
  rw [← hg]
  have hX' : w.alloc (.cells #[.int .i64 0] 3) = X := by rw [hX]; rfl
  rw [hX']
  clear hX hX' hg
  by_cases hl50 : l < 50
  · have d50 : decide ((l : Int) ≥ 50) = false := decide_eq_false (by omega)
    have d50' : decide (50 ≤ (l : Int)) = false := decide_eq_false (by omega)
    have d50'' : decide (50 ≤ l) = false := decide_eq_false (by omega)
    go_wp2_with fail
    refine (MD.out i j k 0 X HHX.out HBX.out (by omega) (by omega) (by omega) (by omega)).mono ?_
    rintro e w1 ⟨p, rfl, hp, n1, hn1, B1, C1⟩
    have hpa : a ≤ p ∧ p < b := by omega
    have HBE := Lib.hid (HEND.out w1 C1)
    have s0 : w1.cell? ⟨g, 0, none⟩ = some (.int .i64 (n1 : Nat)) := by have := B1.cell 0; simpa using this
    clear hp B1 C1
    by_cases z0 : n1 = 0
    · have t0 : ((n1 : Int) == 0) = true := by simp; exact z0
      have t0' : (n1 == 0) = true := by simp; exact z0
      have Z0 := Lib.hid z0
      clear z0
      go_wp2_with fail
      go_ret2
      exact ⟨p, 1, rfl, hpa.1, hpa.2, by omega, HBE.out⟩
    · have t0 : ((n1 : Int) == 0) = false := by simp; omega
      have t0' : (n1 == 0) = false := by simp; omega
      by_cases z1 : n1 = 12
      · have t1 : ((n1 : Int) == 12) = true := by simp; omega
        have t1' : (n1 == 12) = true := by simp; omega
        have Z0 := Lib.hid z1
        clear z1
        go_wp2_with fail
        go_ret2
        exact ⟨p, 2, rfl, hpa.1, hpa.2, by omega, HBE.out⟩
      · have t1 : ((n1 : Int) == 12) = false := by simp; omega
        have t1' : (n1 == 12) = false := by simp; omega
        go_wp2_with fail
        go_ret2
        exact ⟨p, 0, rfl, hpa.1, hpa.2, by omega, HBE.out⟩
  · have d50 : decide ((l : Int) ≥ 50) = true := decide_eq_true (by omega)
    have d50' : decide (50 ≤ (l : Int)) = true := decide_eq_true (by omega)
    have d50'' : decide (50 ≤ l) = true := decide_eq_true (by omega)
    go_wp2_with fail
    refine (MA.out i 0 X HHX.out HBX.out (by omega) (by omega) (by omega)).mono ?_
    rintro e w1 ⟨pi, rfl, hpi, n1, hn1, B1, C1⟩
    have H1 := Lib.hid (holds_chg HHX.out C1 hne)
    have HB1 := Lib.hid B1
    have HC1 := Lib.hid C1
    clear B1 C1
    go_wp2_with fail
    refine (MA.out j n1 w1 H1.out HB1.out (by omega) (by omega) (by omega)).mono ?_
    rintro e w2 ⟨pj, rfl, hpj, n2, hn2, B2, C2⟩
    have H2 := Lib.hid (holds_chg H1.out C2 hne)
    have HB2 := Lib.hid B2
    have HC2 := Lib.hid (HC1.out.trans C2)
    clear B2 C2 H1 HB1 HC1
    go_wp2_with fail
    refine (MA.out k n2 w2 H2.out HB2.out (by omega) (by omega) (by omega)).mono ?_
    rintro e w3 ⟨pk, rfl, hpk, n3, hn3, B3, C3⟩
    have H3 := Lib.hid (holds_chg H2.out C3 hne)
    have HB3 := Lib.hid B3
    have HC3 := Lib.hid (HC2.out.trans C3)
    clear B3 C3 H2 HB2 HC2
    have e1 : a ≤ pi ∧ pi < b := by omega
    have e2 : a ≤ pj ∧ pj < b := by omega
    have e3 : a ≤ pk ∧ pk < b := by omega
    clear hpi hpj hpk
    go_wp2_with fail
    refine (MD.out pi pj pk n3 w3 H3.out HB3.out (by omega) (by omega) (by omega) (by omega)).mono ?_
    rintro e w4 ⟨p, rfl, hp, n4, hn4, B4, C4'⟩
    have C4 := HC3.out.trans C4'
    clear C4'
    have hpa : a ≤ p ∧ p < b := by omega
    have HBE := Lib.hid (HEND.out w4 C4)
    have s0 : w4.cell? ⟨g, 0, none⟩ = some (.int .i64 (n4 : Nat)) := by have := B4.cell 0; simpa using this
    clear hp B4 C4
    by_cases z0 : n4 = 0
    · have t0 : ((n4 : Int) == 0) = true := by simp; exact z0
      have t0' : (n4 == 0) = true := by simp; exact z0
      have Z0 := Lib.hid z0
      clear z0
      go_wp2_with fail
      go_ret2
      exact ⟨p, 1, rfl, hpa.1, hpa.2, by omega, HBE.out⟩
    · have t0 : ((n4 : Int) == 0) = false := by simp; omega
      have t0' : (n4 == 0) = false := by simp; omega
      by_cases z1 : n4 = 12
      · have t1 : ((n4 : Int) == 12) = true := by simp; omega
        have t1' : (n4 == 12) = true := by simp; omega
        have Z0 := Lib.hid z1
        clear z1
        go_wp2_with fail
        go_ret2
        exact ⟨p, 2, rfl, hpa.1, hpa.2, by omega, HBE.out⟩
      · have t1 : ((n4 : Int) == 12) = false := by simp; omega
        have t1' : (n4 == 12) = false := by simp; omega
        go_wp2_with fail
        go_ret2
        exact ⟨p, 0, rfl, hpa.1, hpa.2, by omega, HBE.out⟩
end

section
open Go Go.RowKit Go.Lib Go.Sort
theorem xor_nat (a b : Int) : ∃ n : Nat, bits .xor .u64 a b = (n : Int) ∧ n < 18446744073709551616 := by
  obtain ⟨z, hz⟩ : ∃ z, bits .xor .u64 a b = IntKind.u64.wrap z := ⟨_, rfl⟩
  rw [hz, IntKind.wrap_u64]
  exact ⟨(z % 18446744073709551616).toNat, by omega, by omega⟩
set_option maxRecDepth 100000 in
set_option maxHeartbeats 2000000 in
theorem nextX_any (rb r : Nat) (w : World) (hB : Blk w rb #[.int .u64 (r : Nat)] 117) (hr : r < 18446744073709551616) :
    Calls Try.prog 88 #[.pointer (some ⟨rb, 0, none⟩)] w fun e w' =>
      ∃ x : Nat, e = .returned (.int .u64 (x : Nat)) ∧ x < 18446744073709551616 ∧ Blk w' rb #[.int .u64 (x : Nat)] 117 ∧ Chg (One rb) w w' := by
  have s0 : w.cell? ⟨rb, 0, none⟩ = some (.int .u64 (r : Nat)) := by have := hB.cell 0; simpa using this
  have s1 : w.frozen? ⟨rb, 0, none⟩ = false := hB.free 0
  have HB := Lib.hid hB
  clear hB
  go_enter Try.func88, Try.ntmps88
  go_wp2_with fail
  obtain ⟨n1, e1, l1⟩ := xor_nat (r : Int) (IntKind.u64.wrap ((r : Int) * 8192))
  obtain ⟨n2, e2, l2⟩ := xor_nat (n1 : Int) ((n1 : Int) / 128)
  obtain ⟨n3, e3, l3⟩ := xor_nat (n2 : Int) (IntKind.u64.wrap ((n2 : Int) * 131072))
  have E1 := Lib.hid e1
  have E2 := Lib.hid e2
  have E3 := Lib.hid e3
  clear e1 e2 e3
  go_region
  rw [E1.out]
  obtain ⟨W1, hW1⟩ : ∃ W, W = (w.setCell ⟨rb, 0, none⟩ (.int .u64 (n1 : Nat))).drew := ⟨_, rfl⟩
  have B1 : Hid (Blk W1 rb #[.int .u64 (n1 : Nat)] 117) := by
    unfold Hid; rw [hW1]; have := HB.out.set 0 (.int .u64 (n1 : Nat)); exact Blk.drew (by simpa using this)
  have C1 : Hid (Chg (One rb) w W1) := by
    unfold Hid; rw [hW1]; exact (Chg.setCell 0 _ rfl : Chg (One rb) w _).trans (Chg.of_below ((Below.refl _ _).drew))
  rw [← hW1]
  have s0 : W1.cell? ⟨rb, 0, none⟩ = some (.int .u64 (n1 : Nat)) := by have := B1.out.cell 0; simpa using this
  have s1 : W1.frozen? ⟨rb, 0, none⟩ = false := B1.out.free 0
  clear hW1
  clear HB E1
  go_wp2_with fail
  go_region
  rw [E2.out]
  obtain ⟨W2, hW2⟩ : ∃ W, W = (W1.setCell ⟨rb, 0, none⟩ (.int .u64 (n2 : Nat))).drew := ⟨_, rfl⟩
  have B2 : Hid (Blk W2 rb #[.int .u64 (n2 : Nat)] 117) := by
    unfold Hid; rw [hW2]; have := B1.out.set 0 (.int .u64 (n2 : Nat)); exact Blk.drew (by simpa using this)
  have C2 : Hid (Chg (One rb) w W2) := by
    unfold Hid; rw [hW2]; exact C1.out.trans ((Chg.setCell 0 _ rfl : Chg (One rb) W1 _).trans (Chg.of_below ((Below.refl _ _).drew)))
  rw [← hW2]
  have s0 : W2.cell? ⟨rb, 0, none⟩ = some (.int .u64 (n2 : Nat)) := by have := B2.out.cell 0; simpa using this
  have s1 : W2.frozen? ⟨rb, 0, none⟩ = false := B2.out.free 0
  clear hW2
  clear B1 C1 E2
  go_wp2_with fail
  go_region
  rw [E3.out]
  obtain ⟨W3, hW3⟩ : ∃ W, W = (W2.setCell ⟨rb, 0, none⟩ (.int .u64 (n3 : Nat))).drew := ⟨_, rfl⟩
  have B3 : Hid (Blk W3 rb #[.int .u64 (n3 : Nat)] 117) := by
    unfold Hid; rw [hW3]; have := B2.out.set 0 (.int .u64 (n3 : Nat)); exact Blk.drew (by simpa using this)
  have C3 : Hid (Chg (One rb) w W3) := by
    unfold Hid; rw [hW3]; exact C2.out.trans ((Chg.setCell 0 _ rfl : Chg (One rb) W2 _).trans (Chg.of_below ((Below.refl _ _).drew)))
  rw [← hW3]
  have s0 : W3.cell? ⟨rb, 0, none⟩ = some (.int .u64 (n3 : Nat)) := by have := B3.out.cell 0; simpa using this
  have s1 : W3.frozen? ⟨rb, 0, none⟩ = false := B3.out.free 0
  clear hW3
  clear B2 C2 E3
  go_wp2_with fail
  go_ret
  exact ⟨n3, rfl, l3, B3.out, C3.out⟩
theorem bl_pow : ∀ n : Nat, n ≠ 0 → n < 2 ^ 64 → n < 2 ^ Lib.bitLen n ∧ 2 ^ Lib.bitLen n ≤ 2 * n := by
  intro n
  induction n using Nat.strongRecOn with
  | ind n ih =>
    intro h0 h
    rw [Lib.bitLen_half n h0 h]
    by_cases h1 : n / 2 = 0
    · rw [h1]
      have : n = 1 := by omega
      subst this
      decide
    · obtain ⟨a, b⟩ := ih (n / 2) (by omega) h1 (by omega)
      rw [Nat.add_comm, Nat.pow_succ]
      omega
set_option maxRecDepth 100000 in
theorem npowU_any (n : Nat) (w : World) (h0 : n ≠ 0) (h : n ≤ 4194304) :
    Calls Try.prog 87 #[.int .i64 (n : Nat)] w fun e w' => (∃ m k : Nat, e = .returned (.int .u64 (m : Nat)) ∧ m = 2 ^ k ∧ n < m ∧ m ≤ 2 * n) ∧ w' = w := by
  have BL := Lib.hid (Try.bits_Len (n : Int) w (by omega) (by omega))
  obtain ⟨p1, p2⟩ := bl_pow n h0 (by omega)
  have e0 : ((n : Int)).toNat = n := by omega
  obtain ⟨k, hk⟩ : ∃ k, k = Lib.bitLen n := ⟨_, rfl⟩
  rw [e0, ← hk] at BL
  rw [← hk] at p1 p2
  have hk23 : k ≤ 23 := by
    rcases Nat.lt_or_ge 23 k with h | h
    · have := Nat.pow_le_pow_right (n := 2) (by omega) h
      omega
    · exact h
  have hcv : IntKind.u64.wrap (n : Int) = (n : Int) := by rw [IntKind.wrap_u64]; omega
  obtain ⟨m, hm⟩ : ∃ m, m = 2 ^ k := ⟨_, rfl⟩
  have HM := Lib.hid hm
  have hmi : IntKind.u64.wrap ((2 : Int) ^ k) = (m : Int) := by
    have e : ((2 : Int) ^ k) = ((2 ^ k : Nat) : Int) := by simp
    rw [e, ← hm, IntKind.wrap_u64]; omega
  rw [← hm] at p1 p2
  clear hk hm e0
  go_enter Try.func87, Try.ntmps87
  go_wp2_with fail
  refine BL.out.mono ?_; rintro e w1 ⟨rfl, hw⟩
  subst hw
  go_wp2_with fail
  go_ret
  exact ⟨⟨m, k, rfl, HM.out, p1, p2⟩, rfl⟩
theorem low_bits {r m k : Nat} (hm : m = 2 ^ k) (hr : r < 18446744073709551616) (hm2 : m < 18446744073709551616) (h1 : 1 ≤ m) : ∃ x : Nat, bits .and .u64 (r : Int) ((m : Int) - 1) = (x : Int) ∧ x < m := by
  have e : ((m : Int) - 1) = ((m - 1 : Nat) : Int) := by omega
  refine ⟨r &&& (m - 1), ?_, ?_⟩
  · rw [e]
    show IntKind.u64.wrap ((BitVec.ofInt 64 (r : Int) &&& BitVec.ofInt 64 ((m - 1 : Nat) : Int)).toNat : Int) = _
    rw [BitVec.toNat_and, BitVec.ofInt_natCast, BitVec.ofInt_natCast, BitVec.toNat_ofNat, BitVec.toNat_ofNat, Nat.mod_eq_of_lt (by omega), Nat.mod_eq_of_lt (by omega), IntKind.wrap_u64]
    have : r &&& (m - 1) ≤ m - 1 := Nat.and_le_right
    omega
  · have : r &&& (m - 1) ≤ m - 1 := Nat.and_le_right
    omega
set_option maxRecDepth 100000 in
set_option maxHeartbeats 4000000 in
theorem breakU_any (blk off cap a b : Nat) (d : Array Int) (w : World) (hH : Holds uE w blk off d) (hblk : blk < w.heap.size) (hab : a + 12 < b) (hb : b ≤ d.size) (hsz : d.size ≤ 4194304) :
    Calls Try.prog 76 #[.slice (some ⟨blk, off, none⟩) d.size cap, .int .i64 (a : Nat), .int .i64 (b : Nat)] w fun e w' =>
      e = .returned (.tuple #[]) ∧ ∃ d', SoG w blk off d' w' ∧ PermIn a b d d' := by
  have HH := Lib.hid hH
  obtain ⟨g, hg⟩ : ∃ g, g = w.heap.size := ⟨_, rfl⟩
  have hne : blk ≠ g := by omega
  obtain ⟨N, hN⟩ : ∃ N, N = d.size := ⟨_, rfl⟩
  have HN := Lib.hid hN
  obtain ⟨l, hl⟩ : ∃ l, l = b - a := ⟨_, rfl⟩
  have hli : (b : Int) - (a : Int) = (l : Int) := by omega
  obtain ⟨q, hq⟩ : ∃ q, q = l / 4 := ⟨_, rfl⟩
  have hqi : (l : Int) / 4 = (q : Int) := by omega
  have hqt : Int.tdiv (l : Int) 4 = (q : Int) := by rw [Int.tdiv_eq_ediv_of_nonneg (by omega)]; omega
  obtain ⟨i0, hi0⟩ : ∃ i, i = a + q * 2 - 1 := ⟨_, rfl⟩
  have hi0i : (a : Int) + (q : Int) * 2 - 1 = (i0 : Int) := by omega
  obtain ⟨T, hT⟩ : ∃ T, T = i0 + 2 := ⟨_, rfl⟩
  have hii : (a : Int) + (q : Int) * 2 + 1 = (T : Int) := by omega
  have hia : a ≤ i0 := by omega
  have hib : i0 + 2 < b := by omega
  have hlb : 12 < l := by omega
  have hlu : l ≤ 4194304 := by omega
  have hal : a + l = b := by omega
  have d8 : decide ((l : Int) ≥ 8) = true := decide_eq_true (by omega)
  have d8' : decide (8 ≤ (l : Int)) = true := decide_eq_true (by omega)
  have d8'' : decide (8 ≤ l) = true := decide_eq_true (by omega)
  have hcv : IntKind.u64.wrap (l : Int) = (l : Int) := by rw [IntKind.wrap_u64]; omega
  obtain ⟨X, hX⟩ : ∃ X, X = w.alloc (.cells #[.int .u64 (l : Nat)] 117) := ⟨_, rfl⟩
  have HBX : Hid (Blk X g #[.int .u64 (l : Nat)] 117) := by unfold Hid; rw [hX, hg]; exact Blk.new w _ _
  have HWX : Hid (Below w.heap.size w X) := by unfold Hid; rw [hX]; exact (Below.refl _ _).alloc (Nat.le_refl _) _
  have HSX : Hid (SoG w blk off d X) := (SoG.self HH.out).below HWX.out
  have NP := Lib.hid (npowU_any l X (by omega) hlu)
  have HASD : Hid (∀ dk w1 w2, SoG w blk off dk w1 → Chg (One g) w1 w2 → SoG w blk off dk w2) := fun dk w1 w2 h1 h2 => h1.aside h2 (by omega) hblk
  rw [← hN] at hb hsz ⊢
  clear hH hN hl hq hi0 HWX
  go_enter Try.func76, Try.ntmps76
  go_upto_region 3 with fail
  rw [← hg, ← hX]
  clear hX hg
  go_wp2_with fail
  refine NP.out.mono ?_; rintro e w1 ⟨⟨m, k, rfl, hm, hm1, hm2⟩, hw⟩
  replace hw := hw.symm; subst hw
  have HM := Lib.hid hm
  clear hm NP d8 d8' d8'' hcv
  go_wp2_with fail
  clear hi0i
  go_loopw [9] (fun iv wr => ∃ (I x : Nat) (dk : Array Int), iv = .int .i64 (I : Nat) ∧ i0 ≤ I ∧ I ≤ i0 + 3 ∧ x < 18446744073709551616 ∧ Hid (SoG w blk off dk wr ∧ PermIn a b d dk ∧ Blk wr g #[.int .u64 (x : Nat)] 117)) (fun iv _ => i0 + 3 - (RowKit.intOf iv).toNat)
  case atStart => exact ⟨i0, l, d, by go_num, Nat.le_refl _, by omega, by omega, HSX.out, permIn_refl _ _ _, HBX.out⟩
  case round =>
    obtain ⟨I, x, dk, rfl, hI1, hI2, hx, HK⟩ := hrel
    have hdk : dk.size = N := by rw [HN.out]; exact HK.out.2.1.1
    by_cases hlt : I ≤ T
    · have d1 : decide ((I : Int) ≤ (T : Int)) = true := decide_eq_true (by omega)
      have d1' : decide (I ≤ T) = true := decide_eq_true hlt
      have NX := Lib.hid (nextX_any g x wr HK.out.2.2 hx)
      have HG := Lib.hid HK.out.1
      have HP := Lib.hid HK.out.2.1
      clear HK
      go_wp2_with fail
      refine NX.out.mono ?_; rintro e w2 ⟨y, rfl, hy, B2, C2⟩
      have HG2 := Lib.hid (HASD.out _ _ _ HG.out C2)
      have HB2 := Lib.hid B2
      obtain ⟨o, ho, hom⟩ := low_bits HM.out hy (by omega) (by omega)
      clear B2 C2 NX HG
      have hIN : (I : Int) < (N : Int) := by omega
      have hIv : IntKind.i64.wrap (I : Int) = (I : Int) := by rw [IntKind.wrap_i64]; omega
      obtain ⟨c0, f0⟩ := HG2.out.cell HH.out (hdk.trans HN.out) (j := I) (by have := HN.out; omega)
      by_cases hol : l ≤ o
      · have d2 : decide ((o : Int) ≥ (l : Int)) = true := decide_eq_true (by omega)
        have d2' : decide ((l : Int) ≤ (o : Int)) = true := decide_eq_true (by omega)
        have d2'' : decide (l ≤ o) = true := decide_eq_true hol
        obtain ⟨o', ho'⟩ : ∃ o', o' = o - l := ⟨_, rfl⟩
        have hoi : (o : Int) - (l : Int) = (o' : Int) := by omega
        have hol' : o' < l := by omega
        have hou : o ≤ 8388608 := by omega
        clear ho'
        obtain ⟨J, hJ⟩ : ∃ J, J = a + o' := ⟨_, rfl⟩
        have hJi : (a : Int) + (o' : Int) = (J : Int) := by omega
        have hJw : IntKind.i64.wrap ((a : Int) + (o' : Int)) = (J : Int) := by rw [IntKind.wrap_i64]; omega
        have hJv : IntKind.i64.wrap (J : Int) = (J : Int) := by rw [IntKind.wrap_i64]; omega
        have hJN : (J : Int) < (N : Int) := by omega
        have hJ1 : a ≤ J := by omega
        have hJ2 : J < b := by omega
        have hob : (o' : Int) ≤ 4194304 := by omega
        obtain ⟨c1, f1⟩ := HG2.out.cell HH.out (hdk.trans HN.out) (j := J) (by have := HN.out; omega)
        obtain ⟨z, cz, fz⟩ := set_cell (HG2.out.holds HH.out (hdk.trans HN.out)) (i := I) (k := J) (by omega) (by omega) dk[J]!
        have HS := Lib.hid (HG2.out.swap HH.out (hdk.trans HN.out) (j := I) (k := J) (by omega) (by omega))
        have HP2 : Hid (PermIn a b d (swp dk I J)) := permIn_trans _ _ _ _ _ HP.out (swp_permIn dk a b I J (by omega) (by omega) (by omega) (by omega) (by omega))
        have HB3 : Hid (∀ u v, Blk ((w2.setCell ⟨blk, off + I, none⟩ u).setCell ⟨blk, off + J, none⟩ v) g #[.int .u64 (y : Nat)] 117) := fun u v => (HB2.out.other (fun e => hne e.symm) u).other (fun e => hne e.symm) v
        obtain ⟨u, hu⟩ : ∃ x, x = dk[I]! := ⟨_, rfl⟩
        obtain ⟨v, hv⟩ : ∃ y, y = dk[J]! := ⟨_, rfl⟩
        rw [← hu, ← hv] at HS
        rw [← hu] at c0
        rw [← hv] at c1
        rw [← hv] at cz fz
        clear hu hv hJ hdk HP HB2 HG2
        go_wp2_with fail
        go_region
        go_wp2_with fail
        go_roundw
        case rel => exact ⟨I + 1, y, _, by go_num, by omega, by omega, hy, HS.out.drewN _, HP2.out, (HB3.out _ _).kept (below_drewN (Below.refl _ _) _)⟩
        case measure => simp [RowKit.intOf]; omega
      · have d2 : decide ((o : Int) ≥ (l : Int)) = false := decide_eq_false (by omega)
        have d2' : decide ((l : Int) ≤ (o : Int)) = false := decide_eq_false (by omega)
        have d2'' : decide (l ≤ o) = false := decide_eq_false hol
        have hol' : o < l := by omega
        obtain ⟨J, hJ⟩ : ∃ J, J = a + o := ⟨_, rfl⟩
        have hJi : (a : Int) + (o : Int) = (J : Int) := by omega
        have hJw : IntKind.i64.wrap ((a : Int) + (o : Int)) = (J : Int) := by rw [IntKind.wrap_i64]; omega
        have hJv : IntKind.i64.wrap (J : Int) = (J : Int) := by rw [IntKind.wrap_i64]; omega
        have hJN : (J : Int) < (N : Int) := by omega
        have hJ1 : a ≤ J := by omega
        have hJ2 : J < b := by omega
        have hob : (o : Int) ≤ 4194304 := by omega
        obtain ⟨c1, f1⟩ := HG2.out.cell HH.out (hdk.trans HN.out) (j := J) (by have := HN.out; omega)
        obtain ⟨z, cz, fz⟩ := set_cell (HG2.out.holds HH.out (hdk.trans HN.out)) (i := I) (k := J) (by omega) (by omega) dk[J]!
        have HS := Lib.hid (HG2.out.swap HH.out (hdk.trans HN.out) (j := I) (k := J) (by omega) (by omega))
        have HP2 : Hid (PermIn a b d (swp dk I J)) := permIn_trans _ _ _ _ _ HP.out (swp_permIn dk a b I J (by omega) (by omega) (by omega) (by omega) (by omega))
        have HB3 : Hid (∀ u v, Blk ((w2.setCell ⟨blk, off + I, none⟩ u).setCell ⟨blk, off + J, none⟩ v) g #[.int .u64 (y : Nat)] 117) := fun u v => (HB2.out.other (fun e => hne e.symm) u).other (fun e => hne e.symm) v
        obtain ⟨u, hu⟩ : ∃ x, x = dk[I]! := ⟨_, rfl⟩
        obtain ⟨v, hv⟩ : ∃ y, y = dk[J]! := ⟨_, rfl⟩
        rw [← hu, ← hv] at HS
        rw [← hu] at c0
        rw [← hv] at c1
        rw [← hv] at cz fz
        clear hu hv hJ hdk HP HB2 HG2
        go_wp2_with fail
        go_region
        go_wp2_with fail
        go_roundw
        case rel => exact ⟨I + 1, y, _, by go_num, by omega, by omega, hy, HS.out.drewN _, HP2.out, (HB3.out _ _).kept (below_drewN (Below.refl _ _) _)⟩
        case measure => simp [RowKit.intOf]; omega
    · have d1 : decide ((I : Int) ≤ (T : Int)) = false := decide_eq_false (by omega)
      have d1' : decide (I ≤ T) = false := decide_eq_false hlt
      go_wp2_with fail
      go_returns
      exact ⟨rfl, dk, HK.out.1, HK.out.2.1⟩
end
end

section
open Go Go.RowKit Go.Lib Go.Sort
set_option maxRecDepth 100000 in
set_option maxHeartbeats 4000000 in
theorem siftU_any (blk off cap lo hi first : Nat) (d : Array Int) (w : World) (hH : Holds uE w blk off d) (hb : first + hi ≤ d.size) (hlo : lo ≤ 4194304) (hsz : d.size ≤ 4194304) :
    Calls Try.prog 86 #[.slice (some ⟨blk, off, none⟩) d.size cap, .int .i64 (lo : Nat), .int .i64 (hi : Nat), .int .i64 (first : Nat)] w fun e w' =>
      e = .returned (.tuple #[]) ∧ SoG w blk off (siftDown ltInt hi first lo d) w' ∧ (siftDown ltInt hi first lo d).size = d.size := by
  have HH := Lib.hid hH
  have LS : Hid (∀ x y w1, Calls Try.prog 80 #[.int .u32 x, .int .u32 y] w1 fun e w' => e = .returned (.bool (ltInt x y)) ∧ w' = w1) := lessU_any
  obtain ⟨N, hN⟩ : ∃ N, N = d.size := ⟨_, rfl⟩
  have HN := Lib.hid hN
  obtain ⟨D, hD⟩ : ∃ D, D = siftDown ltInt hi first lo d := ⟨_, rfl⟩
  have HD := Lib.hid hD
  rw [← hN] at hb hsz ⊢
  rw [← hD]
  clear hH hN hD
  go_enter Try.func86, Try.ntmps86
  go_wp2_with fail
  go_loopw [8] (fun rv wr => ∃ (root : Nat) (dk : Array Int), rv = .int .i64 root ∧ root ≤ 4194304 ∧ Hid (SoG w blk off dk wr ∧ dk.size = N ∧ siftDown ltInt hi first root dk = D)) (fun rv _ => 4194305 - (RowKit.intOf rv).toNat)
  case atStart => exact ⟨lo, d, rfl, hlo, SoG.self HH.out, HN.out.symm, HD.out.symm⟩
  case round =>
    obtain ⟨root, dk, rfl, hroot, HK⟩ := hrel
    have hdk := HK.out.2.1
    obtain ⟨c, hc⟩ : ∃ c, c = 2 * root + 1 := ⟨_, rfl⟩
    have hci : (2 : Int) * (root : Int) + 1 = (c : Int) := by omega
    by_cases hlt : c < hi
    · have d1 : decide ((c : Int) ≥ (hi : Int)) = false := decide_eq_false (by omega)
      have d1' : decide ((hi : Int) ≤ (c : Int)) = false := decide_eq_false (by omega)
      have d1'' : decide (hi ≤ c) = false := decide_eq_false (by omega)
      obtain ⟨t, ht⟩ : ∃ t, t = c + 1 := ⟨_, rfl⟩
      have hti : (c : Int) + 1 = (t : Int) := by omega
      obtain ⟨I0, hI0⟩ : ∃ I, I = first + root := ⟨_, rfl⟩
      have hI0i : (first : Int) + (root : Int) = (I0 : Int) := by omega
      have hI0w : IntKind.i64.wrap ((first : Int) + (root : Int)) = (I0 : Int) := by rw [IntKind.wrap_i64]; omega
      obtain ⟨I1, hI1⟩ : ∃ I, I = first + c := ⟨_, rfl⟩
      have hI1i : (first : Int) + (c : Int) = (I1 : Int) := by omega
      have hI1w : IntKind.i64.wrap ((first : Int) + (c : Int)) = (I1 : Int) := by rw [IntKind.wrap_i64]; omega
      obtain ⟨c0, f0⟩ := HK.out.1.cell HH.out (hdk.trans HN.out) (j := I0) (by have := HN.out; omega)
      obtain ⟨c1, f1⟩ := HK.out.1.cell HH.out (hdk.trans HN.out) (j := I1) (by have := HN.out; omega)
      have hI0N : (I0 : Int) < (N : Int) := by omega
      have hI0v : IntKind.i64.wrap (I0 : Int) = (I0 : Int) := by rw [IntKind.wrap_i64]; omega
      have hI1v : IntKind.i64.wrap (I1 : Int) = (I1 : Int) := by rw [IntKind.wrap_i64]; omega
      have hI1N : (I1 : Int) < (N : Int) := by omega
      by_cases hlt2 : t < hi
      · have d2 : decide ((t : Int) < (hi : Int)) = true := decide_eq_true (by omega)
        have d2' : decide (t < hi) = true := decide_eq_true hlt2
        obtain ⟨I2, hI2⟩ : ∃ I, I = first + t := ⟨_, rfl⟩
        have hI2i : (I1 : Int) + 1 = (I2 : Int) := by omega
        have hI2w : IntKind.i64.wrap ((I1 : Int) + 1) = (I2 : Int) := by rw [IntKind.wrap_i64]; omega
        have hI2j : (first : Int) + (t : Int) = (I2 : Int) := by omega
        have hI2v : IntKind.i64.wrap ((first : Int) + (t : Int)) = (I2 : Int) := by rw [IntKind.wrap_i64]; omega
        obtain ⟨c2, f2⟩ := HK.out.1.cell HH.out (hdk.trans HN.out) (j := I2) (by have := HN.out; omega)
        have hI2N : (I2 : Int) < (N : Int) := by omega
        have hI2z : IntKind.i64.wrap (I2 : Int) = (I2 : Int) := by rw [IntKind.wrap_i64]; omega
        have HR : Hid (ltInt dk[I1]! dk[I2]! = true → D = if ltInt dk[I0]! dk[I2]! = true then siftDown ltInt hi first t (swp dk I0 I2) else dk) := fun h => by
          have := sift_right (hi := hi) (first := first) (root := root) (d := dk) (by omega) (by rw [← hc, ← hI1, show I1 + 1 = I2 by omega]; exact h)
          rw [← HK.out.2.2, this, ← hI0, show 2 * root + 2 = t by omega, ← hI2]
        have HLf : Hid (ltInt dk[I1]! dk[I2]! = false → D = if ltInt dk[I0]! dk[I1]! = true then siftDown ltInt hi first c (swp dk I0 I1) else dk) := fun h => by
          have := sift_left (hi := hi) (first := first) (root := root) (d := dk) (by omega) (fun _ => by rw [← hc, ← hI1, show I1 + 1 = I2 by omega]; exact h)
          rw [← HK.out.2.2, this, ← hI0, ← hc, ← hI1]
        have HS1 := Lib.hid (fun q => (HK.out.1.drewN q).swap HH.out (hdk.trans HN.out) (j := I0) (k := I1) (by omega) (by omega))
        have HS2 := Lib.hid (fun q => (HK.out.1.drewN q).swap HH.out (hdk.trans HN.out) (j := I0) (k := I2) (by omega) (by omega))
        have HZ1 : Hid ((swp dk I0 I1).size = N) := by unfold Hid; rw [swp_sz]; exact hdk
        have HZ2 : Hid ((swp dk I0 I2).size = N) := by unfold Hid; rw [swp_sz]; exact hdk
        have HZ : Hid (dk.size = N) := hdk
        have HG := Lib.hid HK.out.1
        obtain ⟨x, hx⟩ : ∃ x, x = dk[I0]! := ⟨_, rfl⟩
        obtain ⟨y, hy⟩ : ∃ y, y = dk[I1]! := ⟨_, rfl⟩
        obtain ⟨z, hz⟩ : ∃ y, y = dk[I2]! := ⟨_, rfl⟩
        rw [← hx, ← hy] at HS1
        rw [← hx, ← hz] at HS2
        rw [← hx, ← hy, ← hz] at HR HLf
        rw [← hx] at c0
        rw [← hy] at c1
        rw [← hz] at c2
        obtain ⟨p, hp⟩ : ∃ q, q = ltInt y z := ⟨_, rfl⟩
        have LYZ : Hid (∀ w1, Calls Try.prog 80 #[.int .u32 y, .int .u32 z] w1 fun e w' => e = .returned (.bool p) ∧ w' = w1) := fun w1 => by rw [hp]; exact LS.out y z w1
        rw [← hp] at HR HLf
        have hct : (c : Int) < (t : Int) := by omega
        clear hx hy hz hp hc ht hI0 hI1 hI2 HK hdk
        go_wp2_with fail
        go_quiet (first | (go_at_call 80; exact Calls.quiet_of_same (LYZ.out _)))
        cases p with
        | true =>
          have HE := Lib.hid (HR.out rfl)
          clear HR HLf LYZ HS1 HZ1 c1 f1
          go_wp2_with fail
          obtain ⟨W, hW⟩ : ∃ W, W = wr.drewN nq := ⟨_, rfl⟩
          have c0' : W.cell? ⟨blk, off + I0, none⟩ = some (.int .u32 x) := by rw [hW]; exact c0
          have f0' : W.frozen? ⟨blk, off + I0, none⟩ = false := by rw [hW]; exact f0
          have c1' : W.cell? ⟨blk, off + I2, none⟩ = some (.int .u32 z) := by rw [hW]; exact c2
          have f1' : W.frozen? ⟨blk, off + I2, none⟩ = false := by rw [hW]; exact f2
          have HSW := Lib.hid (HS2.out nq)
          have HGW : Hid (SoG w blk off dk W) := by unfold Hid; rw [hW]; exact HG.out.drewN _
          rw [← hW] at HSW ⊢
          clear hW HS2 HG c2 f2 c0 f0
          obtain ⟨q, hq⟩ : ∃ q, q = ltInt x z := ⟨_, rfl⟩
          have LXY : Hid (∀ w1, Calls Try.prog 80 #[.int .u32 x, .int .u32 z] w1 fun e w' => e = .returned (.bool q) ∧ w' = w1) := fun w1 => by rw [hq]; exact LS.out x z w1
          rw [← hq] at HE
          clear hq
          go_quiet (first | (go_at_call 80; exact Calls.quiet_of_same (LXY.out _)))
          cases q with
          | true =>
            have HE2 : Hid (siftDown ltInt hi first t (swp dk I0 I2) = D) := by unfold Hid; rw [HE.out, if_pos rfl]
            clear HE LXY
            go_wp2_with fail
            go_region
            go_wp2_with fail
            go_roundw
            case rel => exact ⟨t, _, by go_num, by omega, HSW.out.drewN _, HZ2.out, HE2.out⟩
            case measure => simp [RowKit.intOf]; omega
          | false =>
            have HE2 : Hid (dk = D) := by unfold Hid; rw [HE.out, if_neg (by simp)]
            clear HE LXY
            go_wp2_with fail
            go_returns
            exact ⟨rfl, by rw [← HE2.out]; exact HGW.out.drewN _, by rw [← HE2.out]; exact HZ.out⟩
        | false =>
          have HE := Lib.hid (HLf.out rfl)
          clear HR HLf LYZ HS2 HZ2 c2 f2
          go_wp2_with fail
          obtain ⟨W, hW⟩ : ∃ W, W = wr.drewN nq := ⟨_, rfl⟩
          have c0' : W.cell? ⟨blk, off + I0, none⟩ = some (.int .u32 x) := by rw [hW]; exact c0
          have f0' : W.frozen? ⟨blk, off + I0, none⟩ = false := by rw [hW]; exact f0
          have c1' : W.cell? ⟨blk, off + I1, none⟩ = some (.int .u32 y) := by rw [hW]; exact c1
          have f1' : W.frozen? ⟨blk, off + I1, none⟩ = false := by rw [hW]; exact f1
          have HSW := Lib.hid (HS1.out nq)
          have HGW : Hid (SoG w blk off dk W) := by unfold Hid; rw [hW]; exact HG.out.drewN _
          rw [← hW] at HSW ⊢
          clear hW HS1 HG c1 f1 c0 f0
          obtain ⟨q, hq⟩ : ∃ q, q = ltInt x y := ⟨_, rfl⟩
          have LXY : Hid (∀ w1, Calls Try.prog 80 #[.int .u32 x, .int .u32 y] w1 fun e w' => e = .returned (.bool q) ∧ w' = w1) := fun w1 => by rw [hq]; exact LS.out x y w1
          rw [← hq] at HE
          clear hq
          go_quiet (first | (go_at_call 80; exact Calls.quiet_of_same (LXY.out _)))
          cases q with
          | true =>
            have HE2 : Hid (siftDown ltInt hi first c (swp dk I0 I1) = D) := by unfold Hid; rw [HE.out, if_pos rfl]
            clear HE LXY
            go_wp2_with fail
            go_region
            go_wp2_with fail
            go_roundw
            case rel => exact ⟨c, _, by go_num, by omega, HSW.out.drewN _, HZ1.out, HE2.out⟩
            case measure => simp [RowKit.intOf]; omega
          | false =>
            have HE2 : Hid (dk = D) := by unfold Hid; rw [HE.out, if_neg (by simp)]
            clear HE LXY
            go_wp2_with fail
            go_returns
            exact ⟨rfl, by rw [← HE2.out]; exact HGW.out.drewN _, by rw [← HE2.out]; exact HZ.out⟩
      · have d2 : decide ((t : Int) < (hi : Int)) = false := decide_eq_false (by omega)
        have d2' : decide (t < hi) = false := decide_eq_false hlt2
        have HE : Hid (D = if ltInt dk[I0]! dk[I1]! = true then siftDown ltInt hi first c (swp dk I0 I1) else dk) := by
          have := sift_left (hi := hi) (first := first) (root := root) (d := dk) (by omega) (fun h => by omega)
          unfold Hid
          rw [← HK.out.2.2, this, ← hI0, ← hc, ← hI1]
        have HS1 := Lib.hid (fun q => (HK.out.1.drewN q).swap HH.out (hdk.trans HN.out) (j := I0) (k := I1) (by omega) (by omega))
        have HZ1 : Hid ((swp dk I0 I1).size = N) := by unfold Hid; rw [swp_sz]; exact hdk
        have HZ : Hid (dk.size = N) := hdk
        have HG := Lib.hid HK.out.1
        obtain ⟨x, hx⟩ : ∃ x, x = dk[I0]! := ⟨_, rfl⟩
        obtain ⟨y, hy⟩ : ∃ y, y = dk[I1]! := ⟨_, rfl⟩
        rw [← hx, ← hy] at HS1 HE
        rw [← hx] at c0
        rw [← hy] at c1
        clear hx hy hc ht hI0 hI1 HK hdk
        go_wp2_with fail
        go_quiet (fail)
        go_wp2_with fail
        obtain ⟨W, hW⟩ : ∃ W, W = wr.drewN nq := ⟨_, rfl⟩
        have c0' : W.cell? ⟨blk, off + I0, none⟩ = some (.int .u32 x) := by rw [hW]; exact c0
        have f0' : W.frozen? ⟨blk, off + I0, none⟩ = false := by rw [hW]; exact f0
        have c1' : W.cell? ⟨blk, off + I1, none⟩ = some (.int .u32 y) := by rw [hW]; exact c1
        have f1' : W.frozen? ⟨blk, off + I1, none⟩ = false := by rw [hW]; exact f1
        have HSW := Lib.hid (HS1.out nq)
        have HGW : Hid (SoG w blk off dk W) := by unfold Hid; rw [hW]; exact HG.out.drewN _
        rw [← hW] at HSW ⊢
        clear hW HS1 HG c1 f1 c0 f0
        obtain ⟨q, hq⟩ : ∃ q, q = ltInt x y := ⟨_, rfl⟩
        have LXY : Hid (∀ w1, Calls Try.prog 80 #[.int .u32 x, .int .u32 y] w1 fun e w' => e = .returned (.bool q) ∧ w' = w1) := fun w1 => by rw [hq]; exact LS.out x y w1
        rw [← hq] at HE
        clear hq
        go_quiet (first | (go_at_call 80; exact Calls.quiet_of_same (LXY.out _)))
        cases q with
        | true =>
          have HE2 : Hid (siftDown ltInt hi first c (swp dk I0 I1) = D) := by unfold Hid; rw [HE.out, if_pos rfl]
          clear HE LXY
          go_wp2_with fail
          go_region
          go_wp2_with fail
          go_roundw
          case rel => exact ⟨c, _, by go_num, by omega, HSW.out.drewN _, HZ1.out, HE2.out⟩
          case measure => simp [RowKit.intOf]; omega
        | false =>
          have HE2 : Hid (dk = D) := by unfold Hid; rw [HE.out, if_neg (by simp)]
          clear HE LXY
          go_wp2_with fail
          go_returns
          exact ⟨rfl, by rw [← HE2.out]; exact HGW.out.drewN _, by rw [← HE2.out]; exact HZ.out⟩
    · have d1 : decide ((c : Int) ≥ (hi : Int)) = true := decide_eq_true (by omega)
      have d1' : decide ((hi : Int) ≤ (c : Int)) = true := decide_eq_true (by omega)
      have d1'' : decide (hi ≤ c) = true := decide_eq_true (by omega)
      have HE : Hid (dk = D) := by unfold Hid; rw [← HK.out.2.2, sift_stop (by omega)]
      have hcb : (c : Int) ≤ 8388609 := by omega
      clear hc
      go_wp2_with fail
      go_returns
      exact ⟨rfl, by rw [← HE.out]; exact HK.out.1, by rw [← HE.out]; exact hdk⟩

set_option maxRecDepth 100000 in
set_option maxHeartbeats 4000000 in
theorem heapU_any (blk off cap a b : Nat) (d : Array Int) (w : World) (hH : Holds uE w blk off d) (hab : a + 1 < b) (hb : b ≤ d.size) (hsz : d.size ≤ 4194304) :
    Calls Try.prog 75 #[.slice (some ⟨blk, off, none⟩) d.size cap, .int .i64 (a : Nat), .int .i64 (b : Nat)] w fun e w' =>
      e = .returned (.tuple #[]) ∧ ∃ d', SoG w blk off d' w' ∧ PermIn a b d d' ∧ SortedIn ltInt a b d' := by
  have HH := Lib.hid hH
  have HP : Hid (PermIn a b d (heapSort ltInt d a b) ∧ SortedIn ltInt a b (heapSort ltInt d a b)) := heapSort_holds swo_ltInt d a b (by omega) hb
  obtain ⟨N, hN⟩ : ∃ N, N = d.size := ⟨_, rfl⟩
  have HN := Lib.hid hN
  obtain ⟨n, hn⟩ : ∃ n, n = b - a := ⟨_, rfl⟩
  obtain ⟨D, hD⟩ : ∃ D, D = heapSort ltInt d a b := ⟨_, rfl⟩
  have HD : Hid (D = heapPop ltInt a n (heapBuild ltInt n a ((n - 1) / 2 + 1) d)) := by unfold Hid; rw [hD, hn]; rfl
  rw [← hD] at HP
  rw [← hN] at hb hsz ⊢
  have SF : Hid (∀ (lo hi : Nat) (dk : Array Int) (wk : World), Holds uE wk blk off dk → a + hi ≤ dk.size → lo ≤ 4194304 → dk.size = N →
      Calls Try.prog 86 #[.slice (some ⟨blk, off, none⟩) N cap, .int .i64 (lo : Nat), .int .i64 (hi : Nat), .int .i64 (a : Nat)] wk fun e w' =>
        e = .returned (.tuple #[]) ∧ SoG wk blk off (siftDown ltInt hi a lo dk) w' ∧ (siftDown ltInt hi a lo dk).size = N) := fun lo hi dk wk h1 h2 h3 h4 => by
    have := siftU_any blk off cap lo hi a dk wk h1 h2 h3 (by omega)
    rw [h4] at this; exact this
  have hni : (b : Int) - (a : Int) = (n : Int) := by omega
  have hn1 : 2 ≤ n := by omega
  have hanN : a + n ≤ N := by omega
  obtain ⟨h, hh⟩ : ∃ h, h = (n - 1) / 2 := ⟨_, rfl⟩
  have hhi : ((n : Int) - 1) / 2 = (h : Int) := by omega
  have hhq : Int.tdiv ((n : Int) - 1) 2 = (h : Int) := by rw [Int.tdiv_eq_ediv_of_nonneg (by omega)]; omega
  have hhn : h < n := by omega
  rw [← hh] at HD
  clear hH hN hn hD hh
  go_enter Try.func75, Try.ntmps75
  go_wp2_with fail
  clear hhq hhi hni
  go_loopw [9] (fun iv wr => ∃ (k : Nat) (dk : Array Int), iv = .int .i64 ((k : Int) - 1) ∧ k ≤ h + 1 ∧ Hid (SoG w blk off dk wr ∧ dk.size = N ∧ heapBuild ltInt n a k dk = heapBuild ltInt n a (h + 1) d)) (fun iv _ => (RowKit.intOf iv + 1).toNat)
  case atStart => exact ⟨h + 1, d, by simp, Nat.le_refl _, SoG.self HH.out, HN.out.symm, rfl⟩
  case round =>
    obtain ⟨k, dk, rfl, hk, HK⟩ := hrel
    have hdk := HK.out.2.1
    cases k with
    | zero =>
      rw [show ((0 : Nat) : Int) - 1 = -1 from rfl]
      have d1 : decide ((-1 : Int) ≥ 0) = false := by decide
      have HB : Hid (D = heapPop ltInt a n dk) := by unfold Hid; rw [HD.out, ← HK.out.2.2]; rfl
      have HG := Lib.hid HK.out.1
      have HZ := Lib.hid hdk
      clear HK hdk HD hk
      go_wp2_with fail
      go_loopw [10] (fun iv wr => ∃ (k : Nat) (dk : Array Int), iv = .int .i64 ((k : Int) - 1) ∧ k ≤ n ∧ Hid (SoG w blk off dk wr ∧ dk.size = N ∧ D = heapPop ltInt a k dk)) (fun iv _ => (RowKit.intOf iv + 1).toNat)
      case atStart => exact ⟨n, dk, by go_num, Nat.le_refl _, HG.out, HZ.out, HB.out⟩
      case round =>
        clear HG HZ HB
        obtain ⟨k, dk, rfl, hk, HK⟩ := hrel
        have hdk := HK.out.2.1
        cases k with
        | zero =>
          have HB : Hid (D = dk) := HK.out.2.2
          rw [show ((0 : Nat) : Int) - 1 = -1 from rfl]
          have d1 : decide ((-1 : Int) ≥ 0) = false := by decide
          go_wp2_with fail
          go_returns
          exact ⟨rfl, dk, HK.out.1, by rw [← HB.out]; exact HP.out⟩
        | succ i =>
          have hki : ((i + 1 : Nat) : Int) - 1 = (i : Int) := by omega
          rw [hki]
          have d1 : decide ((i : Int) ≥ 0) = true := decide_eq_true (by omega)
          obtain ⟨I, hI⟩ : ∃ I, I = a + i := ⟨_, rfl⟩
          have hIi : (a : Int) + (i : Int) = (I : Int) := by omega
          have hIw : IntKind.i64.wrap ((a : Int) + (i : Int)) = (I : Int) := by rw [IntKind.wrap_i64]; omega
          obtain ⟨c0, f0⟩ := HK.out.1.cell HH.out (hdk.trans HN.out) (j := a) (by have := HN.out; omega)
          obtain ⟨c1, f1⟩ := HK.out.1.cell HH.out (hdk.trans HN.out) (j := I) (by have := HN.out; omega)
          have hIN : (I : Int) < (N : Int) := by omega
          have hIv : IntKind.i64.wrap (I : Int) = (I : Int) := by rw [IntKind.wrap_i64]; omega
          have haN : (a : Int) < (N : Int) := by omega
          have HS := Lib.hid (HK.out.1.swap HH.out (hdk.trans HN.out) (j := a) (k := I) (by omega) (by omega))
          have HZ : Hid ((swp dk a I).size = N) := by unfold Hid; rw [swp_sz]; exact hdk
          have HE : Hid (D = heapPop ltInt a i (siftDown ltInt i a 0 (swp dk a I))) := by unfold Hid; rw [HK.out.2.2, hI]; rfl
          obtain ⟨z, cz, fz⟩ := set_cell (HK.out.1.holds HH.out (hdk.trans HN.out)) (i := a) (k := I) (by omega) (by omega) dk[I]!
          obtain ⟨x, hx⟩ : ∃ x, x = dk[a]! := ⟨_, rfl⟩
          obtain ⟨y, hy⟩ : ∃ y, y = dk[I]! := ⟨_, rfl⟩
          rw [← hy] at cz fz
          rw [← hx, ← hy] at HS
          rw [← hx] at c0
          rw [← hy] at c1
          obtain ⟨ds, hds⟩ : ∃ ds, ds = swp dk a I := ⟨_, rfl⟩
          rw [← hds] at HS HZ HE
          clear hx hy hI HK hdk hds
          go_wp2_with fail
          go_region
          go_wp2_with fail
          refine (SF.out 0 i ds _ ((HS.out.drewN _).holds HH.out (HZ.out.trans HN.out)) (by rw [HZ.out]; omega) (by omega) HZ.out).mono ?_
          rintro e w3 ⟨rfl, g3, z3⟩
          have HG3 := Lib.hid ((HS.out.drewN _).trans g3 (z3.trans HZ.out.symm))
          have HZ3 := Lib.hid z3
          clear g3 z3
          go_wp2_with fail
          go_roundw
          case rel => exact ⟨i, _, by go_num, by omega, HG3.out, HZ3.out, HE.out⟩
          case measure => simp [RowKit.intOf]
    | succ i =>
      have hki : ((i + 1 : Nat) : Int) - 1 = (i : Int) := by omega
      rw [hki]
      have d1 : decide ((i : Int) ≥ 0) = true := decide_eq_true (by omega)
      have HE : Hid (heapBuild ltInt n a i (siftDown ltInt n a i dk) = heapBuild ltInt n a (h + 1) d) := HK.out.2.2
      have SC := Lib.hid (SF.out i n dk wr (HK.out.1.holds HH.out (hdk.trans HN.out)) (by omega) (by omega) hdk)
      have HG := Lib.hid HK.out.1
      have HZ := Lib.hid hdk
      clear HK hdk
      go_wp2_with fail
      refine SC.out.mono ?_
      rintro e w3 ⟨rfl, g3, z3⟩
      have HG3 := Lib.hid (HG.out.trans g3 (z3.trans HZ.out.symm))
      have HZ3 := Lib.hid z3
      clear g3 z3
      go_wp2_with fail
      go_roundw
      case rel => exact ⟨i, _, by go_num, by omega, HG3.out, HZ3.out, HE.out⟩
      case measure => simp [RowKit.intOf]
end

section
open Go Go.RowKit Go.Lib Go.Sort
theorem scan_pair (p q : Int → Bool) (hq : ∀ x, q x = !p x) (d : Array Int) (i j : Nat) (hi : 1 ≤ i) (hij : i ≤ j + 1) :
    i ≤ scanUp p d j i ∧ scanUp p d j i ≤ j + 1 ∧ scanDown q d (scanUp p d j i) j ≤ j ∧ scanUp p d j i ≤ scanDown q d (scanUp p d j i) j + 1 ∧
    (¬ scanUp p d j i > scanDown q d (scanUp p d j i) j → scanUp p d j i < scanDown q d (scanUp p d j i) j) := by
  obtain ⟨a1, a2, _, a4⟩ := scanUp_spec p d j _ i rfl
  obtain ⟨b1, b2, _, b4⟩ := scanDown_spec q d (scanUp p d j i) j
  refine ⟨a1, a2 hij, b1, b2 (a2 hij), fun h => ?_⟩
  rcases Nat.lt_or_ge (scanUp p d j i) (scanDown q d (scanUp p d j i) j) with h1 | h1
  · exact h1
  · have e : scanUp p d j i = scanDown q d (scanUp p d j i) j := by omega
    have h2 := a4 (by omega)
    have h3 := b4 (by omega) (by omega)
    rw [← e, hq, h2] at h3
    exact absurd h3 (by simp)
set_option maxRecDepth 100000 in
set_option maxHeartbeats 8000000 in
theorem partEqU_any (blk off cap a b pivot : Nat) (d : Array Int) (w : World) (hH : Holds uE w blk off d) (hap : a ≤ pivot) (hpb : pivot < b) (hb : b ≤ d.size) (hsz : d.size ≤ 4194304) :
    Calls Try.prog 81 #[.slice (some ⟨blk, off, none⟩) d.size cap, .int .i64 (a : Nat), .int .i64 (b : Nat), .int .i64 (pivot : Nat)] w fun e w' =>
      e = .returned (.int .i64 (partitionEqual ltInt d a b pivot).1) ∧ SoG w blk off (partitionEqual ltInt d a b pivot).2 w' := by
  have HH := Lib.hid hH
  have LS : Hid (∀ x y w1, Calls Try.prog 80 #[.int .u32 x, .int .u32 y] w1 fun e w' => e = .returned (.bool (ltInt x y)) ∧ w' = w1) := lessU_any
  obtain ⟨d1, hd1⟩ : ∃ d1, d1 = swp d a pivot := ⟨_, rfl⟩
  obtain ⟨Q1, hR1⟩ : ∃ R, R = (partitionEqual ltInt d a b pivot).1 := ⟨_, rfl⟩
  obtain ⟨Q2, hR2⟩ : ∃ R, R = (partitionEqual ltInt d a b pivot).2 := ⟨_, rfl⟩
  have HDEF : Hid (partEqLoop ltInt a (a + 1) (b - 1) d1 = (Q1, Q2)) := by unfold Hid; rw [hR1, hR2, hd1]; rfl
  rw [← hR1, ← hR2]
  clear hR1 hR2
  obtain ⟨N, hN⟩ : ∃ N, N = d.size := ⟨_, rfl⟩
  have HN := Lib.hid hN
  have hd0 : Hid (d.size = N) := hN.symm
  have HG0 : Hid (SoG w blk off d w) := SoG.self HH.out
  rw [← hN] at hb hsz ⊢
  clear hH hN
  obtain ⟨B, hB⟩ : ∃ B, B = b - 1 := ⟨_, rfl⟩
  have hBi : (b : Int) - 1 = (B : Int) := by omega
  have hBb : B < b := by omega
  have haB : a ≤ B := by omega
  rw [← hB] at HDEF
  clear hB
  go_enter Try.func81, Try.ntmps81
  go_upto_region 1 with fail
  have hiN : (a : Int) < (N : Int) := by omega
  have hjN : (pivot : Int) < (N : Int) := by omega
  obtain ⟨c0, f0⟩ := HG0.out.cell HH.out (hd0.out.trans HN.out) (j := a) (by have := HN.out; omega)
  obtain ⟨c1, f1⟩ := HG0.out.cell HH.out (hd0.out.trans HN.out) (j := pivot) (by have := HN.out; omega)
  obtain ⟨z, cz, fz⟩ := set_cell (HG0.out.holds HH.out (hd0.out.trans HN.out)) (i := a) (k := pivot) (by have := hd0.out; omega) (by have := hd0.out; omega) d[pivot]!
  have HS := Lib.hid (HG0.out.swap HH.out (hd0.out.trans HN.out) (j := a) (k := pivot) (by have := hd0.out; omega) (by have := hd0.out; omega))
  have HZ1 : Hid ((swp d a pivot).size = N) := by unfold Hid; rw [swp_sz]; exact hd0.out
  obtain ⟨u, hu⟩ : ∃ x, x = d[a]! := ⟨_, rfl⟩
  obtain ⟨v, hv⟩ : ∃ y, y = d[pivot]! := ⟨_, rfl⟩
  rw [← hu, ← hv] at HS
  rw [← hu] at c0
  rw [← hv] at c1
  rw [← hv] at cz fz
  clear hu hv
  rw [← hd1] at HS HZ1
  clear hd1 HG0 hd0
  go_region
  have HG1 : Hid (SoG w blk off d1 (((w.setCell ⟨blk, off + a, none⟩ (.int .u32 v)).setCell ⟨blk, off + pivot, none⟩ (.int .u32 u)).drew)) := HS.out.drewN 1
  obtain ⟨w1, hw1⟩ : ∃ w1, w1 = (((w.setCell ⟨blk, off + a, none⟩ (.int .u32 v)).setCell ⟨blk, off + pivot, none⟩ (.int .u32 u)).drew) := ⟨_, rfl⟩
  rw [← hw1] at HG1 ⊢
  clear hw1 HS c0 c1 f0 f1 cz fz hiN hjN
  have P0 : Nat := 0
  go_wp2_with fail
  go_loopw [9, 10] (fun vi vj wr => ∃ (i0 j0 : Nat) (dk : Array Int), vi = .int .i64 (i0 : Nat) ∧ vj = .int .i64 (j0 : Nat) ∧ a < i0 ∧ i0 ≤ j0 + 1 ∧ j0 < b ∧ Hid (SoG w blk off dk wr) ∧ Hid (dk.size = N) ∧ Hid (partEqLoop ltInt a i0 j0 dk = (Q1, Q2))) (fun vi vj _ => (RowKit.intOf vj).toNat + 1 - (RowKit.intOf vi).toNat)
  case atStart => exact ⟨a + 1, B, d1, by first | rfl | go_num, by first | rfl | go_num, by omega, by omega, by omega, HG1.out, HZ1.out, HDEF.out⟩
  case round =>
    obtain ⟨i0, j0, dk, rfl, rfl, ha0, hij0, hj0b, HGk, HZk, HLk⟩ := hrel
    obtain ⟨P, hP⟩ : ∃ P, P = dk[a]! := ⟨_, rfl⟩
    have HP := Lib.hid hP
    have HPR := scan_pair (fun x => !ltInt P x) (fun x => ltInt P x) (by intro x; simp) dk i0 j0 (by omega) (by omega)
    have HQL : Hid ((Q1, Q2) = _) := HLk.out.symm.trans (partEqLoop_eq ltInt a i0 j0 dk)
    rw [← hP] at HQL
    obtain ⟨I2, hI2⟩ : ∃ I, I = scanUp (fun x => !ltInt P x) dk j0 i0 := ⟨_, rfl⟩
    rw [← hI2] at HPR HQL
    obtain ⟨J2, hJ2⟩ : ∃ J, J = scanDown (fun x => ltInt P x) dk I2 j0 := ⟨_, rfl⟩
    rw [← hJ2] at HPR HQL
    have HI2 : Hid (scanUp (fun x => !ltInt P x) dk j0 i0 = I2) := hI2.symm
    have HJ2 : Hid (scanDown (fun x => ltInt P x) dk I2 j0 = J2) := hJ2.symm
    obtain ⟨hlt1, hlt2, hlt3, hlt4, hlt5⟩ := HPR
    clear hI2 hJ2 hP HLk
    go_wp2_with fail
    go_loopw [9] (fun vv wr => ∃ i : Nat, vv = .int .i64 (i : Nat) ∧ i0 ≤ i ∧ i ≤ j0 + 1 ∧ Hid (SoG w blk off dk wr) ∧ Hid (scanUp (fun x => !ltInt P x) dk j0 i = I2)) (fun vv _ => j0 + 1 - (RowKit.intOf vv).toNat)
    case atStart => exact ⟨i0, by first | rfl | go_num, by omega, by omega, HGk.out, HI2.out⟩
    case round =>
      obtain ⟨i, rfl, hv1, hv2, HGi, HSi⟩ := hrel
      go_upto_region 3 with fail
      go_cut [43] from 29 to 43 (fun c wx => ∃ β : Bool, c = .bool β ∧ Hid (β = (decide (i ≤ j0) && !ltInt P dk[i]!)) ∧ Hid (SoG w blk off dk wx))
      case first =>
        by_cases hle : i ≤ j0
        · have e1 : decide ((i : Int) ≤ (j0 : Int)) = true := decide_eq_true (by omega)
          have e1' : decide (i ≤ j0) = true := decide_eq_true hle
          obtain ⟨c0, f0⟩ := HGi.out.cell HH.out (HZk.out.trans HN.out) (j := i) (by have := HN.out; omega)
          obtain ⟨c1, f1⟩ := HGi.out.cell HH.out (HZk.out.trans HN.out) (j := a) (by have := HN.out; omega)
          rw [← HP.out] at c1
          obtain ⟨x, hx⟩ : ∃ x, x = dk[i]! := ⟨_, rfl⟩
          rw [← hx] at c0
          obtain ⟨q, hq⟩ : ∃ q, q = ltInt P x := ⟨_, rfl⟩
          have LXY : Hid (∀ w1, Calls Try.prog 80 #[.int .u32 P, .int .u32 x] w1 fun e w' => e = .returned (.bool q) ∧ w' = w1) := fun w1 => by rw [hq]; exact LS.out _ _ w1
          have HQ : Hid ((!q) = (decide (i ≤ j0) && !ltInt P dk[i]!)) := by unfold Hid; rw [e1', hq, hx]; simp
          have hvN : (i : Int) < (N : Int) := by omega
          have haN : (a : Int) < (N : Int) := by omega
          clear hx hq HSi
          go_wp2_with fail
          go_quiet (first | (go_at_call 80; exact Calls.quiet_of_same (LXY.out _)))
          go_wp2_with fail
          go_meet
          exact ⟨_, rfl, HQ.out, HGi.out.drewN _⟩
        · have e1 : decide ((i : Int) ≤ (j0 : Int)) = false := decide_eq_false (by omega)
          have e1' : decide (i ≤ j0) = false := decide_eq_false hle
          have HQ : Hid (false = (decide (i ≤ j0) && !ltInt P dk[i]!)) := by unfold Hid; rw [e1']; simp
          clear HSi
          go_wp2_with fail
          go_quiet (fail)
          go_wp2_with fail
          go_meet
          exact ⟨_, rfl, HQ.out, HGi.out.drewN _⟩
      case rest =>
        obtain ⟨β, rfl, HB, HGx⟩ := hcut
        cases β with
        | true =>
          have hb := HB.out.symm
          rw [Bool.and_eq_true, decide_eq_true_eq] at hb
          have hle := hb.1
          have HS2 : Hid (scanUp (fun x => !ltInt P x) dk j0 (i + 1) = I2) := by
            unfold Hid; rw [← HSi.out]; conv => rhs; unfold scanUp
            rw [if_pos (by rw [Bool.and_eq_true, decide_eq_true_eq]; exact hb)]
          clear hb HB HSi
          go_wp2_with fail
          go_roundw
          case rel => exact ⟨i + 1, by go_num, by omega, by omega, HGx.out, HS2.out⟩
          case measure => simp [RowKit.intOf]; omega
        | false =>
          have he : I2 = i := by
            have hb := HB.out.symm
            rw [← HSi.out]; conv => lhs; unfold scanUp
            rw [if_neg (by rw [hb]; simp)]
          replace he := he.symm
          subst he
          clear HB HSi hv1 hv2
          have HGu := HGx
          clear HGi HGx
          go_wp2_with fail
          go_loopw [10] (fun vv wr => ∃ j : Nat, vv = .int .i64 (j : Nat) ∧ j ≤ j0 ∧ i ≤ j + 1 ∧ Hid (SoG w blk off dk wr) ∧ Hid (scanDown (fun x => ltInt P x) dk i j = J2)) (fun vv _ => (RowKit.intOf vv).toNat)
          case atStart => exact ⟨j0, by first | rfl | go_num, by omega, by omega, HGu.out, HJ2.out⟩
          case round =>
            obtain ⟨j, rfl, hv1, hv2, HGi, HSi⟩ := hrel
            go_upto_region 5 with fail
            go_cut [59] from 46 to 59 (fun c wx => ∃ β : Bool, c = .bool β ∧ Hid (β = (decide (i ≤ j) && ltInt P dk[j]!)) ∧ Hid (SoG w blk off dk wx))
            case first =>
              by_cases hle : i ≤ j
              · have e1 : decide ((i : Int) ≤ (j : Int)) = true := decide_eq_true (by omega)
                have e1' : decide (i ≤ j) = true := decide_eq_true hle
                obtain ⟨c0, f0⟩ := HGi.out.cell HH.out (HZk.out.trans HN.out) (j := j) (by have := HN.out; omega)
                obtain ⟨c1, f1⟩ := HGi.out.cell HH.out (HZk.out.trans HN.out) (j := a) (by have := HN.out; omega)
                rw [← HP.out] at c1
                obtain ⟨x, hx⟩ : ∃ x, x = dk[j]! := ⟨_, rfl⟩
                rw [← hx] at c0
                obtain ⟨q, hq⟩ : ∃ q, q = ltInt P x := ⟨_, rfl⟩
                have LXY : Hid (∀ w1, Calls Try.prog 80 #[.int .u32 P, .int .u32 x] w1 fun e w' => e = .returned (.bool q) ∧ w' = w1) := fun w1 => by rw [hq]; exact LS.out _ _ w1
                have HQ : Hid (q = (decide (i ≤ j) && ltInt P dk[j]!)) := by unfold Hid; rw [e1', hq, hx]; simp
                have hvN : (j : Int) < (N : Int) := by omega
                have haN : (a : Int) < (N : Int) := by omega
                clear hx hq HSi
                go_wp2_with fail
                go_quiet (first | (go_at_call 80; exact Calls.quiet_of_same (LXY.out _)))
                go_wp2_with fail
                go_meet
                exact ⟨_, rfl, HQ.out, HGi.out.drewN _⟩
              · have e1 : decide ((i : Int) ≤ (j : Int)) = false := decide_eq_false (by omega)
                have e1' : decide (i ≤ j) = false := decide_eq_false hle
                have HQ : Hid (false = (decide (i ≤ j) && ltInt P dk[j]!)) := by unfold Hid; rw [e1']; simp
                clear HSi
                go_wp2_with fail
                go_quiet (fail)
                go_wp2_with fail
                go_meet
                exact ⟨_, rfl, HQ.out, HGi.out.drewN _⟩
            case rest =>
              obtain ⟨β, rfl, HB, HGx⟩ := hcut
              cases β with
              | true =>
                have hb := HB.out.symm
                rw [Bool.and_eq_true, decide_eq_true_eq] at hb
                have hle := hb.1
                obtain ⟨j', rfl⟩ : ∃ j', j = j' + 1 := ⟨j - 1, by omega⟩
                have HS2 : Hid (scanDown (fun x => ltInt P x) dk i j' = J2) := by
                  unfold Hid; rw [← HSi.out]; conv => rhs; unfold scanDown
                  rw [if_pos (by rw [Bool.and_eq_true, decide_eq_true_eq]; exact hb)]
                clear hb HB HSi
                have hjj : (((j' + 1 : Nat)) : Int) - 1 = (j' : Int) := by omega
                go_wp2_with fail
                go_roundw
                case rel => exact ⟨j', by first | (rw [← hjj]; go_num) | go_num, by omega, by omega, HGx.out, HS2.out⟩
                case measure => simp [RowKit.intOf]; try omega
              | false =>
                have he : J2 = j := by
                  have hb := HB.out.symm
                  rw [← HSi.out]
                  cases j with
                  | zero => rfl
                  | succ j => conv => lhs; unfold scanDown
                              rw [if_neg (by rw [hb]; simp)]
                replace he := he.symm
                subst he
                clear HB HSi hv1 hv2
                have HGd2 := HGx
                clear HGi HGx
                by_cases hgt : i > j
                · have t1 : decide ((i : Int) > (j : Int)) = true := decide_eq_true (by omega)
                  have t1' : decide ((j : Int) < (i : Int)) = true := decide_eq_true (by omega)
                  have t1'' : decide (j < i) = true := decide_eq_true (by omega)
                  have HF : Hid ((Q1, Q2) = (i, dk)) := by unfold Hid; rw [HQL.out, if_pos hgt]
                  clear HQL
                  go_wp2_with fail
                  go_ret
                  have HF1 : Q1 = i := congrArg Prod.fst HF.out
                  have HF2 : Q2 = dk := congrArg Prod.snd HF.out
                  exact ⟨by rw [HF1]; rfl, by rw [HF2]; exact HGd2.out⟩
                · have t1 : decide ((i : Int) > (j : Int)) = false := decide_eq_false (by omega)
                  have t1' : decide ((j : Int) < (i : Int)) = false := decide_eq_false (by omega)
                  have t1'' : decide (j < i) = false := decide_eq_false (by omega)
                  have hltij := hlt5 hgt
                  have HF : Hid (partEqLoop ltInt a (i + 1) (j - 1) (swp dk i j) = (Q1, Q2)) := by unfold Hid; rw [HQL.out, if_neg hgt]
                  clear HQL
                  have hiN : (i : Int) < (N : Int) := by omega
                  have hjN : (j : Int) < (N : Int) := by omega
                  obtain ⟨c0, f0⟩ := HGd2.out.cell HH.out (HZk.out.trans HN.out) (j := i) (by have := HN.out; omega)
                  obtain ⟨c1, f1⟩ := HGd2.out.cell HH.out (HZk.out.trans HN.out) (j := j) (by have := HN.out; omega)
                  obtain ⟨z, cz, fz⟩ := set_cell (HGd2.out.holds HH.out (HZk.out.trans HN.out)) (i := i) (k := j) (by have := HZk.out; omega) (by have := HZk.out; omega) dk[j]!
                  have HS := Lib.hid (HGd2.out.swap HH.out (HZk.out.trans HN.out) (j := i) (k := j) (by have := HZk.out; omega) (by have := HZk.out; omega))
                  have HZ2 : Hid ((swp dk i j).size = N) := by unfold Hid; rw [swp_sz]; exact HZk.out
                  obtain ⟨u, hu⟩ : ∃ x, x = dk[i]! := ⟨_, rfl⟩
                  obtain ⟨v, hv⟩ : ∃ y, y = dk[j]! := ⟨_, rfl⟩
                  rw [← hu, ← hv] at HS
                  rw [← hu] at c0
                  rw [← hv] at c1
                  rw [← hv] at cz fz
                  clear hu hv
                  have hPsw : Hid (P0 = P0) := rfl
                  clear HGd2 hPsw
                  go_wp2_with fail
                  go_region
                  have hj1 : (j : Int) - 1 = ((j - 1 : Nat) : Int) := by omega
                  go_wp2_with fail
                  go_roundw
                  case rel => exact ⟨i + 1, j - 1, swp dk i j, by go_num, by first | (rw [← hj1]; go_num) | go_num, by omega, by omega, by omega, HS.out.drewN _, HZ2.out, HF.out⟩
                  case measure => simp [RowKit.intOf]; omega
set_option maxRecDepth 100000 in
set_option maxHeartbeats 8000000 in
theorem partU_any (blk off cap a b pivot : Nat) (d : Array Int) (w : World) (hH : Holds uE w blk off d) (hap : a ≤ pivot) (hpb : pivot < b) (hb : b ≤ d.size) (hsz : d.size ≤ 4194304) :
    Calls Try.prog 82 #[.slice (some ⟨blk, off, none⟩) d.size cap, .int .i64 (a : Nat), .int .i64 (b : Nat), .int .i64 (pivot : Nat)] w fun e w' =>
      e = .returned (.tuple #[.int .i64 (partition ltInt d a b pivot).1, .bool (partition ltInt d a b pivot).2.1]) ∧ SoG w blk off (partition ltInt d a b pivot).2.2 w' := by
  have HH := Lib.hid hH
  have LS : Hid (∀ x y w1, Calls Try.prog 80 #[.int .u32 x, .int .u32 y] w1 fun e w' => e = .returned (.bool (ltInt x y)) ∧ w' = w1) := lessU_any
  obtain ⟨d1, hd1⟩ : ∃ d1, d1 = swp d a pivot := ⟨_, rfl⟩
  obtain ⟨R1, hR1⟩ : ∃ R, R = (partition ltInt d a b pivot).1 := ⟨_, rfl⟩
  obtain ⟨R2, hR2⟩ : ∃ R, R = (partition ltInt d a b pivot).2.1 := ⟨_, rfl⟩
  obtain ⟨R3, hR3⟩ : ∃ R, R = (partition ltInt d a b pivot).2.2 := ⟨_, rfl⟩
  have HDEF : Hid ((R1, R2, R3) = if scanUp (fun x => ltInt x d1[a]!) d1 (b - 1) (a + 1) > scanDown (fun x => !ltInt x d1[a]!) d1 (scanUp (fun x => ltInt x d1[a]!) d1 (b - 1) (a + 1)) (b - 1)
      then (scanDown (fun x => !ltInt x d1[a]!) d1 (scanUp (fun x => ltInt x d1[a]!) d1 (b - 1) (a + 1)) (b - 1), true, swp d1 (scanDown (fun x => !ltInt x d1[a]!) d1 (scanUp (fun x => ltInt x d1[a]!) d1 (b - 1) (a + 1)) (b - 1)) a)
      else ((partLoop ltInt a (scanUp (fun x => ltInt x d1[a]!) d1 (b - 1) (a + 1) + 1) (scanDown (fun x => !ltInt x d1[a]!) d1 (scanUp (fun x => ltInt x d1[a]!) d1 (b - 1) (a + 1)) (b - 1) - 1) (swp d1 (scanUp (fun x => ltInt x d1[a]!) d1 (b - 1) (a + 1)) (scanDown (fun x => !ltInt x d1[a]!) d1 (scanUp (fun x => ltInt x d1[a]!) d1 (b - 1) (a + 1)) (b - 1)))).1, false,
        swp (partLoop ltInt a (scanUp (fun x => ltInt x d1[a]!) d1 (b - 1) (a + 1) + 1) (scanDown (fun x => !ltInt x d1[a]!) d1 (scanUp (fun x => ltInt x d1[a]!) d1 (b - 1) (a + 1)) (b - 1) - 1) (swp d1 (scanUp (fun x => ltInt x d1[a]!) d1 (b - 1) (a + 1)) (scanDown (fun x => !ltInt x d1[a]!) d1 (scanUp (fun x => ltInt x d1[a]!) d1 (b - 1) (a + 1)) (b - 1)))).2 (partLoop ltInt a (scanUp (fun x => ltInt x d1[a]!) d1 (b - 1) (a + 1) + 1) (scanDown (fun x => !ltInt x d1[a]!) d1 (scanUp (fun x => ltInt x d1[a]!) d1 (b - 1) (a + 1)) (b - 1) - 1) (swp d1 (scanUp (fun x => ltInt x d1[a]!) d1 (b - 1) (a + 1)) (scanDown (fun x => !ltInt x d1[a]!) d1 (scanUp (fun x => ltInt x d1[a]!) d1 (b - 1) (a + 1)) (b - 1)))).1 a)) := by
    unfold Hid; rw [hR1, hR2, hR3, hd1]; rfl
  rw [← hR1, ← hR2, ← hR3]
  clear hR1 hR2 hR3
  obtain ⟨N, hN⟩ : ∃ N, N = d.size := ⟨_, rfl⟩
  have HN := Lib.hid hN
  have hd0 : Hid (d.size = N) := hN.symm
  have HG0 : Hid (SoG w blk off d w) := SoG.self HH.out
  rw [← hN] at hb hsz ⊢
  clear hH hN
  obtain ⟨B, hB⟩ : ∃ B, B = b - 1 := ⟨_, rfl⟩
  have hBi : (b : Int) - 1 = (B : Int) := by omega
  have hBb : B < b := by omega
  have haB : a ≤ B := by omega
  rw [← hB] at HDEF
  clear hB
  go_enter Try.func82, Try.ntmps82
  go_upto_region 1 with fail
  have hiN : (a : Int) < (N : Int) := by omega
  have hjN : (pivot : Int) < (N : Int) := by omega
  obtain ⟨c0, f0⟩ := HG0.out.cell HH.out (hd0.out.trans HN.out) (j := a) (by have := HN.out; omega)
  obtain ⟨c1, f1⟩ := HG0.out.cell HH.out (hd0.out.trans HN.out) (j := pivot) (by have := HN.out; omega)
  obtain ⟨z, cz, fz⟩ := set_cell (HG0.out.holds HH.out (hd0.out.trans HN.out)) (i := a) (k := pivot) (by have := hd0.out; omega) (by have := hd0.out; omega) d[pivot]!
  have HS := Lib.hid (HG0.out.swap HH.out (hd0.out.trans HN.out) (j := a) (k := pivot) (by have := hd0.out; omega) (by have := hd0.out; omega))
  have HZ1 : Hid ((swp d a pivot).size = N) := by unfold Hid; rw [swp_sz]; exact hd0.out
  obtain ⟨u, hu⟩ : ∃ x, x = d[a]! := ⟨_, rfl⟩
  obtain ⟨v, hv⟩ : ∃ y, y = d[pivot]! := ⟨_, rfl⟩
  rw [← hu, ← hv] at HS
  rw [← hu] at c0
  rw [← hv] at c1
  rw [← hv] at cz fz
  clear hu hv
  rw [← hd1] at HS HZ1
  clear hd1 HG0 hd0
  go_region
  have HG1 : Hid (SoG w blk off d1 (((w.setCell ⟨blk, off + a, none⟩ (.int .u32 v)).setCell ⟨blk, off + pivot, none⟩ (.int .u32 u)).drew)) := HS.out.drewN 1
  obtain ⟨w1, hw1⟩ : ∃ w1, w1 = (((w.setCell ⟨blk, off + a, none⟩ (.int .u32 v)).setCell ⟨blk, off + pivot, none⟩ (.int .u32 u)).drew) := ⟨_, rfl⟩
  rw [← hw1] at HG1 ⊢
  clear hw1 HS c0 c1 f0 f1 cz fz hiN hjN
  obtain ⟨P, hP⟩ : ∃ P, P = d1[a]! := ⟨_, rfl⟩
  have HP := Lib.hid hP
  rw [← hP] at HDEF
  have HPR := scan_pair (fun x => ltInt x P) (fun x => !ltInt x P) (by intro x; simp) d1 (a + 1) B (by omega) (by omega)
  obtain ⟨I2, hI2⟩ : ∃ I, I = scanUp (fun x => ltInt x P) d1 B (a + 1) := ⟨_, rfl⟩
  rw [← hI2] at HPR HDEF
  obtain ⟨J2, hJ2⟩ : ∃ J, J = scanDown (fun x => !ltInt x P) d1 I2 B := ⟨_, rfl⟩
  rw [← hJ2] at HPR HDEF
  have HI2 : Hid (scanUp (fun x => ltInt x P) d1 B (a + 1) = I2) := hI2.symm
  have HJ2 : Hid (scanDown (fun x => !ltInt x P) d1 I2 B = J2) := hJ2.symm
  obtain ⟨hlt1, hlt2, hlt3, hlt4, hlt5⟩ := HPR
  clear hI2 hJ2 hP
  go_wp2_with fail
  go_loopw [10] (fun vv wr => ∃ i : Nat, vv = .int .i64 (i : Nat) ∧ (a + 1) ≤ i ∧ i ≤ B + 1 ∧ Hid (SoG w blk off d1 wr) ∧ Hid (scanUp (fun x => ltInt x P) d1 B i = I2)) (fun vv _ => B + 1 - (RowKit.intOf vv).toNat)
  case atStart => exact ⟨(a + 1), by first | rfl | go_num, by omega, by omega, HG1.out, HI2.out⟩
  case round =>
    obtain ⟨i, rfl, hv1, hv2, HGi, HSi⟩ := hrel
    go_upto_region 3 with fail
    go_cut [43] from 30 to 43 (fun c wx => ∃ β : Bool, c = .bool β ∧ Hid (β = (decide (i ≤ B) && ltInt d1[i]! P)) ∧ Hid (SoG w blk off d1 wx))
    case first =>
      by_cases hle : i ≤ B
      · have e1 : decide ((i : Int) ≤ (B : Int)) = true := decide_eq_true (by omega)
        have e1' : decide (i ≤ B) = true := decide_eq_true hle
        obtain ⟨c0, f0⟩ := HGi.out.cell HH.out (HZ1.out.trans HN.out) (j := i) (by have := HN.out; omega)
        obtain ⟨c1, f1⟩ := HGi.out.cell HH.out (HZ1.out.trans HN.out) (j := a) (by have := HN.out; omega)
        rw [← HP.out] at c1
        obtain ⟨x, hx⟩ : ∃ x, x = d1[i]! := ⟨_, rfl⟩
        rw [← hx] at c0
        obtain ⟨q, hq⟩ : ∃ q, q = ltInt x P := ⟨_, rfl⟩
        have LXY : Hid (∀ w1, Calls Try.prog 80 #[.int .u32 x, .int .u32 P] w1 fun e w' => e = .returned (.bool q) ∧ w' = w1) := fun w1 => by rw [hq]; exact LS.out _ _ w1
        have HQ : Hid (q = (decide (i ≤ B) && ltInt d1[i]! P)) := by unfold Hid; rw [e1', hq, hx]; simp
        have hvN : (i : Int) < (N : Int) := by omega
        have haN : (a : Int) < (N : Int) := by omega
        clear hx hq HSi
        go_wp2_with fail
        go_quiet (first | (go_at_call 80; exact Calls.quiet_of_same (LXY.out _)))
        go_wp2_with fail
        go_meet
        exact ⟨_, rfl, HQ.out, HGi.out.drewN _⟩
      · have e1 : decide ((i : Int) ≤ (B : Int)) = false := decide_eq_false (by omega)
        have e1' : decide (i ≤ B) = false := decide_eq_false hle
        have HQ : Hid (false = (decide (i ≤ B) && ltInt d1[i]! P)) := by unfold Hid; rw [e1']; simp
        clear HSi
        go_wp2_with fail
        go_quiet (fail)
        go_wp2_with fail
        go_meet
        exact ⟨_, rfl, HQ.out, HGi.out.drewN _⟩
    case rest =>
      obtain ⟨β, rfl, HB, HGx⟩ := hcut
      cases β with
      | true =>
        have hb := HB.out.symm
        rw [Bool.and_eq_true, decide_eq_true_eq] at hb
        have hle := hb.1
        have HS2 : Hid (scanUp (fun x => ltInt x P) d1 B (i + 1) = I2) := by
          unfold Hid; rw [← HSi.out]; conv => rhs; unfold scanUp
          rw [if_pos (by rw [Bool.and_eq_true, decide_eq_true_eq]; exact hb)]
        clear hb HB HSi
        go_wp2_with fail
        go_roundw
        case rel => exact ⟨i + 1, by go_num, by omega, by omega, HGx.out, HS2.out⟩
        case measure => simp [RowKit.intOf]; omega
      | false =>
        have he : I2 = i := by
          have hb := HB.out.symm
          rw [← HSi.out]; conv => lhs; unfold scanUp
          rw [if_neg (by rw [hb]; simp)]
        replace he := he.symm
        subst he
        clear HB HSi hv1 hv2
        have HGu := HGx
        clear HGi HGx
        go_wp2_with fail
        go_loopw [11] (fun vv wr => ∃ j : Nat, vv = .int .i64 (j : Nat) ∧ j ≤ B ∧ i ≤ j + 1 ∧ Hid (SoG w blk off d1 wr) ∧ Hid (scanDown (fun x => !ltInt x P) d1 i j = J2)) (fun vv _ => (RowKit.intOf vv).toNat)
        case atStart => exact ⟨B, by first | rfl | go_num, by omega, by omega, HGu.out, HJ2.out⟩
        case round =>
          obtain ⟨j, rfl, hv1, hv2, HGi, HSi⟩ := hrel
          go_upto_region 5 with fail
          go_cut [60] from 46 to 60 (fun c wx => ∃ β : Bool, c = .bool β ∧ Hid (β = (decide (i ≤ j) && !ltInt d1[j]! P)) ∧ Hid (SoG w blk off d1 wx))
          case first =>
            by_cases hle : i ≤ j
            · have e1 : decide ((i : Int) ≤ (j : Int)) = true := decide_eq_true (by omega)
              have e1' : decide (i ≤ j) = true := decide_eq_true hle
              obtain ⟨c0, f0⟩ := HGi.out.cell HH.out (HZ1.out.trans HN.out) (j := j) (by have := HN.out; omega)
              obtain ⟨c1, f1⟩ := HGi.out.cell HH.out (HZ1.out.trans HN.out) (j := a) (by have := HN.out; omega)
              rw [← HP.out] at c1
              obtain ⟨x, hx⟩ : ∃ x, x = d1[j]! := ⟨_, rfl⟩
              rw [← hx] at c0
              obtain ⟨q, hq⟩ : ∃ q, q = ltInt x P := ⟨_, rfl⟩
              have LXY : Hid (∀ w1, Calls Try.prog 80 #[.int .u32 x, .int .u32 P] w1 fun e w' => e = .returned (.bool q) ∧ w' = w1) := fun w1 => by rw [hq]; exact LS.out _ _ w1
              have HQ : Hid ((!q) = (decide (i ≤ j) && !ltInt d1[j]! P)) := by unfold Hid; rw [e1', hq, hx]; simp
              have hvN : (j : Int) < (N : Int) := by omega
              have haN : (a : Int) < (N : Int) := by omega
              clear hx hq HSi
              go_wp2_with fail
              go_quiet (first | (go_at_call 80; exact Calls.quiet_of_same (LXY.out _)))
              go_wp2_with fail
              go_meet
              exact ⟨_, rfl, HQ.out, HGi.out.drewN _⟩
            · have e1 : decide ((i : Int) ≤ (j : Int)) = false := decide_eq_false (by omega)
              have e1' : decide (i ≤ j) = false := decide_eq_false hle
              have HQ : Hid (false = (decide (i ≤ j) && !ltInt d1[j]! P)) := by unfold Hid; rw [e1']; simp
              clear HSi
              go_wp2_with fail
              go_quiet (fail)
              go_wp2_with fail
              go_meet
              exact ⟨_, rfl, HQ.out, HGi.out.drewN _⟩
          case rest =>
            obtain ⟨β, rfl, HB, HGx⟩ := hcut
            cases β with
            | true =>
              have hb := HB.out.symm
              rw [Bool.and_eq_true, decide_eq_true_eq] at hb
              have hle := hb.1
              obtain ⟨j', rfl⟩ : ∃ j', j = j' + 1 := ⟨j - 1, by omega⟩
              have HS2 : Hid (scanDown (fun x => !ltInt x P) d1 i j' = J2) := by
                unfold Hid; rw [← HSi.out]; conv => rhs; unfold scanDown
                rw [if_pos (by rw [Bool.and_eq_true, decide_eq_true_eq]; exact hb)]
              clear hb HB HSi
              have hjj : (((j' + 1 : Nat)) : Int) - 1 = (j' : Int) := by omega
              go_wp2_with fail
              go_roundw
              case rel => exact ⟨j', by first | (rw [← hjj]; go_num) | go_num, by omega, by omega, HGx.out, HS2.out⟩
              case measure => simp [RowKit.intOf]; try omega
            | false =>
              have he : J2 = j := by
                have hb := HB.out.symm
                rw [← HSi.out]
                cases j with
                | zero => rfl
                | succ j => conv => lhs; unfold scanDown
                            rw [if_neg (by rw [hb]; simp)]
              replace he := he.symm
              subst he
              clear HB HSi hv1 hv2
              have HGd2 := HGx
              clear HGi HGx
              by_cases hgt : i > j
              · have t1 : decide ((i : Int) > (j : Int)) = true := decide_eq_true (by omega)
                have t1' : decide ((j : Int) < (i : Int)) = true := decide_eq_true (by omega)
                have t1'' : decide (j < i) = true := decide_eq_true (by omega)
                have HF : Hid ((R1, R2, R3) = (j, true, swp d1 j a)) := by unfold Hid; rw [HDEF.out, if_pos hgt]
                clear HDEF
                have hiN : (j : Int) < (N : Int) := by omega
                have hjN : (a : Int) < (N : Int) := by omega
                obtain ⟨c0, f0⟩ := HGd2.out.cell HH.out (HZ1.out.trans HN.out) (j := j) (by have := HN.out; omega)
                obtain ⟨c1, f1⟩ := HGd2.out.cell HH.out (HZ1.out.trans HN.out) (j := a) (by have := HN.out; omega)
                obtain ⟨z, cz, fz⟩ := set_cell (HGd2.out.holds HH.out (HZ1.out.trans HN.out)) (i := j) (k := a) (by have := HZ1.out; omega) (by have := HZ1.out; omega) d1[a]!
                have HS := Lib.hid (HGd2.out.swap HH.out (HZ1.out.trans HN.out) (j := j) (k := a) (by have := HZ1.out; omega) (by have := HZ1.out; omega))
                have HZ4 : Hid ((swp d1 j a).size = N) := by unfold Hid; rw [swp_sz]; exact HZ1.out
                obtain ⟨u, hu⟩ : ∃ x, x = d1[j]! := ⟨_, rfl⟩
                obtain ⟨v, hv⟩ : ∃ y, y = d1[a]! := ⟨_, rfl⟩
                rw [← hu, ← hv] at HS
                rw [← hu] at c0
                rw [← hv] at c1
                rw [← hv] at cz fz
                clear hu hv
                go_wp2_with fail
                go_region
                go_wp2_with fail
                go_ret2
                have E1 : R1 = j := congrArg Prod.fst HF.out
                have E2 : R2 = true := congrArg (fun z => z.2.1) HF.out
                have E3 : R3 = swp d1 j a := congrArg (fun z => z.2.2) HF.out
                exact ⟨by rw [E1, E2]; rfl, by rw [E3]; exact HS.out.drewN _⟩
              · have t1 : decide ((i : Int) > (j : Int)) = false := decide_eq_false (by omega)
                have t1' : decide ((j : Int) < (i : Int)) = false := decide_eq_false (by omega)
                have t1'' : decide (j < i) = false := decide_eq_false (by omega)
                have hltij := hlt5 hgt
                obtain ⟨Q1, hQ1⟩ : ∃ Q, Q = (partLoop ltInt a (i + 1) (j - 1) (swp d1 i j)).1 := ⟨_, rfl⟩
                obtain ⟨Q2, hQ2⟩ : ∃ Q, Q = (partLoop ltInt a (i + 1) (j - 1) (swp d1 i j)).2 := ⟨_, rfl⟩
                have HQQ : Hid (partLoop ltInt a (i + 1) (j - 1) (swp d1 i j) = (Q1, Q2)) := by unfold Hid; rw [hQ1, hQ2]
                have HD3 : Hid ((R1, R2, R3) = (Q1, false, swp Q2 Q1 a)) := by unfold Hid; rw [HDEF.out, if_neg hgt, HQQ.out]
                clear HDEF hQ1 hQ2
                have hiN : (i : Int) < (N : Int) := by omega
                have hjN : (j : Int) < (N : Int) := by omega
                obtain ⟨c0, f0⟩ := HGd2.out.cell HH.out (HZ1.out.trans HN.out) (j := i) (by have := HN.out; omega)
                obtain ⟨c1, f1⟩ := HGd2.out.cell HH.out (HZ1.out.trans HN.out) (j := j) (by have := HN.out; omega)
                obtain ⟨z, cz, fz⟩ := set_cell (HGd2.out.holds HH.out (HZ1.out.trans HN.out)) (i := i) (k := j) (by have := HZ1.out; omega) (by have := HZ1.out; omega) d1[j]!
                have HS := Lib.hid (HGd2.out.swap HH.out (HZ1.out.trans HN.out) (j := i) (k := j) (by have := HZ1.out; omega) (by have := HZ1.out; omega))
                have HZ5 : Hid ((swp d1 i j).size = N) := by unfold Hid; rw [swp_sz]; exact HZ1.out
                obtain ⟨u, hu⟩ : ∃ x, x = d1[i]! := ⟨_, rfl⟩
                obtain ⟨v, hv⟩ : ∃ y, y = d1[j]! := ⟨_, rfl⟩
                rw [← hu, ← hv] at HS
                rw [← hu] at c0
                rw [← hv] at c1
                rw [← hv] at cz fz
                clear hu hv
                clear HGd2
                have P0 : Nat := 0
                go_wp2_with fail
                go_region
                have hj1 : (j : Int) - 1 = ((j - 1 : Nat) : Int) := by omega
                go_wp2_with fail
                have k1 : a < i := by omega
                have k2 : j < b := by omega
                clear HP t1 t1' t1'' c0 c1 f0 f1 cz fz hiN hjN hlt1 hlt2 hlt3 hlt4 hlt5 hgt
                go_loopw [10, 11] (fun vi vj wr => ∃ (i0 j0 : Nat) (dk : Array Int), vi = .int .i64 (i0 : Nat) ∧ vj = .int .i64 (j0 : Nat) ∧ a < i0 ∧ i0 ≤ j0 + 1 ∧ j0 < b ∧ Hid (SoG w blk off dk wr) ∧ Hid (dk.size = N) ∧ Hid (partLoop ltInt a i0 j0 dk = (Q1, Q2))) (fun vi vj _ => (RowKit.intOf vj).toNat + 1 - (RowKit.intOf vi).toNat)
                case atStart => exact ⟨i + 1, j - 1, swp d1 i j, by first | rfl | go_num, by first | rfl | go_num, by omega, by omega, by omega, HS.out.drewN _, HZ5.out, HQQ.out⟩
                case round =>
                  obtain ⟨i0, j0, dk, rfl, rfl, ha0, hij0, hj0b, HGk, HZk, HLk⟩ := hrel
                  obtain ⟨P, hP⟩ : ∃ P, P = dk[a]! := ⟨_, rfl⟩
                  have HP := Lib.hid hP
                  have HPR := scan_pair (fun x => ltInt x P) (fun x => !ltInt x P) (by intro x; simp) dk i0 j0 (by omega) (by omega)
                  have HQL : Hid ((Q1, Q2) = _) := HLk.out.symm.trans (partLoop_eq ltInt a i0 j0 dk)
                  rw [← hP] at HQL
                  obtain ⟨I2, hI2⟩ : ∃ I, I = scanUp (fun x => ltInt x P) dk j0 i0 := ⟨_, rfl⟩
                  rw [← hI2] at HPR HQL
                  obtain ⟨J2, hJ2⟩ : ∃ J, J = scanDown (fun x => !ltInt x P) dk I2 j0 := ⟨_, rfl⟩
                  rw [← hJ2] at HPR HQL
                  have HI2 : Hid (scanUp (fun x => ltInt x P) dk j0 i0 = I2) := hI2.symm
                  have HJ2 : Hid (scanDown (fun x => !ltInt x P) dk I2 j0 = J2) := hJ2.symm
                  obtain ⟨hlt1, hlt2, hlt3, hlt4, hlt5⟩ := HPR
                  clear hI2 hJ2 hP HLk
                  go_wp2_with fail
                  go_loopw [10] (fun vv wr => ∃ i : Nat, vv = .int .i64 (i : Nat) ∧ i0 ≤ i ∧ i ≤ j0 + 1 ∧ Hid (SoG w blk off dk wr) ∧ Hid (scanUp (fun x => ltInt x P) dk j0 i = I2)) (fun vv _ => j0 + 1 - (RowKit.intOf vv).toNat)
                  case atStart => exact ⟨i0, by first | rfl | go_num, by omega, by omega, HGk.out, HI2.out⟩
                  case round =>
                    obtain ⟨i, rfl, hv1, hv2, HGi, HSi⟩ := hrel
                    go_upto_region 13 with fail
                    go_cut [112] from 99 to 112 (fun c wx => ∃ β : Bool, c = .bool β ∧ Hid (β = (decide (i ≤ j0) && ltInt dk[i]! P)) ∧ Hid (SoG w blk off dk wx))
                    case first =>
                      by_cases hle : i ≤ j0
                      · have e1 : decide ((i : Int) ≤ (j0 : Int)) = true := decide_eq_true (by omega)
                        have e1' : decide (i ≤ j0) = true := decide_eq_true hle
                        obtain ⟨c0, f0⟩ := HGi.out.cell HH.out (HZk.out.trans HN.out) (j := i) (by have := HN.out; omega)
                        obtain ⟨c1, f1⟩ := HGi.out.cell HH.out (HZk.out.trans HN.out) (j := a) (by have := HN.out; omega)
                        rw [← HP.out] at c1
                        obtain ⟨x, hx⟩ : ∃ x, x = dk[i]! := ⟨_, rfl⟩
                        rw [← hx] at c0
                        obtain ⟨q, hq⟩ : ∃ q, q = ltInt x P := ⟨_, rfl⟩
                        have LXY : Hid (∀ w1, Calls Try.prog 80 #[.int .u32 x, .int .u32 P] w1 fun e w' => e = .returned (.bool q) ∧ w' = w1) := fun w1 => by rw [hq]; exact LS.out _ _ w1
                        have HQ : Hid (q = (decide (i ≤ j0) && ltInt dk[i]! P)) := by unfold Hid; rw [e1', hq, hx]; simp
                        have hvN : (i : Int) < (N : Int) := by omega
                        have haN : (a : Int) < (N : Int) := by omega
                        clear hx hq HSi
                        go_wp2_with fail
                        go_quiet (first | (go_at_call 80; exact Calls.quiet_of_same (LXY.out _)))
                        go_wp2_with fail
                        go_meet
                        exact ⟨_, rfl, HQ.out, HGi.out.drewN _⟩
                      · have e1 : decide ((i : Int) ≤ (j0 : Int)) = false := decide_eq_false (by omega)
                        have e1' : decide (i ≤ j0) = false := decide_eq_false hle
                        have HQ : Hid (false = (decide (i ≤ j0) && ltInt dk[i]! P)) := by unfold Hid; rw [e1']; simp
                        clear HSi
                        go_wp2_with fail
                        go_quiet (fail)
                        go_wp2_with fail
                        go_meet
                        exact ⟨_, rfl, HQ.out, HGi.out.drewN _⟩
                    case rest =>
                      obtain ⟨β, rfl, HB, HGx⟩ := hcut
                      cases β with
                      | true =>
                        have hb := HB.out.symm
                        rw [Bool.and_eq_true, decide_eq_true_eq] at hb
                        have hle := hb.1
                        have HS2 : Hid (scanUp (fun x => ltInt x P) dk j0 (i + 1) = I2) := by
                          unfold Hid; rw [← HSi.out]; conv => rhs; unfold scanUp
                          rw [if_pos (by rw [Bool.and_eq_true, decide_eq_true_eq]; exact hb)]
                        clear hb HB HSi
                        go_wp2_with fail
                        go_roundw
                        case rel => exact ⟨i + 1, by go_num, by omega, by omega, HGx.out, HS2.out⟩
                        case measure => simp [RowKit.intOf]; omega
                      | false =>
                        have he : I2 = i := by
                          have hb := HB.out.symm
                          rw [← HSi.out]; conv => lhs; unfold scanUp
                          rw [if_neg (by rw [hb]; simp)]
                        replace he := he.symm
                        subst he
                        clear HB HSi hv1 hv2
                        have HGu := HGx
                        clear HGi HGx
                        go_wp2_with fail
                        go_loopw [11] (fun vv wr => ∃ j : Nat, vv = .int .i64 (j : Nat) ∧ j ≤ j0 ∧ i ≤ j + 1 ∧ Hid (SoG w blk off dk wr) ∧ Hid (scanDown (fun x => !ltInt x P) dk i j = J2)) (fun vv _ => (RowKit.intOf vv).toNat)
                        case atStart => exact ⟨j0, by first | rfl | go_num, by omega, by omega, HGu.out, HJ2.out⟩
                        case round =>
                          obtain ⟨j, rfl, hv1, hv2, HGi, HSi⟩ := hrel
                          go_upto_region 15 with fail
                          go_cut [129] from 115 to 129 (fun c wx => ∃ β : Bool, c = .bool β ∧ Hid (β = (decide (i ≤ j) && !ltInt dk[j]! P)) ∧ Hid (SoG w blk off dk wx))
                          case first =>
                            by_cases hle : i ≤ j
                            · have e1 : decide ((i : Int) ≤ (j : Int)) = true := decide_eq_true (by omega)
                              have e1' : decide (i ≤ j) = true := decide_eq_true hle
                              obtain ⟨c0, f0⟩ := HGi.out.cell HH.out (HZk.out.trans HN.out) (j := j) (by have := HN.out; omega)
                              obtain ⟨c1, f1⟩ := HGi.out.cell HH.out (HZk.out.trans HN.out) (j := a) (by have := HN.out; omega)
                              rw [← HP.out] at c1
                              obtain ⟨x, hx⟩ : ∃ x, x = dk[j]! := ⟨_, rfl⟩
                              rw [← hx] at c0
                              obtain ⟨q, hq⟩ : ∃ q, q = ltInt x P := ⟨_, rfl⟩
                              have LXY : Hid (∀ w1, Calls Try.prog 80 #[.int .u32 x, .int .u32 P] w1 fun e w' => e = .returned (.bool q) ∧ w' = w1) := fun w1 => by rw [hq]; exact LS.out _ _ w1
                              have HQ : Hid ((!q) = (decide (i ≤ j) && !ltInt dk[j]! P)) := by unfold Hid; rw [e1', hq, hx]; simp
                              have hvN : (j : Int) < (N : Int) := by omega
                              have haN : (a : Int) < (N : Int) := by omega
                              clear hx hq HSi
                              go_wp2_with fail
                              go_quiet (first | (go_at_call 80; exact Calls.quiet_of_same (LXY.out _)))
                              go_wp2_with fail
                              go_meet
                              exact ⟨_, rfl, HQ.out, HGi.out.drewN _⟩
                            · have e1 : decide ((i : Int) ≤ (j : Int)) = false := decide_eq_false (by omega)
                              have e1' : decide (i ≤ j) = false := decide_eq_false hle
                              have HQ : Hid (false = (decide (i ≤ j) && !ltInt dk[j]! P)) := by unfold Hid; rw [e1']; simp
                              clear HSi
                              go_wp2_with fail
                              go_quiet (fail)
                              go_wp2_with fail
                              go_meet
                              exact ⟨_, rfl, HQ.out, HGi.out.drewN _⟩
                          case rest =>
                            obtain ⟨β, rfl, HB, HGx⟩ := hcut
                            cases β with
                            | true =>
                              have hb := HB.out.symm
                              rw [Bool.and_eq_true, decide_eq_true_eq] at hb
                              have hle := hb.1
                              obtain ⟨j', rfl⟩ : ∃ j', j = j' + 1 := ⟨j - 1, by omega⟩
                              have HS2 : Hid (scanDown (fun x => !ltInt x P) dk i j' = J2) := by
                                unfold Hid; rw [← HSi.out]; conv => rhs; unfold scanDown
                                rw [if_pos (by rw [Bool.and_eq_true, decide_eq_true_eq]; exact hb)]
                              clear hb HB HSi
                              have hjj : (((j' + 1 : Nat)) : Int) - 1 = (j' : Int) := by omega
                              go_wp2_with fail
                              go_roundw
                              case rel => exact ⟨j', by first | (rw [← hjj]; go_num) | go_num, by omega, by omega, HGx.out, HS2.out⟩
                              case measure => simp [RowKit.intOf]; try omega
                            | false =>
                              have he : J2 = j := by
                                have hb := HB.out.symm
                                rw [← HSi.out]
                                cases j with
                                | zero => rfl
                                | succ j => conv => lhs; unfold scanDown
                                            rw [if_neg (by rw [hb]; simp)]
                              replace he := he.symm
                              subst he
                              clear HB HSi hv1 hv2
                              have HGd2 := HGx
                              clear HGi HGx
                              by_cases hgt : i > j
                              · have t1 : decide ((i : Int) > (j : Int)) = true := decide_eq_true (by omega)
                                have t1' : decide ((j : Int) < (i : Int)) = true := decide_eq_true (by omega)
                                have t1'' : decide (j < i) = true := decide_eq_true (by omega)
                                have HF : Hid ((Q1, Q2) = (j, dk)) := by unfold Hid; rw [HQL.out, if_pos hgt]
                                clear HQL
                                go_wp2_with fail
                                have HF1 : Q1 = j := congrArg Prod.fst HF.out
                                have HF2 : Q2 = dk := congrArg Prod.snd HF.out
                                subst HF1
                                subst HF2
                                have hiN : (Q1 : Int) < (N : Int) := by omega
                                have hjN : (a : Int) < (N : Int) := by omega
                                obtain ⟨c0, f0⟩ := HGd2.out.cell HH.out (HZk.out.trans HN.out) (j := Q1) (by have := HN.out; omega)
                                obtain ⟨c1, f1⟩ := HGd2.out.cell HH.out (HZk.out.trans HN.out) (j := a) (by have := HN.out; omega)
                                obtain ⟨z, cz, fz⟩ := set_cell (HGd2.out.holds HH.out (HZk.out.trans HN.out)) (i := Q1) (k := a) (by have := HZk.out; omega) (by have := HZk.out; omega) Q2[a]!
                                have HS := Lib.hid (HGd2.out.swap HH.out (HZk.out.trans HN.out) (j := Q1) (k := a) (by have := HZk.out; omega) (by have := HZk.out; omega))
                                have HZ3 : Hid ((swp Q2 Q1 a).size = N) := by unfold Hid; rw [swp_sz]; exact HZk.out
                                obtain ⟨u, hu⟩ : ∃ x, x = Q2[Q1]! := ⟨_, rfl⟩
                                obtain ⟨v, hv⟩ : ∃ y, y = Q2[a]! := ⟨_, rfl⟩
                                rw [← hu, ← hv] at HS
                                rw [← hu] at c0
                                rw [← hv] at c1
                                rw [← hv] at cz fz
                                clear hu hv
                                go_region
                                go_wp2_with fail
                                go_ret2
                                have E1 : R1 = Q1 := congrArg Prod.fst HD3.out
                                have E2 : R2 = false := congrArg (fun z => z.2.1) HD3.out
                                have E3 : R3 = swp Q2 Q1 a := congrArg (fun z => z.2.2) HD3.out
                                exact ⟨by rw [E1, E2]; rfl, by rw [E3]; exact HS.out.drewN _⟩
                              · have t1 : decide ((i : Int) > (j : Int)) = false := decide_eq_false (by omega)
                                have t1' : decide ((j : Int) < (i : Int)) = false := decide_eq_false (by omega)
                                have t1'' : decide (j < i) = false := decide_eq_false (by omega)
                                have hltij := hlt5 hgt
                                have HF : Hid (partLoop ltInt a (i + 1) (j - 1) (swp dk i j) = (Q1, Q2)) := by unfold Hid; rw [HQL.out, if_neg hgt]
                                clear HQL
                                have hiN : (i : Int) < (N : Int) := by omega
                                have hjN : (j : Int) < (N : Int) := by omega
                                obtain ⟨c0, f0⟩ := HGd2.out.cell HH.out (HZk.out.trans HN.out) (j := i) (by have := HN.out; omega)
                                obtain ⟨c1, f1⟩ := HGd2.out.cell HH.out (HZk.out.trans HN.out) (j := j) (by have := HN.out; omega)
                                obtain ⟨z, cz, fz⟩ := set_cell (HGd2.out.holds HH.out (HZk.out.trans HN.out)) (i := i) (k := j) (by have := HZk.out; omega) (by have := HZk.out; omega) dk[j]!
                                have HS := Lib.hid (HGd2.out.swap HH.out (HZk.out.trans HN.out) (j := i) (k := j) (by have := HZk.out; omega) (by have := HZk.out; omega))
                                have HZ2 : Hid ((swp dk i j).size = N) := by unfold Hid; rw [swp_sz]; exact HZk.out
                                obtain ⟨u, hu⟩ : ∃ x, x = dk[i]! := ⟨_, rfl⟩
                                obtain ⟨v, hv⟩ : ∃ y, y = dk[j]! := ⟨_, rfl⟩
                                rw [← hu, ← hv] at HS
                                rw [← hu] at c0
                                rw [← hv] at c1
                                rw [← hv] at cz fz
                                clear hu hv
                                have hPsw : Hid (P0 = P0) := rfl
                                clear HGd2 hPsw
                                go_wp2_with fail
                                go_region
                                have hj1 : (j : Int) - 1 = ((j - 1 : Nat) : Int) := by omega
                                go_wp2_with fail
                                go_roundw
                                case rel => exact ⟨i + 1, j - 1, swp dk i j, by go_num, by first | (rw [← hj1]; go_num) | go_num, by omega, by omega, by omega, HS.out.drewN _, HZ2.out, HF.out⟩
                                case measure => simp [RowKit.intOf]; omega
end

end Go.Proofs.Ytfabjlhepadkpaa
