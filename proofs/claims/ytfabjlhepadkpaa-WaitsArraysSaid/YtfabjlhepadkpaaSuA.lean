/-
  Sorting rows of uint32: cmp.Less; insertion sort.
  slices.Sort at rows of uint32 of at most twelve; rows of uint32 that are owned.
-/
import Derived.Test.YtfabjlhepadkpaaProg
import Derived.Test.YtfabjlhepadkpaaMem
import Derived.Lib.Hide
import Derived.Sort.LotA
import Derived.Sort.Row
import Derived.WalkKit
import Derived.Deep.QuietTactic
import Derived.BigQuiet
import Derived.Handy
import Derived.Deep.DeepCutAuto
import Derived.Deep.CutBlock
import Derived.Test.YtfabjlhepadkpaaShelf
import Derived.Test.YtfabjlhepadkpaaRwG
import Derived.Test.YtfabjlhepadkpaaRwO
import Derived.OwnWalk
namespace Go.Proofs.Ytfabjlhepadkpaa
set_option linter.unusedVariables false

section
open Go Go.RowKit Go.Lib Go.Sort
abbrev uE : Int → Value := Value.int .u32
theorem nanU_any (x : Int) (w : World) : Calls Try.prog 57 #[.int .u32 x] w fun e w' => e = .returned (.bool false) ∧ w' = w := by
  go_enter Try.func57, Try.ntmps57
  go_wp2_with fail
  go_ret
  exact ⟨by simp, rfl⟩
theorem lessU_any (x y : Int) (w : World) : Calls Try.prog 80 #[.int .u32 x, .int .u32 y] w fun e w' => e = .returned (.bool (ltInt x y)) ∧ w' = w := by
  go_enter Try.func80, Try.ntmps80
  go_wp2_with (go_at_call 57; refine (nanU_any _ _).mono ?_; rintro e w1 ⟨rfl, rfl⟩)
  go_ret
  exact ⟨rfl, rfl⟩
/-- A row in the memory that has been sorted on: all else is as it was, but for the draws. -/
def SoW (w : World) (blk off : Nat) (d' : Array Int) (w' : World) : Prop := ∃ n, w' = putRow uE (Sort.ahead w n) blk off d'
theorem SoW.cell {w w' : World} {blk off : Nat} {d d' : Array Int} (h : SoW w blk off d' w') (hH : Holds uE w blk off d) (hs : d'.size = d.size) {j : Nat} (hj : j < d.size) :
    w'.cell? ⟨blk, off + j, none⟩ = some (.int .u32 d'[j]!) ∧ w'.frozen? ⟨blk, off + j, none⟩ = false := by
  obtain ⟨n, rfl⟩ := h
  exact ⟨cell?_putRow _ _ _ _ d d' (holds_ahead _ _ _ _ _ _ hH) hs j (by omega), by rw [frozen?_putRow]; exact ((holds_ahead _ _ n _ _ _ hH) j hj).2⟩
theorem SoW.self {w : World} {blk off : Nat} {d : Array Int} (hH : Holds uE w blk off d) : SoW w blk off d w := ⟨0, (putRow_self _ _ _ _ _ hH).symm⟩
theorem SoW.drewN {w w' : World} {blk off : Nat} {d' : Array Int} (h : SoW w blk off d' w') (q : Nat) : SoW w blk off d' (w'.drewN q) := by
  obtain ⟨n, rfl⟩ := h
  refine ⟨n + q, ?_⟩
  show Sort.ahead (putRow uE (Sort.ahead w n) blk off d') q = _
  rw [putRow_ahead uE w n, ahead_ahead, ← putRow_ahead]
theorem SoW.swap {w w' : World} {blk off : Nat} {d' : Array Int} (h : SoW w blk off d' w') {j k : Nat} (hj : j < d'.size) (hk : k < d'.size) :
    SoW w blk off (swp d' j k) ((w'.setCell ⟨blk, off + j, none⟩ (.int .u32 d'[k]!)).setCell ⟨blk, off + k, none⟩ (.int .u32 d'[j]!)) := by
  obtain ⟨n, rfl⟩ := h
  exact ⟨n, putRow_swp uE _ blk off d' j k hj hk⟩
theorem SoW.trans {w w1 w2 : World} {blk off : Nat} {d1 d2 : Array Int} (h1 : SoW w blk off d1 w1) (h2 : SoW w1 blk off d2 w2) (hs : d2.size = d1.size) : SoW w blk off d2 w2 := by
  obtain ⟨n, rfl⟩ := h1
  obtain ⟨m, rfl⟩ := h2
  exact ⟨n + m, putRow_ahead_putRow uE w n m blk off d1 d2 hs⟩
theorem SoW.holds {w w' : World} {blk off : Nat} {d d' : Array Int} (h : SoW w blk off d' w') (hH : Holds uE w blk off d) (hs : d'.size = d.size) : Holds uE w' blk off d' := fun j hj => h.cell hH hs (by omega)
theorem ins_start {a i : Nat} {d : Array Int} (hs : SortedIn ltInt a i d) : Ins ltInt a i i d :=
  ⟨fun p q hap hpq hqi _ hq => hs p q hap hpq (by omega), fun q h1 h2 => by omega⟩
set_option maxRecDepth 100000 in
set_option maxHeartbeats 4000000 in
theorem insU_any (blk off cap a b : Nat) (d : Array Int) (w : World) (hH : Holds uE w blk off d) (hab : a ≤ b) (hb : b ≤ d.size) (hsz : d.size ≤ 4194304) :
    Calls Try.prog 74 #[.slice (some ⟨blk, off, none⟩) d.size cap, .int .i64 (a : Nat), .int .i64 (b : Nat)] w fun e w' =>
      e = .returned (.tuple #[]) ∧ ∃ d', SoW w blk off d' w' ∧ PermIn a b d d' ∧ SortedIn ltInt a b d' := by
  have HH := Lib.hid hH
  have LS : Hid (∀ x y w1, Calls Try.prog 80 #[.int .u32 x, .int .u32 y] w1 fun e w' => e = .returned (.bool (ltInt x y)) ∧ w' = w1) := lessU_any
  obtain ⟨N, hN⟩ : ∃ N, N = d.size := ⟨_, rfl⟩
  have HN := Lib.hid hN
  rw [← hN] at hb hsz ⊢
  clear hH hN
  go_enter Try.func74, Try.ntmps74
  go_wp2_with fail
  go_loopw [6] (fun iv wr => ∃ (i : Nat) (dk : Array Int), iv = .int .i64 i ∧ a < i ∧ i ≤ b + 1 ∧ Hid (SoW w blk off dk wr ∧ PermIn a b d dk ∧ SortedIn ltInt a (min i b) dk)) (fun iv _ => b + 1 - (RowKit.intOf iv).toNat)
  case atStart => exact ⟨a + 1, d, by go_num, by omega, by omega, SoW.self HH.out, permIn_refl _ _ _, fun p q h1 h2 h3 => by omega⟩
  case round =>
    obtain ⟨i, dk, rfl, hai, hib, HK⟩ := hrel
    by_cases hlt : i < b
    · have hd : decide ((i : Int) < (b : Int)) = true := decide_eq_true (by omega)
      have hd' : decide (i < b) = true := decide_eq_true hlt
      go_upto_region 4 with fail
      go_loopw [7] (fun jv wr => ∃ (j : Nat) (dj : Array Int), jv = .int .i64 j ∧ a ≤ j ∧ j ≤ i ∧ Hid (SoW w blk off dj wr ∧ PermIn a b d dj ∧ Ins ltInt a j i dj)) (fun jv _ => (RowKit.intOf jv).toNat)
      case atStart =>
        refine ⟨i, dk, rfl, by omega, Nat.le_refl _, HK.out.1, HK.out.2.1, ins_start ?_⟩
        have := HK.out.2.2
        rwa [Nat.min_eq_left (by omega)] at this
      case round =>
        clear HK
        obtain ⟨j, dj, rfl, haj, hji, HJ⟩ := hrel
        by_cases hja : a < j
        · have g1 : decide ((j : Int) > (a : Int)) = true := decide_eq_true (by omega)
          have g1' : decide ((a : Int) < (j : Int)) = true := decide_eq_true (by omega)
          have g1'' : decide (a < j) = true := decide_eq_true hja
          obtain ⟨t, ht⟩ : ∃ t, t = j - 1 := ⟨_, rfl⟩
          have hsj : dj.size = N := HJ.out.2.1.1.trans HN.out.symm
          obtain ⟨c0, f0⟩ := HJ.out.1.cell HH.out (hsj.trans HN.out) (j := j) (by have := HN.out; omega)
          obtain ⟨c1, f1⟩ := HJ.out.1.cell HH.out (hsj.trans HN.out) (j := t) (by have := HN.out; omega)
          have HSW : Hid (SoW w blk off (swp dj j t) ((wr.setCell ⟨blk, off + j, none⟩ (.int .u32 dj[t]!)).setCell ⟨blk, off + t, none⟩ (.int .u32 dj[j]!)) ∧ PermIn a b d (swp dj j t)) :=
            ⟨HJ.out.1.swap (by omega) (by omega), permIn_trans _ _ _ _ _ HJ.out.2.1 (swp_permIn dj a b j t (by omega) (by omega) (by omega) (by omega) (by omega))⟩
          have HSTEP : Hid (ltInt dj[j]! dj[t]! = true → Ins ltInt a t i (swp dj j t)) := fun hl => by
            have e : j = t + 1 := by omega
            subst e
            exact HJ.out.2.2.step hl (by omega) (by omega)
          have HSTOP : Hid (ltInt dj[j]! dj[t]! = false → SortedIn ltInt a (i + 1) dj) := fun hl => HJ.out.2.2.stop swo_ltInt (.inr (by rw [← ht]; exact hl))
          obtain ⟨x, hx⟩ : ∃ x, x = dj[j]! := ⟨_, rfl⟩
          obtain ⟨y, hy⟩ : ∃ y, y = dj[t]! := ⟨_, rfl⟩
          rw [← hx, ← hy] at HSW HSTEP HSTOP
          rw [← hx] at c0
          rw [← hy] at c1
          obtain ⟨q, hq⟩ : ∃ q, q = ltInt x y := ⟨_, rfl⟩
          have LXY : Hid (∀ w1, Calls Try.prog 80 #[.int .u32 x, .int .u32 y] w1 fun e w' => e = .returned (.bool q) ∧ w' = w1) := fun w1 => by rw [hq]; exact LS.out x y w1
          rw [← hq] at HSTEP HSTOP
          have e1 : (j : Int) - 1 = (t : Int) := by omega
          have e2 : IntKind.i64.wrap ((j : Int) - 1) = (t : Int) := by rw [e1, IntKind.wrap_i64]; omega
          have e3 : IntKind.i64.wrap (t : Int) = (t : Int) := by rw [IntKind.wrap_i64]; omega
          have hjN : (j : Int) < (N : Int) := by omega
          have htN : (t : Int) < (N : Int) := by omega
          clear hx hy hq ht
          go_wp2_with fail
          go_quiet (first | (go_at_call 80; exact Calls.quiet_of_same (LXY.out _)))
          cases q with
          | true =>
            have HI := Lib.hid (HSTEP.out rfl)
            clear HSTEP HSTOP HJ LXY
            go_wp2_with fail
            go_region
            go_wp2_with fail
            go_roundw
            case rel => exact ⟨t, _, by go_num, by omega, by omega, HSW.out.1.drewN _, HSW.out.2, HI.out⟩
            case measure => simp [RowKit.intOf]; omega
          | false =>
            have HS := Lib.hid (HSTOP.out rfl)
            clear HSTEP HSTOP LXY HSW
            go_wp2_with fail
            go_roundw
            case rel => exact ⟨i + 1, dj, by go_num, by omega, by omega, HJ.out.1.drewN _, HJ.out.2.1, by have := HS.out; intro p q h1 h2 h3; exact this p q h1 h2 (by omega)⟩
            case measure => simp [RowKit.intOf]; omega
        · have g1 : decide ((j : Int) > (a : Int)) = false := decide_eq_false (by omega)
          have g1' : decide ((a : Int) < (j : Int)) = false := decide_eq_false (by omega)
          have g1'' : decide (a < j) = false := decide_eq_false hja
          have HS : Hid (SortedIn ltInt a (i + 1) dj) := HJ.out.2.2.stop swo_ltInt (.inl (by omega))
          go_wp2_with fail
          go_quiet (fail)
          go_wp2_with fail
          go_roundw
          case rel => exact ⟨i + 1, dj, by go_num, by omega, by omega, HJ.out.1.drewN _, HJ.out.2.1, by have := HS.out; intro p q h1 h2 h3; exact this p q h1 h2 (by omega)⟩
          case measure => simp [RowKit.intOf]; omega
    · have hd : decide ((i : Int) < (b : Int)) = false := decide_eq_false (by omega)
      have hd' : decide (i < b) = false := decide_eq_false hlt
      have HS : Hid (SortedIn ltInt a b dk) := by have := HK.out.2.2; rwa [Nat.min_eq_right (by omega)] at this
      go_wp2_with fail
      go_returns
      exact ⟨rfl, dk, HK.out.1, HK.out.2.1, HS.out⟩
end

section
open Go Go.RowKit Go.Lib Go.Sort
def uV (x : Nat) : List Value := [.int .u32 (x : Int)]
theorem uV_len (x : Nat) : (uV x).length = 1 := rfl
def uL (l : List Nat) : List Value := l.flatMap uV
theorem uL_map (l : List Nat) : uL l = (l.map fun x : Nat => (x : Int)).map uE := by
  unfold uL
  induction l with
  | nil => rfl
  | cons a l ih => rw [List.flatMap_cons, ih]; rfl
theorem uL_one (l : List Nat) : ∀ u ∈ uL l, u.oneCell' = true := fun u hu => by
  obtain ⟨x, _, h⟩ := List.mem_flatMap.1 hu
  simp [uV] at h; rw [h]; rfl
theorem uL_len (l : List Nat) : (uL l).length = l.length := by rw [uL_map]; simp
abbrev UOwn (w : World) (base : Nat) (v : Value) (l : List Nat) : Prop := w.ownsRow base 23 1 v l.length (uL l)
abbrev URow : World → Value → List Nat → Prop := RowG 1 uV
theorem urow_of_own {w : World} {base : Nat} {v : Value} {l : List Nat} (h : UOwn w base v l) : URow w v l := rowG_of_own uV_len h
theorem so_heap {w w' : World} {g : Nat} {d' : Array Int} {cur : Array Value} {e : TypeId} {fr : Nat × Nat} (h : SoW w g 0 d' w') (hb : w.heap[g]? = some (.cells cur e fr)) : w'.heap[g]? = some (.cells (putCells uE 0 d' cur) e fr) := by
  obtain ⟨n, rfl⟩ := h
  simp [putRow, mapBlock, Sort.ahead, Array.getElem?_modify, hb, onCells]
theorem so_grown {w w' : World} {g off : Nat} {d' : Array Int} (h : SoW w g off d' w') : w.grownBy w' (some g) := by
  obtain ⟨n, rfl⟩ := h
  refine ⟨rfl, rfl, rfl, by simp [putRow, mapBlock, Sort.ahead], fun k hk hne => ?_⟩
  simp only [putRow, mapBlock, Sort.ahead]
  rw [Array.getElem?_modify, if_neg (fun e => hne (by rw [e]))]
theorem put_take (cur : Array Value) (d' : Array Int) (h : d'.size ≤ cur.size) : (putCells uE 0 d' cur).toList.take d'.size = d'.toList.map uE := by
  apply List.ext_getElem?
  intro i
  rw [List.getElem?_take]
  by_cases hi : i < d'.size
  · rw [if_pos hi, Array.getElem?_toList, List.getElem?_map, Array.getElem?_toList]
    unfold putCells
    rw [Array.getElem?_mapIdx, Array.getElem?_eq_getElem (show i < cur.size by omega), Array.getElem?_eq_getElem hi, Option.map_some, Option.map_some, if_pos ⟨Nat.zero_le _, by omega⟩]
    congr 2
    rw [getElem!_pos d' (i - 0) (by omega)]
    congr 1
  · rw [if_neg hi, List.getElem?_eq_none (by simp; omega)]
theorem holds_own {w : World} {g cap : Nat} {cur : Array Value} {l : List Nat} {e : TypeId} (hb : w.heap[g]? = some (.cells cur e (0, 0))) (hc : l.length ≤ cap) (hs : cur.size = cap * 1) (ht : cur.toList.take (l.length * 1) = uL l) : Holds uE w g 0 (l.map fun x : Nat => (x : Int)).toArray := by
  intro j hj
  have hj' : j < l.length := by simpa using hj
  have e1 : (cur.toList.take (l.length * 1))[j]? = cur.toList[j]? := by rw [List.getElem?_take, if_pos (by omega)]
  rw [ht, uL_map, List.getElem?_map] at e1

  replace e1 := e1.symm
  constructor
  · have e2 : w.cell? ⟨g, 0 + j, none⟩ = cur[j]? := by simp [World.cell?, hb]
    rw [e2, ← Array.getElem?_toList, e1, getElem!_pos _ j hj]
    simp [hj']
  · simp [World.frozen?, hb]
/-- What slices.Sort does to a row that is owned. -/
def SortedTo (w : World) (base : Nat) (v : Value) (l : List Nat) (e : Ending) (w' : World) : Prop :=
  e = .returned (.tuple #[]) ∧ (∃ ys : List Nat, ys.Perm l ∧ ys.Pairwise (· ≤ ·) ∧ UOwn w' base v ys) ∧ w.grownBy w' v.ownBlock
def SortU (N : Nat) : Prop := ∀ (base : Nat) (v : Value) (l : List Nat) (w : World), l.length ≤ N → UOwn w base v l → Calls Try.prog 61 #[v] w (SortedTo w base v l)
theorem SortU.mono {N M : Nat} (h : SortU M) (hN : N ≤ M) : SortU N := fun base v l w hl ho => h base v l w (Nat.le_trans hl hN) ho
/-- Out of the sorted row of numbers the row that is owned. -/
theorem sorted_own {w w' : World} {base g cap : Nat} {cur : Array Value} {l : List Nat} {d' : Array Int} (hbase : base ≤ g) (hb : w.heap[g]? = some (.cells cur 23 (0, 0))) (hc : l.length ≤ cap) (hcm : cap ≤ maxLen) (hs : cur.size = cap * 1)
    (hS : SoW w g 0 d' w') (hP : PermIn 0 l.length (l.map fun x : Nat => (x : Int)).toArray d') (hO : SortedIn ltInt 0 l.length d') :
    (∃ ys : List Nat, ys.Perm l ∧ ys.Pairwise (· ≤ ·) ∧ UOwn w' base (.slice (some ⟨g, 0, none⟩) l.length cap) ys) := by
  have hsz : d'.size = l.length := by rw [hP.1]; simp
  have hp : d'.toList.Perm (l.map fun x : Nat => (x : Int)) := by
    have h := hP.2.2
    have e1 : d'.extract 0 l.length = d' := by rw [← hsz]; exact Array.extract_size
    have e2 : ((l.map fun x : Nat => (x : Int)).toArray.extract 0 l.length) = (l.map fun x : Nat => (x : Int)).toArray := by
      have : l.length = (l.map fun x : Nat => (x : Int)).toArray.size := by simp
      rw [this]; exact Array.extract_size
    rw [e1, e2] at h
    exact h
  have hnn : ∀ x ∈ d'.toList, 0 ≤ x := fun x hx => by
    obtain ⟨y, _, rfl⟩ := List.mem_map.1 (hp.mem_iff.1 hx)
    omega
  have hback : (d'.toList.map Int.toNat).map (fun x : Nat => (x : Int)) = d'.toList := by
    rw [List.map_map]
    have : ∀ x ∈ d'.toList, ((fun x : Nat => (x : Int)) ∘ Int.toNat) x = x := fun x hx => by
      have := hnn x hx
      show ((x.toNat : Nat) : Int) = x
      omega
    rw [List.map_congr_left this, List.map_id']
  have hyl : (d'.toList.map Int.toNat).length = l.length := by simp [hsz]
  refine ⟨d'.toList.map Int.toNat, ?_, ?_, ?_⟩
  · have := hp.map Int.toNat
    rw [List.map_map] at this
    have e : (Int.toNat ∘ fun x : Nat => (x : Int)) = fun x => x := by funext x; simp
    rw [e, List.map_id'] at this
    exact this
  · rw [List.pairwise_iff_getElem]
    intro i j hi hj hij
    rw [List.getElem_map, List.getElem_map]
    have hi' : i < d'.size := by simpa using hi
    have hj' : j < d'.size := by simpa using hj
    have h := hO i j (Nat.zero_le _) hij (by omega)
    rw [getElem!_pos d' j hj', getElem!_pos d' i hi'] at h
    have h2 : ¬ d'[j] < d'[i] := by unfold ltInt at h; simpa using h
    simp only [Array.getElem_toList]
    omega
  · refine ⟨by rw [uL_len]; omega, .inr ⟨g, cap, _, by rw [hyl], hbase, so_heap hS hb, by rw [hyl]; exact hc, hcm, by unfold putCells; rw [Array.size_mapIdx]; exact hs, ?_⟩⟩
    rw [uL_map, hback, hyl, Nat.mul_one, ← hsz]
    exact put_take cur d' (by omega)
set_option maxRecDepth 100000 in
set_option maxHeartbeats 4000000 in
theorem pdq12_any (blk off cap n lim : Nat) (d : Array Int) (w : World) (hH : Holds uE w blk off d) (hn : n = d.size) (h12 : n ≤ 12) :
    Calls Try.prog 70 #[.slice (some ⟨blk, off, none⟩) n cap, .int .i64 0, .int .i64 (n : Nat), .int .i64 (lim : Nat)] w fun e w' =>
      e = .returned (.tuple #[]) ∧ ∃ d', SoW w blk off d' w' ∧ PermIn 0 n d d' ∧ SortedIn ltInt 0 n d' := by
  have IS : Hid (Calls Try.prog 74 #[.slice (some ⟨blk, off, none⟩) n cap, .int .i64 0, .int .i64 (n : Nat)] w fun e w' =>
      e = .returned (.tuple #[]) ∧ ∃ d', SoW w blk off d' w' ∧ PermIn 0 n d d' ∧ SortedIn ltInt 0 n d') := by
    have := insU_any blk off cap 0 n d w hH (Nat.zero_le _) (by omega) (by omega)
    rw [← hn] at this
    exact this
  have d1 : decide ((n : Int) ≤ 12) = true := decide_eq_true (by omega)
  have d1' : decide (n ≤ 12) = true := decide_eq_true h12
  clear hH hn
  go_enter Try.func70, Try.ntmps70
  go_wp2_with fail
  refine wp_loop_rounds 1 ?_
  rw [rounds_succ]
  go_wp2_with fail
  refine IS.out.mono ?_; rintro e w1 ⟨rfl, h1⟩
  go_wp2_with fail
  go_returns
  exact ⟨rfl, h1⟩
theorem pdqNil_any (n lim : Nat) (c : Nat) (w : World) :
    Calls Try.prog 70 #[.slice none 0 c, .int .i64 0, .int .i64 0, .int .i64 (lim : Nat)] w fun e w' => e = .returned (.tuple #[]) ∧ w' = w := by
  have IS : Hid (Calls Try.prog 74 #[.slice none 0 c, .int .i64 0, .int .i64 0] w fun e w' => e = .returned (.tuple #[]) ∧ w' = w) := by
    unfold Hid
    go_enter Try.func74, Try.ntmps74
    go_wp2_with fail
    refine wp_loop_rounds 1 ?_
    rw [rounds_succ]
    go_wp2_with fail
    go_returns
    exact ⟨rfl, rfl⟩
  go_enter Try.func70, Try.ntmps70
  go_wp2_with fail
  refine wp_loop_rounds 1 ?_
  rw [rounds_succ]
  go_wp2_with fail
  refine IS.out.mono ?_; rintro e w1 ⟨rfl, hw⟩
  subst hw
  go_wp2_with fail
  go_returns
  exact ⟨rfl, rfl⟩
set_option maxRecDepth 100000 in
set_option maxHeartbeats 4000000 in
theorem sort12 : SortU 12 := by
  intro base v l w hl ho
  obtain ⟨hlen, ⟨rfl, h0⟩ | ⟨g, cap, cur, rfl, hbase, hb, hc, hcm, hs, ht⟩⟩ := ho
  · have hl0 : l = [] := List.eq_nil_of_length_eq_zero h0
    subst hl0
    have PN := Lib.hid (fun k => pdqNil_any 0 k 0 w)
    have BL := Lib.hid (Try.bits_Len 0 w (by omega) (by omega))
    go_enter Try.func61, Try.ntmps61
    go_wp2_with fail
    refine BL.out.mono ?_; rintro e w1 ⟨rfl, hw⟩
    subst hw
    go_wp2_with fail
    refine (PN.out _).mono ?_; rintro e w1 ⟨rfl, hw⟩
    subst hw
    go_wp2_with fail
    go_returns
    exact ⟨rfl, ⟨[], List.Perm.refl _, List.Pairwise.nil, ⟨rfl, .inl ⟨rfl, rfl⟩⟩⟩, ⟨rfl, rfl, rfl, Nat.le_refl _, fun _ _ _ => rfl⟩⟩
  · have hH := holds_own hb hc hs ht
    have PQ := Lib.hid (fun lim => pdq12_any g 0 cap l.length lim _ w hH (by simp) hl)
    have BL := Lib.hid (Try.bits_Len (l.length : Int) w (by omega) (by omega))
    have HEND : Hid (∀ w' d', SoW w g 0 d' w' → PermIn 0 l.length (l.map fun x : Nat => (x : Int)).toArray d' → SortedIn ltInt 0 l.length d' → SortedTo w base (.slice (some ⟨g, 0, none⟩) l.length cap) l (.returned (.tuple #[])) w') := fun w' d' h1 h2 h3 =>
      ⟨rfl, sorted_own hbase hb hc hcm hs h1 h2 h3, so_grown h1⟩
    obtain ⟨N, hN⟩ : ∃ N, N = l.length := ⟨_, rfl⟩
    rw [← hN] at PQ BL HEND hl ⊢
    have hcv : IntKind.u64.wrap (N : Int) = (N : Int) := by rw [IntKind.wrap_u64]; omega
    clear hH hb hc hs ht hlen hN hcm hbase
    go_enter Try.func61, Try.ntmps61
    go_wp2_with fail
    refine BL.out.mono ?_; rintro e w1 ⟨rfl, hw⟩
    subst hw
    go_wp2_with fail
    refine (PQ.out _).mono ?_; rintro e w1 ⟨rfl, d', h1, h2, h3⟩
    go_wp2_with fail
    go_returns
    exact HEND.out _ d' h1 h2 h3
end

end Go.Proofs.Ytfabjlhepadkpaa
