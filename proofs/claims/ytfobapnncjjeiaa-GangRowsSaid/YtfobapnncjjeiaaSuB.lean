/-
  slices.Sort at rows of uint32 of at most twelve; rows of uint32 that are owned.
-/
import Derived.Test.YtfobapnncjjeiaaSuA
import Derived.Test.YtfobapnncjjeiaaShelf
import Derived.Test.YtfobapnncjjeiaaRwG
import Derived.Test.YtfobapnncjjeiaaRwO
import Derived.OwnWalk
namespace Go.Proofs.Ytfobapnncjjeiaa
open Go Go.RowKit Go.Lib Go.Sort
set_option linter.unusedVariables false

def uV (x : Nat) : List Value := [.int .u32 (x : Int)]
theorem uV_len (x : Nat) : (uV x).length = 1 := rfl
def uL (l : List Nat) : List Value := l.flatMap uV
theorem uL_map (l : List Nat) : uL l = (l.map fun x : Nat => (x : Int)).map uE := by
  unfold uL
  induction l with
  | nil => rfl
  | cons a l ih => rw [List.flatMap_cons, ih]; rfl
theorem uL_one (l : List Nat) : ∀ u ∈ uL l, u.oneCell' = true := fun u hu => by
  obtain ⟨x, _, h⟩ := List.mem_flatMap.1 hu
  simp [uV] at h; rw [h]; rfl
theorem uL_len (l : List Nat) : (uL l).length = l.length := by rw [uL_map]; simp
abbrev UOwn (w : World) (base : Nat) (v : Value) (l : List Nat) : Prop := w.ownsRow base 32 1 v l.length (uL l)
abbrev URow : World → Value → List Nat → Prop := RowG 1 uV
theorem urow_of_own {w : World} {base : Nat} {v : Value} {l : List Nat} (h : UOwn w base v l) : URow w v l := rowG_of_own uV_len h
theorem so_heap {w w' : World} {g : Nat} {d' : Array Int} {cur : Array Value} {e : TypeId} {fr : Nat × Nat} (h : SoW w g 0 d' w') (hb : w.heap[g]? = some (.cells cur e fr)) : w'.heap[g]? = some (.cells (putCells uE 0 d' cur) e fr) := by
  obtain ⟨n, rfl⟩ := h
  simp [putRow, mapBlock, Sort.ahead, Array.getElem?_modify, hb, onCells]
theorem so_grown {w w' : World} {g off : Nat} {d' : Array Int} (h : SoW w g off d' w') : w.grownBy w' (some g) := by
  obtain ⟨n, rfl⟩ := h
  refine ⟨rfl, rfl, rfl, by simp [putRow, mapBlock, Sort.ahead], fun k hk hne => ?_⟩
  simp only [putRow, mapBlock, Sort.ahead]
  rw [Array.getElem?_modify, if_neg (fun e => hne (by rw [e]))]
theorem put_take (cur : Array Value) (d' : Array Int) (h : d'.size ≤ cur.size) : (putCells uE 0 d' cur).toList.take d'.size = d'.toList.map uE := by
  apply List.ext_getElem?
  intro i
  rw [List.getElem?_take]
  by_cases hi : i < d'.size
  · rw [if_pos hi, Array.getElem?_toList, List.getElem?_map, Array.getElem?_toList]
    unfold putCells
    rw [Array.getElem?_mapIdx, Array.getElem?_eq_getElem (show i < cur.size by omega), Array.getElem?_eq_getElem hi, Option.map_some, Option.map_some, if_pos ⟨Nat.zero_le _, by omega⟩]
    congr 2
    rw [getElem!_pos d' (i - 0) (by omega)]
    congr 1
  · rw [if_neg hi, List.getElem?_eq_none (by simp; omega)]
theorem holds_own {w : World} {g cap : Nat} {cur : Array Value} {l : List Nat} {e : TypeId} (hb : w.heap[g]? = some (.cells cur e (0, 0))) (hc : l.length ≤ cap) (hs : cur.size = cap * 1) (ht : cur.toList.take (l.length * 1) = uL l) : Holds uE w g 0 (l.map fun x : Nat => (x : Int)).toArray := by
  intro j hj
  have hj' : j < l.length := by simpa using hj
  have e1 : (cur.toList.take (l.length * 1))[j]? = cur.toList[j]? := by rw [List.getElem?_take, if_pos (by omega)]
  rw [ht, uL_map, List.getElem?_map] at e1

  replace e1 := e1.symm
  constructor
  · have e2 : w.cell? ⟨g, 0 + j, none⟩ = cur[j]? := by simp [World.cell?, hb]
    rw [e2, ← Array.getElem?_toList, e1, getElem!_pos _ j hj]
    simp [hj']
  · simp [World.frozen?, hb]
/-- What slices.Sort does to a row that is owned. -/
def SortedTo (w : World) (base : Nat) (v : Value) (l : List Nat) (e : Ending) (w' : World) : Prop :=
  e = .returned (.tuple #[]) ∧ (∃ ys : List Nat, ys.Perm l ∧ ys.Pairwise (· ≤ ·) ∧ UOwn w' base v ys) ∧ w.grownBy w' v.ownBlock
def SortU (N : Nat) : Prop := ∀ (base : Nat) (v : Value) (l : List Nat) (w : World), l.length ≤ N → UOwn w base v l → Calls Try.prog 38 #[v] w (SortedTo w base v l)
theorem SortU.mono {N M : Nat} (h : SortU M) (hN : N ≤ M) : SortU N := fun base v l w hl ho => h base v l w (Nat.le_trans hl hN) ho
/-- Out of the sorted row of numbers the row that is owned. -/
theorem sorted_own {w w' : World} {base g cap : Nat} {cur : Array Value} {l : List Nat} {d' : Array Int} (hbase : base ≤ g) (hb : w.heap[g]? = some (.cells cur 32 (0, 0))) (hc : l.length ≤ cap) (hcm : cap ≤ maxLen) (hs : cur.size = cap * 1)
    (hS : SoW w g 0 d' w') (hP : PermIn 0 l.length (l.map fun x : Nat => (x : Int)).toArray d') (hO : SortedIn ltInt 0 l.length d') :
    (∃ ys : List Nat, ys.Perm l ∧ ys.Pairwise (· ≤ ·) ∧ UOwn w' base (.slice (some ⟨g, 0, none⟩) l.length cap) ys) := by
  have hsz : d'.size = l.length := by rw [hP.1]; simp
  have hp : d'.toList.Perm (l.map fun x : Nat => (x : Int)) := by
    have h := hP.2.2
    have e1 : d'.extract 0 l.length = d' := by rw [← hsz]; exact Array.extract_size
    have e2 : ((l.map fun x : Nat => (x : Int)).toArray.extract 0 l.length) = (l.map fun x : Nat => (x : Int)).toArray := by
      have : l.length = (l.map fun x : Nat => (x : Int)).toArray.size := by simp
      rw [this]; exact Array.extract_size
    rw [e1, e2] at h
    exact h
  have hnn : ∀ x ∈ d'.toList, 0 ≤ x := fun x hx => by
    obtain ⟨y, _, rfl⟩ := List.mem_map.1 (hp.mem_iff.1 hx)
    omega
  have hback : (d'.toList.map Int.toNat).map (fun x : Nat => (x : Int)) = d'.toList := by
    rw [List.map_map]
    have : ∀ x ∈ d'.toList, ((fun x : Nat => (x : Int)) ∘ Int.toNat) x = x := fun x hx => by
      have := hnn x hx
      show ((x.toNat : Nat) : Int) = x
      omega
    rw [List.map_congr_left this, List.map_id']
  have hyl : (d'.toList.map Int.toNat).length = l.length := by simp [hsz]
  refine ⟨d'.toList.map Int.toNat, ?_, ?_, ?_⟩
  · have := hp.map Int.toNat
    rw [List.map_map] at this
    have e : (Int.toNat ∘ fun x : Nat => (x : Int)) = fun x => x := by funext x; simp
    rw [e, List.map_id'] at this
    exact this
  · rw [List.pairwise_iff_getElem]
    intro i j hi hj hij
    rw [List.getElem_map, List.getElem_map]
    have hi' : i < d'.size := by simpa using hi
    have hj' : j < d'.size := by simpa using hj
    have h := hO i j (Nat.zero_le _) hij (by omega)
    rw [getElem!_pos d' j hj', getElem!_pos d' i hi'] at h
    have h2 : ¬ d'[j] < d'[i] := by unfold ltInt at h; simpa using h
    simp only [Array.getElem_toList]
    omega
  · refine ⟨by rw [uL_len]; omega, .inr ⟨g, cap, _, by rw [hyl], hbase, so_heap hS hb, by rw [hyl]; exact hc, hcm, by unfold putCells; rw [Array.size_mapIdx]; exact hs, ?_⟩⟩
    rw [uL_map, hback, hyl, Nat.mul_one, ← hsz]
    exact put_take cur d' (by omega)
set_option maxRecDepth 100000 in
set_option maxHeartbeats 4000000 in
theorem pdq12_any (blk off cap n lim : Nat) (d : Array Int) (w : World) (hH : Holds uE w blk off d) (hn : n = d.size) (h12 : n ≤ 12) :
    Calls Try.prog 49 #[.slice (some ⟨blk, off, none⟩) n cap, .int .i64 0, .int .i64 (n : Nat), .int .i64 (lim : Nat)] w fun e w' =>
      e = .returned (.tuple #[]) ∧ ∃ d', SoW w blk off d' w' ∧ PermIn 0 n d d' ∧ SortedIn ltInt 0 n d' := by
  have IS : Hid (Calls Try.prog 60 #[.slice (some ⟨blk, off, none⟩) n cap, .int .i64 0, .int .i64 (n : Nat)] w fun e w' =>
      e = .returned (.tuple #[]) ∧ ∃ d', SoW w blk off d' w' ∧ PermIn 0 n d d' ∧ SortedIn ltInt 0 n d') := by
    have := insU_any blk off cap 0 n d w hH (Nat.zero_le _) (by omega) (by omega)
    rw [← hn] at this
    exact this
  have d1 : decide ((n : Int) ≤ 12) = true := decide_eq_true (by omega)
  have d1' : decide (n ≤ 12) = true := decide_eq_true h12
  clear hH hn
  go_enter Try.func49, Try.ntmps49
  go_wp2_with fail
  refine wp_loop_rounds 1 ?_
  rw [rounds_succ]
  go_wp2_with fail
  refine IS.out.mono ?_; rintro e w1 ⟨rfl, h1⟩
  go_wp2_with fail
  go_returns
  exact ⟨rfl, h1⟩
theorem pdqNil_any (n lim : Nat) (c : Nat) (w : World) :
    Calls Try.prog 49 #[.slice none 0 c, .int .i64 0, .int .i64 0, .int .i64 (lim : Nat)] w fun e w' => e = .returned (.tuple #[]) ∧ w' = w := by
  have IS : Hid (Calls Try.prog 60 #[.slice none 0 c, .int .i64 0, .int .i64 0] w fun e w' => e = .returned (.tuple #[]) ∧ w' = w) := by
    unfold Hid
    go_enter Try.func60, Try.ntmps60
    go_wp2_with fail
    refine wp_loop_rounds 1 ?_
    rw [rounds_succ]
    go_wp2_with fail
    go_returns
    exact ⟨rfl, rfl⟩
  go_enter Try.func49, Try.ntmps49
  go_wp2_with fail
  refine wp_loop_rounds 1 ?_
  rw [rounds_succ]
  go_wp2_with fail
  refine IS.out.mono ?_; rintro e w1 ⟨rfl, hw⟩
  subst hw
  go_wp2_with fail
  go_returns
  exact ⟨rfl, rfl⟩
set_option maxRecDepth 100000 in
set_option maxHeartbeats 4000000 in
theorem sort12 : SortU 12 := by
  intro base v l w hl ho
  obtain ⟨hlen, ⟨rfl, h0⟩ | ⟨g, cap, cur, rfl, hbase, hb, hc, hcm, hs, ht⟩⟩ := ho
  · have hl0 : l = [] := List.eq_nil_of_length_eq_zero h0
    subst hl0
    have PN := Lib.hid (fun k => pdqNil_any 0 k 0 w)
    have BL := Lib.hid (Try.bits_Len 0 w (by omega) (by omega))
    go_enter Try.func38, Try.ntmps38
    go_wp2_with fail
    refine BL.out.mono ?_; rintro e w1 ⟨rfl, hw⟩
    subst hw
    go_wp2_with fail
    refine (PN.out _).mono ?_; rintro e w1 ⟨rfl, hw⟩
    subst hw
    go_wp2_with fail
    go_returns
    exact ⟨rfl, ⟨[], List.Perm.refl _, List.Pairwise.nil, ⟨rfl, .inl ⟨rfl, rfl⟩⟩⟩, ⟨rfl, rfl, rfl, Nat.le_refl _, fun _ _ _ => rfl⟩⟩
  · have hH := holds_own hb hc hs ht
    have PQ := Lib.hid (fun lim => pdq12_any g 0 cap l.length lim _ w hH (by simp) hl)
    have BL := Lib.hid (Try.bits_Len (l.length : Int) w (by omega) (by omega))
    have HEND : Hid (∀ w' d', SoW w g 0 d' w' → PermIn 0 l.length (l.map fun x : Nat => (x : Int)).toArray d' → SortedIn ltInt 0 l.length d' → SortedTo w base (.slice (some ⟨g, 0, none⟩) l.length cap) l (.returned (.tuple #[])) w') := fun w' d' h1 h2 h3 =>
      ⟨rfl, sorted_own hbase hb hc hcm hs h1 h2 h3, so_grown h1⟩
    obtain ⟨N, hN⟩ : ∃ N, N = l.length := ⟨_, rfl⟩
    rw [← hN] at PQ BL HEND hl ⊢
    have hcv : IntKind.u64.wrap (N : Int) = (N : Int) := by rw [IntKind.wrap_u64]; omega
    clear hH hb hc hs ht hlen hN hcm hbase
    go_enter Try.func38, Try.ntmps38
    go_wp2_with fail
    refine BL.out.mono ?_; rintro e w1 ⟨rfl, hw⟩
    subst hw
    go_wp2_with fail
    refine (PQ.out _).mono ?_; rintro e w1 ⟨rfl, d', h1, h2, h3⟩
    go_wp2_with fail
    go_returns
    exact HEND.out _ d' h1 h2 h3
end Go.Proofs.Ytfobapnncjjeiaa
