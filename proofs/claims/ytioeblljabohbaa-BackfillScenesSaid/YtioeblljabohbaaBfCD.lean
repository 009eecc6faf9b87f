/-
  backfill.Free's two questions, and slices.ContainsFunc with them.
  slices.ContainsFunc at rows of held blocks.
-/
import Derived.Test.YtioeblljabohbaaBfB
import Derived.Test.YtioeblljabohbaaGRw
import Derived.Test.YtioeblljabohbaaRwG
import Derived.Deep.CutBlock
namespace Go.Proofs.Ytioeblljabohbaa
set_option linter.unusedVariables false

section
open Go Go.RowKit Go.Lib
abbrev HeI := Int × Int × Int × Int
def heI (h : HeI) : List Value := [.int .i64 h.1, .int .i64 h.2.1, .int .i64 h.2.2.1, .int .i64 h.2.2.2]
def heZ (h : HeT) : HeI := ((h.1 : Int), (h.2.1 : Int), (h.2.2.1 : Int), (h.2.2.2 : Int))
theorem heI_len (h : HeI) : (heI h).length = 4 := rfl
def nsI (l : List Nat) : List Int := l.map fun x : Nat => (x : Int)
theorem nsI_len (l : List Nat) : (nsI l).length = l.length := by simp [nsI]
theorem nsI_at {l : List Nat} {i : Nat} (h : i < l.length) : (nsI l).getD i 0 = (l[i] : Int) := by
  unfold nsI; rw [List.getD_eq_getElem?_getD, List.getElem?_map, List.getElem?_eq_getElem h]; rfl
abbrev HRow := RowG 4 heI
/-- A scene in the memory: its two rows. -/
structure SRow (w : World) (vf vh : Value) (c : Sc) : Prop where
  f : GRow w vf (nsI c.fl)
  h : HRow w vh (c.hl.map heZ)
theorem SRow.kept {w w' : World} {vf vh : Value} {c : Sc} (h : SRow w vf vh c) (hb : Below w.heap.size w w') : SRow w' vf vh c := ⟨h.f.kept hb, h.h.kept hb⟩
/-- Where the first one is, or -1. -/
def idxG {α : Type} (g : α → Bool) (l : List α) : Int := match l.findIdx? g with | some i => (i : Nat) | none => -1
theorem idxG_at {α : Type} {g : α → Bool} {l : List α} {k : Nat} (hk : k < l.length) (h1 : ∀ q (hq : q < l.length), q < k → g l[q] = false) (h2 : g l[k] = true) : idxG g l = k := by
  have : l.findIdx? g = some k := by
    rw [List.findIdx?_eq_some_iff_getElem]
    exact ⟨hk, h2, fun j hj => by rw [h1 j (by omega) hj]; simp⟩
  unfold idxG; rw [this]
theorem idxG_none {α : Type} {g : α → Bool} {l : List α} (h1 : ∀ q (hq : q < l.length), g l[q] = false) : idxG g l = -1 := by
  have : l.findIdx? g = none := by
    rw [List.findIdx?_eq_none_iff]
    intro x hx
    obtain ⟨j, hj, rfl⟩ := List.mem_iff_getElem.1 hx
    exact h1 j hj
  unfold idxG; rw [this]
theorem idxG_any {α : Type} (g : α → Bool) (l : List α) : decide (0 ≤ idxG g l) = l.any g := by
  unfold idxG
  cases h : l.findIdx? g with
  | none =>
    rw [List.findIdx?_eq_none_iff] at h
    have : l.any g = false := by rw [List.any_eq_false]; intro x hx; rw [h x hx]; simp
    rw [this]; rfl
  | some i =>
    rw [List.findIdx?_eq_some_iff_getElem] at h
    obtain ⟨hi, h1, _⟩ := h
    have : l.any g = true := List.any_eq_true.2 ⟨_, List.getElem_mem hi, h1⟩
    rw [this]; simp
theorem cloF_any (gB s o x : Nat) (w : World) (hB : Blk w gB #[.int .i64 (s : Nat), .int .i64 (o : Nat)] 27) (hs : s % 2 ^ o = 0) (hb : s < 4096) (hx : x < 4096) (ho : o ≤ 10) :
    Calls Try.prog 31 #[.int .i64 (x : Nat), .pointer (some ⟨gB, 0, none⟩)] w fun e w' => e = .returned (.bool (meetB x 0 s o)) ∧ Below w.heap.size w w' := by
  have C := Lib.hid (share_any s o x 0 w hs (by simp [Nat.mod_one]) hb hx ho (by omega))
  rw [meetB_comm] at C
  generalize meetB x 0 s o = f at *
  have hb0 := hB.cell 0
  have hb1 := hB.cell 1
  simp at hb0 hb1
  clear hB
  go_enter Try.func31, Try.ntmps31
  go_wp2_with fail
  refine C.out.mono ?_; rintro e w1 ⟨rfl, b1⟩
  go_wp2_with fail
  go_ret
  exact ⟨rfl, b1⟩
set_option maxHeartbeats 1000000 in
theorem idxF_row (bb off c gB s o : Nat) (l : List Nat) (hs : s % 2 ^ o = 0) (hb : s < 4096) (ho : o ≤ 10) (w : World) (hn : l.length ≤ 1048576) (hl : ∀ x ∈ l, x < 4096) (hc : ∀ j, j < (nsI l).length → w.cell? ⟨bb, off + j, none⟩ = some (.int .i64 ((nsI l).getD j 0))) (hp : Blk w gB #[.int .i64 (s : Nat), .int .i64 (o : Nat)] 27) :
    Calls Try.prog 46 #[.slice (some ⟨bb, off, none⟩) l.length c, .func (.func 31) #[] #[.pointer (some ⟨gB, 0, none⟩)]] w
      fun e w' => e = .returned (.int .i64 (idxG (fun x : Nat => meetB x 0 s o) l)) ∧ Below w.heap.size w w' := by
  have HC := Lib.hid hc
  have HP := Lib.hid hp
  have HL := Lib.hid hl
  have HS := Lib.hid hs
  have hlen := nsI_len l
  clear hc hp hl hs
  go_enter Try.func46, Try.ntmps46
  go_wp2_with fail
  go_loopw [8] (fun i wr => ∃ k : Nat, k ≤ l.length ∧ i = .int .i64 k ∧ Hid (∀ q (hq : q < l.length), q < k → meetB l[q] 0 s o = false) ∧ Below w.heap.size w wr) (fun i _ => l.length - (RowKit.intOf i).toNat)
  case atStart => exact ⟨0, Nat.zero_le _, rfl, fun q _ h => by omega, Below.refl _ _⟩
  case round =>
    obtain ⟨k, hk, rfl, hq0, hB⟩ := hrel
    by_cases hlt : k < l.length
    · have hlt' : decide (k < l.length) = true := decide_eq_true hlt
      have c0 := cell_next hB (HC.out k (by omega))
      rw [nsI_at hlt] at c0
      have HK := Lib.hid (cloF_any gB s o l[k] wr (HP.out.kept hB) HS.out hb (HL.out _ (List.getElem_mem hlt)) ho)
      obtain ⟨x, hx⟩ : ∃ x, x = l[k] := ⟨_, rfl⟩
      have HX := Lib.hid hx
      rw [← hx] at c0 HK
      clear hx
      cases hf : meetB x 0 s o
      · rw [hf] at HK
        have HF := Lib.hid hf
        clear hf
        go_wp2_with fail
        refine HK.out.mono ?_; rintro e w2 ⟨rfl, b2⟩
        go_wp2_with fail
        go_roundw
        case rel =>
          refine ⟨k + 1, hlt, by go_num, fun q hq h => ?_, below_next b2 hB⟩
          rcases Nat.lt_or_ge q k with h1 | h1
          · exact hq0.out q hq h1
          · obtain rfl : q = k := by omega
            rw [← HX.out]; exact HF.out
        case measure => simp [RowKit.intOf]; omega
      · rw [hf] at HK
        have E : Hid (idxG (fun x : Nat => meetB x 0 s o) l = k) := idxG_at hlt hq0.out (by rw [← HX.out]; exact hf)
        clear hf
        go_wp2_with fail
        refine HK.out.mono ?_; rintro e w2 ⟨rfl, b2⟩
        go_wp2_with fail
        go_ret
        rw [E.out]; exact ⟨rfl, below_next b2 hB⟩
    · obtain rfl : k = l.length := by omega
      have hlt' : decide (l.length < l.length) = false := decide_eq_false (by omega)
      have E : Hid (idxG (fun x : Nat => meetB x 0 s o) l = -1) := idxG_none fun q hq => hq0.out q hq hq
      go_wp2_with fail
      go_ret
      rw [E.out]; exact ⟨rfl, hB⟩
theorem idxF_nil (a : Option Addr) (c : Nat) (f : Value) (w : World) :
    Calls Try.prog 46 #[.slice a 0 c, f] w fun e w' => e = .returned (.int .i64 (-1)) ∧ Below w.heap.size w w' := by
  go_enter Try.func46, Try.ntmps46
  go_wp2_with fail
  refine wp_loop_rounds 1 ?_
  rw [rounds_succ]
  go_wp2_with fail
  go_ret
  exact ⟨rfl, Below.refl _ _⟩
theorem hasF_any (v : Value) (gB s o : Nat) (l : List Nat) (hs : s % 2 ^ o = 0) (hb : s < 4096) (ho : o ≤ 10) (w : World) (hn : l.length ≤ 1048576) (hl : ∀ x ∈ l, x < 4096) (h : GRow w v (nsI l)) (hp : Blk w gB #[.int .i64 (s : Nat), .int .i64 (o : Nat)] 27) :
    Calls Try.prog 30 #[v, .func (.func 31) #[] #[.pointer (some ⟨gB, 0, none⟩)]] w
      fun e w' => e = .returned (.bool (l.any fun x : Nat => meetB x 0 s o)) ∧ Below w.heap.size w w' := by
  have HI : Hid (Calls Try.prog 46 #[v, .func (.func 31) #[] #[.pointer (some ⟨gB, 0, none⟩)]] w fun e w' => e = .returned (.int .i64 (idxG (fun x : Nat => meetB x 0 s o) l)) ∧ Below w.heap.size w w') := by
    have hlen := nsI_len l
    rcases h with ⟨h0, a, c, rfl⟩ | ⟨bb, off, c, rfl, hc⟩
    · have : l = [] := List.eq_nil_of_length_eq_zero (by rw [← hlen, h0]; rfl)
      subst this
      exact idxF_nil a c _ w
    · unfold Hid
      rw [hlen]
      exact idxF_row bb off c gB s o l hs hb ho w hn hl hc hp
  have E := idxG_any (fun x : Nat => meetB x 0 s o) l
  generalize idxG (fun x : Nat => meetB x 0 s o) l = r at *
  generalize (l.any fun x : Nat => meetB x 0 s o) = f at *
  clear h hp hs hl
  have HE := Lib.hid E
  clear E
  go_enter Try.func30, Try.ntmps30
  go_wp2_with fail
  refine HI.out.mono ?_; rintro e w1 ⟨rfl, b1⟩
  have HB := Lib.hid b1
  clear b1
  go_wp2_with fail
  go_ret
  exact ⟨by (rw [← HE.out]; rfl), HB.out⟩
end

section
open Go Go.RowKit Go.Lib
/-- A held block as a value. -/
def heV (s o f t : Int) : Value := .agg #[.int .i64 s, .int .i64 o, .int .i64 f, .int .i64 t]
set_option maxRecDepth 100000 in
set_option maxHeartbeats 2000000 in
theorem cloH_any (gT gA gB s o a b : Nat) (h : HeT) (w : World) (hA : Blk w gA #[.int .i64 (a : Nat)] 3) (hT : Blk w gT #[.int .i64 (b : Nat)] 3) (hB : Blk w gB #[.int .i64 (s : Nat), .int .i64 (o : Nat)] 27)
    (hs : s % 2 ^ o = 0) (hb : s < 4096) (ho : o ≤ 10) (hs' : h.1 % 2 ^ h.2.1 = 0) (hb' : h.1 < 4096) (ho' : h.2.1 ≤ 10) :
    Calls Try.prog 34 #[heV h.1 h.2.1 h.2.2.1 h.2.2.2, .pointer (some ⟨gT, 0, none⟩), .pointer (some ⟨gA, 0, none⟩), .pointer (some ⟨gB, 0, none⟩)] w fun e w' => e = .returned (.bool (keeps h a b && meetB h.1 h.2.1 s o)) ∧ Below w.heap.size w w' := by
  obtain ⟨s', o', f, t⟩ := h
  dsimp only at hs' hb' ho' ⊢
  have C : Hid (∀ w, Calls Try.prog 32 #[.agg #[.int .i64 (s : Nat), .int .i64 (o : Nat)], .agg #[.int .i64 (s' : Nat), .int .i64 (o' : Nat)]] w fun e w' => e = .returned (.bool (meetB s' o' s o)) ∧ Below w.heap.size w w') := fun w => by
    rw [meetB_comm]; exact share_any s o s' o' w hs hs' hb hb' ho ho'
  unfold keeps heV
  dsimp only
  generalize meetB s' o' s o = m at *
  have a0 := hA.cell 0
  have t0 := hT.cell 0
  have b0 := hB.cell 0
  have b1 := hB.cell 1
  simp at a0 t0 b0 b1
  have la := hA.lt
  have lt := hT.lt
  have lb := hB.lt
  clear hA hT hB hs hs'
  obtain ⟨W, hW⟩ : ∃ W, W = w.alloc (.cells #[.int .i64 (s' : Nat), .int .i64 (o' : Nat), .int .i64 (f : Nat), .int .i64 (t : Nat)] 57) := ⟨_, rfl⟩
  have HBW : Hid (Below w.heap.size w W) := by unfold Hid; rw [hW]; exact (Below.refl _ _).alloc (Nat.le_refl _) _
  have hBW := Blk.new w #[.int .i64 (s' : Nat), .int .i64 (o' : Nat), .int .i64 (f : Nat), .int .i64 (t : Nat)] 57
  rw [← hW] at hBW
  have h0 := hBW.cell 0
  have h1 := hBW.cell 1
  have h2 := hBW.cell 2
  have h3 := hBW.cell 3
  simp at h0 h1 h2 h3
  replace a0 := cell_next HBW.out a0
  replace t0 := cell_next HBW.out t0
  replace b0 := cell_next HBW.out b0
  replace b1 := cell_next HBW.out b1
  go_enter Try.func34, Try.ntmps34
  by_cases c1 : f < b
  · have d1 : decide (f < b) = true := decide_eq_true c1
    have d2 : decide ((f : Int) < (b : Int)) = true := decide_eq_true (by omega)
    by_cases c2 : a < t
    · have d3 : decide (a < t) = true := decide_eq_true c2
      have d4 : decide ((t : Int) > (a : Int)) = true := decide_eq_true (by omega)
      rw [d1, d3]
      go_upto_region 1 with fail
      rw [← hW]
      clear hW
      go_wp2_with fail
      refine (C.out _).mono ?_; rintro e w2 ⟨rfl, b2⟩
      have HB := Lib.hid (below_next b2 HBW.out)
      clear b2
      go_wp2_with fail
      go_ret
      exact ⟨by cases m <;> rfl, HB.out⟩
    · have d3 : decide (a < t) = false := decide_eq_false c2
      have d4 : decide ((t : Int) > (a : Int)) = false := decide_eq_false (by omega)
      rw [d1, d3]
      go_upto_region 1 with fail
      rw [← hW]
      clear hW
      go_wp2_with fail
      go_ret
      exact ⟨rfl, HBW.out⟩
  · have d1 : decide (f < b) = false := decide_eq_false c1
    have d2 : decide ((f : Int) < (b : Int)) = false := decide_eq_false (by omega)
    rw [d1]
    go_upto_region 1 with fail
    rw [← hW]
    clear hW
    go_wp2_with fail
    go_ret
    exact ⟨rfl, HBW.out⟩
/-- What Free asks of a held block. -/
def askH (s o a b : Nat) (h : HeT) : Bool := keeps h a b && meetB h.1 h.2.1 s o
structure HeIn (h : HeT) : Prop where
  al : h.1 % 2 ^ h.2.1 = 0
  lt : h.1 < 4096
  o10 : h.2.1 ≤ 10
/-- The cells of one held block. -/
theorem he_cells {w : World} {bb off n c : Nat} {l : List HeT} (h : HRow w (.slice (some ⟨bb, off, none⟩) n c) (l.map heZ)) {k : Nat} (hk : k < l.length) {w' : World} (hb : Below w.heap.size w w') :
    w'.cell? ⟨bb, off + k * 4, none⟩ = some (.int .i64 (l[k].1 : Nat)) ∧ w'.cell? ⟨bb, off + k * 4 + 1, none⟩ = some (.int .i64 (l[k].2.1 : Nat)) ∧ w'.cell? ⟨bb, off + k * 4 + 2, none⟩ = some (.int .i64 (l[k].2.2.1 : Nat)) ∧ w'.cell? ⟨bb, off + k * 4 + 3, none⟩ = some (.int .i64 (l[k].2.2.2 : Nat)) := by
  have hk' : k < (l.map heZ).length := by simpa using hk
  obtain ⟨b', off', e, hc⟩ := h.at hk'
  injection e with e; injection e with e1 e2; subst e1; subst e2
  have e : (l.map heZ)[k] = heZ l[k] := by simp
  rw [e] at hc
  exact ⟨hc w' hb 0 _ rfl, hc w' hb 1 _ rfl, hc w' hb 2 _ rfl, hc w' hb 3 _ rfl⟩
set_option maxRecDepth 100000 in
set_option maxHeartbeats 2000000 in
theorem idxH_row (bb off c gT gA gB s o a b : Nat) (l : List HeT) (hs : s % 2 ^ o = 0) (hb : s < 4096) (ho : o ≤ 10) (w : World) (hn : l.length ≤ 1048576) (hl : ∀ h ∈ l, HeIn h) (hr : HRow w (.slice (some ⟨bb, off, none⟩) l.length c) (l.map heZ))
    (hA : Blk w gA #[.int .i64 (a : Nat)] 3) (hT : Blk w gT #[.int .i64 (b : Nat)] 3) (hp : Blk w gB #[.int .i64 (s : Nat), .int .i64 (o : Nat)] 27) :
    Calls Try.prog 47 #[.slice (some ⟨bb, off, none⟩) l.length c, .func (.func 34) #[] #[.pointer (some ⟨gT, 0, none⟩), .pointer (some ⟨gA, 0, none⟩), .pointer (some ⟨gB, 0, none⟩)]] w
      fun e w' => e = .returned (.int .i64 (idxG (askH s o a b) l)) ∧ Below w.heap.size w w' := by
  have HR := Lib.hid hr
  have HP := Lib.hid hp
  have HA := Lib.hid hA
  have HT := Lib.hid hT
  have HL := Lib.hid hl
  have HS := Lib.hid hs
  clear hr hp hl hs hA hT
  go_enter Try.func47, Try.ntmps47
  go_wp2_with fail
  go_loopw [8] (fun i wr => ∃ k : Nat, k ≤ l.length ∧ i = .int .i64 k ∧ Hid (∀ q (hq : q < l.length), q < k → askH s o a b l[q] = false) ∧ Below w.heap.size w wr) (fun i _ => l.length - (RowKit.intOf i).toNat)
  case atStart => exact ⟨0, Nat.zero_le _, rfl, fun q _ h => by omega, Below.refl _ _⟩
  case round =>
    obtain ⟨k, hk, rfl, hq0, hB⟩ := hrel
    by_cases hlt : k < l.length
    · have hlt' : decide (k < l.length) = true := decide_eq_true hlt
      obtain ⟨c0, c1, c2, c3⟩ := he_cells HR.out hlt hB
      have HI := HL.out _ (List.getElem_mem hlt)
      have HK := Lib.hid (cloH_any gT gA gB s o a b l[k] wr (HA.out.kept hB) (HT.out.kept hB) (HP.out.kept hB) HS.out hb ho HI.al HI.lt HI.o10)
      unfold heV at HK
      obtain ⟨x, hx⟩ : ∃ x, x = l[k] := ⟨_, rfl⟩
      have HX := Lib.hid hx
      rw [← hx] at c0 c1 c2 c3 HK
      clear hx HI
      have e : (keeps x a b && meetB x.1 x.2.1 s o) = askH s o a b x := rfl
      rw [e] at HK
      clear e
      cases hf : askH s o a b x
      · rw [hf] at HK
        have HF := Lib.hid hf
        clear hf
        go_wp2_with fail
        refine HK.out.mono ?_; rintro e w2 ⟨rfl, b2⟩
        go_wp2_with fail
        go_roundw
        case rel =>
          refine ⟨k + 1, hlt, by go_num, fun q hq h => ?_, below_next b2 hB⟩
          rcases Nat.lt_or_ge q k with h1 | h1
          · exact hq0.out q hq h1
          · obtain rfl : q = k := by omega
            rw [← HX.out]; exact HF.out
        case measure => simp [RowKit.intOf]; omega
      · rw [hf] at HK
        have E : Hid (idxG (askH s o a b) l = k) := idxG_at hlt hq0.out (by rw [← HX.out]; exact hf)
        clear hf
        go_wp2_with fail
        refine HK.out.mono ?_; rintro e w2 ⟨rfl, b2⟩
        go_wp2_with fail
        go_ret
        rw [E.out]; exact ⟨rfl, below_next b2 hB⟩
    · obtain rfl : k = l.length := by omega
      have hlt' : decide (l.length < l.length) = false := decide_eq_false (by omega)
      have E : Hid (idxG (askH s o a b) l = -1) := idxG_none fun q hq => hq0.out q hq hq
      go_wp2_with fail
      go_ret
      rw [E.out]; exact ⟨rfl, hB⟩
theorem idxH_nil (a : Option Addr) (c : Nat) (f : Value) (w : World) :
    Calls Try.prog 47 #[.slice a 0 c, f] w fun e w' => e = .returned (.int .i64 (-1)) ∧ Below w.heap.size w w' := by
  go_enter Try.func47, Try.ntmps47
  go_wp2_with fail
  refine wp_loop_rounds 1 ?_
  rw [rounds_succ]
  go_wp2_with fail
  go_ret
  exact ⟨rfl, Below.refl _ _⟩
theorem hasH_any (v : Value) (gT gA gB s o a b : Nat) (l : List HeT) (hs : s % 2 ^ o = 0) (hb : s < 4096) (ho : o ≤ 10) (w : World) (hn : l.length ≤ 1048576) (hl : ∀ h ∈ l, HeIn h) (hr : HRow w v (l.map heZ))
    (hA : Blk w gA #[.int .i64 (a : Nat)] 3) (hT : Blk w gT #[.int .i64 (b : Nat)] 3) (hp : Blk w gB #[.int .i64 (s : Nat), .int .i64 (o : Nat)] 27) :
    Calls Try.prog 33 #[v, .func (.func 34) #[] #[.pointer (some ⟨gT, 0, none⟩), .pointer (some ⟨gA, 0, none⟩), .pointer (some ⟨gB, 0, none⟩)]] w
      fun e w' => e = .returned (.bool (l.any (askH s o a b))) ∧ Below w.heap.size w w' := by
  have HI : Hid (Calls Try.prog 47 #[v, .func (.func 34) #[] #[.pointer (some ⟨gT, 0, none⟩), .pointer (some ⟨gA, 0, none⟩), .pointer (some ⟨gB, 0, none⟩)]] w fun e w' => e = .returned (.int .i64 (idxG (askH s o a b) l)) ∧ Below w.heap.size w w') := by
    have hr2 := hr
    rcases hr with ⟨h0, x, c, rfl⟩ | ⟨bb, off, c, rfl, hc⟩
    · have : l = [] := by simpa using h0
      subst this
      exact idxH_nil x c _ w
    · unfold Hid
      rw [List.length_map] at hr2 ⊢
      exact idxH_row bb off c gT gA gB s o a b l hs hb ho w hn hl hr2 hA hT hp
  have E := idxG_any (askH s o a b) l
  generalize idxG (askH s o a b) l = r at *
  generalize (l.any (askH s o a b)) = f at *
  clear hr hp hs hl hA hT
  have HE := Lib.hid E
  clear E
  go_enter Try.func33, Try.ntmps33
  go_wp2_with fail
  refine HI.out.mono ?_; rintro e w1 ⟨rfl, b1⟩
  have HB := Lib.hid b1
  clear b1
  go_wp2_with fail
  go_ret
  exact ⟨by (rw [← HE.out]; rfl), HB.out⟩
end

end Go.Proofs.Ytioeblljabohbaa
