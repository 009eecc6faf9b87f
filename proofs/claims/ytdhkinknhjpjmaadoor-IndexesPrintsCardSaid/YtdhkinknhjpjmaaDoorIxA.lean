/-
  The reader of indexes in the memory; its calls number, item, digit, isFault.
-/
import Derived.Test.YtdhkinknhjpjmaaDoorProg
import Derived.Test.YtdhkinknhjpjmaaDoorIxP
import Derived.Test.YtdhkinknhjpjmaaDoorMem
import Derived.Lib.Hide
import Derived.OwnWalk
namespace Go.Proofs.YtdhkinknhjpjmaaDoor
open Go Go.RowKit Go.Lib
set_option linter.unusedVariables false

def faultI (f : Option Nat) : Int := match f with | none => -1 | some p => (p : Int)
def fieldV (s : St) (i : Nat) : Value :=
  if i = 0 then .int .i64 s.bg else if i = 1 then .int .i64 s.part else if i = 2 then .int .i64 s.dg
  else if i < 7 then .int .i64 (s.num (i - 3)) else if i < 1008 then .bool (s.marks (i - 7)) else .int .i64 (faultI s.fault)
def St.cells (s : St) : Array Value := Array.ofFn (n := 1009) fun i => fieldV s i
theorem cells_size (s : St) : s.cells.size = 1009 := by simp [St.cells]
theorem cells_get (s : St) {i : Nat} (h : i < 1009) : s.cells[i]? = some (fieldV s i) := by
  unfold St.cells
  rw [Array.getElem?_ofFn, dif_pos h]
/-- Block b holds a reader. -/
structure Rdr (w : World) (b : Nat) (s : St) : Prop where
  blk : Blk w b s.cells 53
theorem Rdr.drew {w : World} {b : Nat} {s : St} (h : Rdr w b s) : Rdr w.drew b s := ⟨h.blk⟩
theorem Rdr.cell {w : World} {b : Nat} {s : St} (h : Rdr w b s) {i : Nat} (hi : i < 1009) : w.cell? ⟨b, i, none⟩ = some (fieldV s i) := by
  rw [Blk.cell h.blk, cells_get s hi]
theorem Rdr.frozen {w : World} {b : Nat} {s : St} (h : Rdr w b s) (i : Nat) : w.frozen? ⟨b, i, none⟩ = false := Blk.free h.blk i
theorem f_bg (s : St) : fieldV s 0 = .int .i64 s.bg := rfl
theorem f_part (s : St) : fieldV s 1 = .int .i64 s.part := rfl
theorem f_dg (s : St) : fieldV s 2 = .int .i64 s.dg := rfl
theorem f_num (s : St) {q : Nat} (h : q < 4) : fieldV s (3 + q) = .int .i64 (s.num q) := by
  unfold fieldV
  rw [if_neg (by omega), if_neg (by omega), if_neg (by omega), if_pos (by omega), Nat.add_sub_cancel_left]
theorem f_mark (s : St) {i : Nat} (h : i ≤ 1000) : fieldV s (7 + i) = .bool (s.marks i) := by
  unfold fieldV
  rw [if_neg (by omega), if_neg (by omega), if_neg (by omega), if_neg (by omega), if_pos (by omega), Nat.add_sub_cancel_left]
theorem f_fault (s : St) : fieldV s 1008 = .int .i64 (faultI s.fault) := rfl
theorem Rdr.store {w : World} {b : Nat} {s s' : St} (h : Rdr w b s) {o : Nat} {u : Value} (ho : o < 1009) (h1 : fieldV s' o = u) (h2 : ∀ i, i < 1009 → i ≠ o → fieldV s' i = fieldV s i) : Rdr (w.setCell ⟨b, o, none⟩ u) b s' := by
  have := Blk.set h.blk o u
  have e : s.cells.setIfInBounds o u = s'.cells := by
    apply Array.ext_getElem?
    intro i
    rw [Array.getElem?_setIfInBounds]
    split
    · rename_i hi
      subst hi
      rw [cells_size, if_pos ho, cells_get s' ho, h1]
    · rename_i hi
      by_cases hi9 : i < 1009
      · rw [cells_get s hi9, cells_get s' hi9, h2 i hi9 fun e => hi e.symm]
      · rw [Array.getElem?_eq_none (by rw [cells_size]; omega), Array.getElem?_eq_none (by rw [cells_size]; omega)]
  rw [e] at this
  exact ⟨this⟩
theorem Rdr.other {w w' : World} {b : Nat} {s : St} (h : Rdr w b s) {k : Option Nat} (hg : w.grownBy w' k) (hne : some b ≠ k) : Rdr w' b s := by
  obtain ⟨h⟩ := h
  refine ⟨?_⟩
  unfold Blk at *
  rw [hg.block b (lt_of_block h) hne]; exact h
theorem gb_trans {a b c : World} {k : Option Nat} (h : a.grownBy b k) (h' : b.grownBy c k) : a.grownBy c k :=
  ⟨h'.os.trans h.os, h'.tape.trans h.tape, h'.output.trans h.output, Nat.le_trans h.size h'.size, fun i hi hne => (h'.block i (Nat.lt_of_lt_of_le hi h.size) hne).trans (h.block i hi hne)⟩
theorem gb_set (w : World) (b o : Nat) (u : Value) : w.grownBy (w.setCell ⟨b, o, none⟩ u) (some b) :=
  ⟨rfl, rfl, rfl, by show w.heap.size ≤ (w.heap.modify b _).size; simp, fun i hi hne => Below.heap_setCell _ _ _ _ fun e => hne (by rw [e])⟩
theorem gb_drew (w : World) (k : Option Nat) : w.grownBy w.drew k := ⟨rfl, rfl, rfl, Nat.le_refl _, fun _ _ _ => rfl⟩
theorem field_part {s : St} {p i : Nat} (h : i ≠ 1) : fieldV { s with part := p } i = fieldV s i := by unfold fieldV; simp only [if_neg h]
theorem field_dg {s : St} {p i : Nat} (h : i ≠ 2) : fieldV { s with dg := p } i = fieldV s i := by unfold fieldV; simp only [if_neg h]
theorem field_bg {s : St} {p i : Nat} (h : i ≠ 0) : fieldV { s with bg := p } i = fieldV s i := by unfold fieldV; simp only [if_neg h]
theorem field_num {s : St} {p v i : Nat} (h : i ≠ 3 + p) : fieldV { s with num := upd s.num p v } i = fieldV s i := by
  unfold fieldV
  dsimp only
  split
  · rfl
  · split
    · rfl
    · split
      · rfl
      · split
        · rw [upd_ne (by omega)]
        · rfl
theorem field_fault {s : St} {f : Option Nat} {i : Nat} (h : i < 1008) : fieldV { s with fault := f } i = fieldV s i := by
  unfold fieldV
  dsimp only
  split
  · rfl
  · split
    · rfl
    · split
      · rfl
      · split
        · rfl
        · first | rfl | (rw [if_pos h, if_pos h])
theorem Rdr.part {w : World} {b : Nat} {s : St} (h : Rdr w b s) (p : Nat) : Rdr (w.setCell ⟨b, 1, none⟩ (.int .i64 p)) b { s with part := p } := h.store (by omega) rfl fun i _ hi => field_part hi
theorem Rdr.dg {w : World} {b : Nat} {s : St} (h : Rdr w b s) (p : Nat) : Rdr (w.setCell ⟨b, 2, none⟩ (.int .i64 p)) b { s with dg := p } := h.store (by omega) rfl fun i _ hi => field_dg hi
theorem Rdr.bg {w : World} {b : Nat} {s : St} (h : Rdr w b s) (p : Nat) : Rdr (w.setCell ⟨b, 0, none⟩ (.int .i64 p)) b { s with bg := p } := h.store (by omega) rfl fun i _ hi => field_bg hi
theorem Rdr.num {w : World} {b : Nat} {s : St} (h : Rdr w b s) {p : Nat} (hp : p < 4) (v : Nat) : Rdr (w.setCell ⟨b, 3 + p, none⟩ (.int .i64 v)) b { s with num := upd s.num p v } :=
  h.store (by omega) (by rw [f_num _ hp]; show Value.int .i64 (upd s.num p v p) = _; rw [upd_at]) fun i _ hi => field_num hi
theorem Rdr.fault {w : World} {b : Nat} {s : St} (h : Rdr w b s) (f : Option Nat) : Rdr (w.setCell ⟨b, 1008, none⟩ (.int .i64 (faultI f))) b { s with fault := f } := h.store (by omega) rfl fun i _ hi => field_fault (by omega)
/-- What a reader may be. -/
structure StOk (s : St) : Prop where
  part : s.part ≤ 3
  dg : s.dg ≤ 4
  cur : s.num s.part < 10 ^ s.dg
  num : ∀ q, s.num q ≤ 9999
  bg : s.bg ≤ 9000000000000000000
  fault : ∀ p, s.fault = some p → p ≤ 9000000000000000000

set_option maxRecDepth 100000 in
theorem rnumber_any (b p : Nat) (s : St) (w : World) (hp : p < 4) (h : Rdr w b s) :
    Calls Tryd.prog 31 #[.pointer (some ⟨b, 0, none⟩), .int .i64 p] w fun e w' => e = .returned (.tuple #[]) ∧ Rdr w' b (s.number p) ∧ w.grownBy w' (some b) := by
  have c1 := h.cell (i := 1) (by omega)
  have c2 := h.cell (i := 2) (by omega)
  have c3 := h.cell (i := 3 + p) (by omega)
  have f1 := h.frozen 1
  have f2 := h.frozen 2
  have f3 := h.frozen (3 + p)
  have hpi : (p : Int) < 4 := by omega
  generalize fieldV s 1 = x1 at c1
  generalize fieldV s 2 = x2 at c2
  generalize fieldV s (3 + p) = x3 at c3
  have H := Lib.hid (((h.part p).dg 0).num hp 0)
  have G := Lib.hid (gb_trans (gb_trans (gb_set w b 1 (.int .i64 p)) (gb_set _ b 2 (.int .i64 ((0 : Nat) : Int)))) (gb_set _ b (3 + p) (.int .i64 ((0 : Nat) : Int))))
  clear h
  go_enter Tryd.func31, Tryd.ntmps31
  go_wp2_with fail
  go_returns
  exact ⟨rfl, H.out, G.out⟩
end Go.Proofs.YtdhkinknhjpjmaaDoor
