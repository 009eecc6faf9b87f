/-
  Jobs: what a job is, and in memory: a row of 26 cells each.
-/
import Derived.Test.YtfabjlhepadkpaaDeMC
import Derived.Test.YtfabjlhepadkpaaGRw
import Derived.Test.YtfabjlhepadkpaaRwO
import Derived.Test.YtfabjlhepadkpaaRwS
import Derived.Test.YtfabjlhepadkpaaChg
import Derived.Deep.MidRow
import Derived.Deep.WholeRow
import Derived.Great.Ranges
import Derived.Great.BuildSlice
namespace Go.Proofs.Ytfabjlhepadkpaa
open Go Go.RowKit Go.Lib
set_option linter.unusedVariables false

/-- A job: its 26 cells; al: its array's indexes; nd: its needs. -/
structure Jb where
  id : Nat
  arr : Nat
  idx : Int
  name : ByteArray
  acct : ByteArray
  prt : ByteArray
  qos : ByteArray
  size : Int
  limit : Int
  av : Value
  most : Int
  any : Bool
  dv : Value
  nice : Int
  beg : Int
  hold : Bool
  requ : Bool
  run : ByteArray
  part : Int
  how : Int
  since : Int
  started : Int
  runs : Int
  ran : Int
  bst : Int
  bor : Int
  al : List Int
  nd : List NdM
def jbV (j : Jb) : List Value :=
  [.int .u32 (j.id : Nat), .int .u32 (j.arr : Nat), .int .i64 j.idx, .string j.name, .string j.acct, .string j.prt, .string j.qos, .int .i64 j.size, .int .i64 j.limit, j.av, .int .i64 j.most, .bool j.any, j.dv, .int .i64 j.nice, .int .i64 j.beg, .bool j.hold, .bool j.requ, .string j.run,
    .int .i64 j.part, .int .i64 j.how, .int .i64 j.since, .int .i64 j.started, .int .i64 j.runs, .int .i64 j.ran, .int .i64 j.bst, .int .i64 j.bor]
theorem jbV_len (j : Jb) : (jbV j).length = 26 := rfl
/-- A job as a value. -/
def jbC (j : Jb) : Array Value := (jbV j).toArray
theorem jbC_size (j : Jb) : (jbC j).size = 26 := rfl
/-- Its slices are slices. -/
def JbS (j : Jb) : Prop := j.av.oneCell' = true ∧ j.dv.oneCell' = true
theorem jbV_one {j : Jb} (h : JbS j) : ∀ u ∈ jbV j, u.oneCell' = true := fun u hu => by
  simp only [jbV, List.mem_cons, List.not_mem_nil, or_false] at hu
  rcases hu with rfl | rfl | rfl | rfl | rfl | rfl | rfl | rfl | rfl | rfl | rfl | rfl | rfl | rfl | rfl | rfl | rfl | rfl | rfl | rfl | rfl | rfl | rfl | rfl | rfl | rfl
  all_goals first | rfl | exact h.1 | exact h.2
theorem jbC_one {j : Jb} (h : JbS j) : (jbC j).all (·.oneCell') = true := all_oneCell_toArray (jbV_one h)
/-- Its numbers are of their types; its texts no longer than may be. -/
structure JbOk (j : Jb) : Prop where
  id : j.id < 4294967296
  arr : j.arr < 4294967296
  ints : ∀ z ∈ [j.idx, j.size, j.limit, j.most, j.nice, j.beg, j.part, j.how, j.since, j.started, j.runs, j.ran, j.bst, j.bor], (Lit.int .i64 z).wf = true
  name : j.name.size ≤ maxLen
  acct : j.acct.size ≤ maxLen
  prt : j.prt.size ≤ maxLen
  qos : j.qos.size ≤ maxLen
  run : j.run.size ≤ maxLen
/-- A row of jobs, read: with its needs. -/
structure JRw (w : World) (v : Value) (l : List Jb) : Prop where
  row : RowG 26 jbV w v l
  nds : ∀ j ∈ l, NRw w j.dv j.nd
  als : ∀ j ∈ l, GRow w j.av j.al
  ok : ∀ j ∈ l, JbOk j
  len : l.length ≤ 1048576
theorem JRw.kept {w w' : World} {v : Value} {l : List Jb} (h : JRw w v l) (hb : Below w.heap.size w w') : JRw w' v l :=
  ⟨h.row.kept hb, fun p hp => (h.nds p hp).kept hb, fun p hp => (h.als p hp).kept hb, h.ok, h.len⟩
theorem JRw.one {w : World} {v : Value} {l : List Jb} (h : JRw w v l) {j : Jb} (hj : j ∈ l) : JbS j := by
  obtain ⟨a, c, e⟩ := (h.als j hj).slice
  obtain ⟨a', c', e'⟩ := (h.nds j hj).row.slice
  exact ⟨by rw [e]; rfl, by rw [e']; rfl⟩
/-- The job at a place, now and later: where its cells lie. -/
theorem JRw.at {w w' : World} {a : Option Addr} {n c : Nat} {l : List Jb} (h : JRw w (.slice a n c) l) (hb : Below w.heap.size w w') {k : Nat} (hk : k < l.length) :
    ∃ b off, a = some ⟨b, off, none⟩ ∧ w'.rangeAt b (off + k * 26) (jbV l[k]) := by
  obtain ⟨b, off, e, hc⟩ := RowG.at h.row hk
  exact ⟨b, off, e, fun j u hu => hc w' hb j u hu⟩
theorem range_cell {w : World} {b o : Nat} {cs : List Value} (h : w.rangeAt b o cs) (j : Nat) : j < cs.length → w.cell? ⟨b, o + j, none⟩ = cs[j]? := fun hj => by
  rw [h j cs[j] (List.getElem?_eq_getElem hj), List.getElem?_eq_getElem hj]
theorem range_blk {w : World} {b : Nat} {cs : List Value} {t : TypeId} (h : Blk w b cs.toArray t) : w.rangeAt b 0 cs := fun j v hj => by
  rw [h.cell]; simpa using hj
theorem Try.sizeJb : (Try.prog.info? 41).map (·.size) = some 26 := by kernel_rfl
/-- One field, out of the job's cells. -/
theorem blk_jb {w : World} {b : Nat} {j : Jb} {t : TypeId} (h : Blk w b (jbC j) t) (k : Nat) : w.cell? ⟨b, k, none⟩ = (jbV j)[k]? := by
  rw [h.cell]; simp [jbC]
/-! A job loaded whole, and stored into the block that has just been made. -/
section
variable {ops : Array Oper} {rest : List Oper} {op : Oper} {a : Act} {w : World} {Q : Exit → Act → World → Prop}
theorem ld_jb (hgd : op.guard = none) (x : Operand) (ho : op.op = .load 41 x) (b o : Nat) (hx : a.eval x = .pointer (some ⟨b, o, none⟩)) (j : Jb) (hc : w.rangeAt b o (jbV j))
    (h : wpList Try.prog ops Q rest (a.put op.dst (.agg (jbC j))) w) : wpList Try.prog ops Q (op :: rest) a w :=
  wpList_load_mid hgd 41 x ho b o hx (jbV j) _ hc Try.underlying41 rfl Try.sizeJb h
/-- The same where the operation is guarded, and the guard says yes. -/
theorem ld_jbg (hw : Region.wanted op (yielded ops a.tmps) = true) (x : Operand) (ho : op.op = .load 41 x) (b o : Nat) (hx : a.eval x = .pointer (some ⟨b, o, none⟩)) (j : Jb) (hc : w.rangeAt b o (jbV j))
    (h : wpList Try.prog ops Q rest (a.put op.dst (.agg (jbC j))) w) : wpList Try.prog ops Q (op :: rest) a w :=
  BigFrame.wpList_want hw fun _ hK => wp_load_mid 41 x ho b o hx (jbV j) _ hc Try.underlying41 rfl Try.sizeJb (hK _ _ h)
theorem st_jb {W : World} (hgd : op.guard = none) (x y : Operand) (ho : op.op = .store 41 x y) (t : TypeId) (old : Array Value) (hw : w = W.alloc (.cells old t)) (hx : a.eval x = .pointer (some ⟨W.heap.size, 0, none⟩)) (j : Jb) (hy : a.eval y = .agg (jbC j))
    (ho2 : old.size = 26) (hj : JbS j) (h : wpList Try.prog ops Q rest (a.put op.dst undef) (W.alloc (.cells (jbC j) t))) : wpList Try.prog ops Q (op :: rest) a w := by
  subst hw
  refine wpList_store_row hgd 41 x y ho _ (jbC j) hx hy t old (heap_alloc_last _ _) Try.sizeJb ho2 (jbC_one hj) ?_
  rw [World.setRow_alloc_new]; exact h
/-- A job stored into a block that is there. -/
theorem st_jbo (hgd : op.guard = none) (x y : Operand) (ho : op.op = .store 41 x y) (g : Nat) (t : TypeId) (old : Array Value) (hg : Blk w g old t) (hx : a.eval x = .pointer (some ⟨g, 0, none⟩)) (j : Jb) (hy : a.eval y = .agg (jbC j))
    (ho2 : old.size = 26) (hj : JbS j) (h : wpList Try.prog ops Q rest (a.put op.dst undef) (w.setRow g (jbC j))) : wpList Try.prog ops Q (op :: rest) a w :=
  wpList_store_row hgd 41 x y ho g (jbC j) hx hy t old hg Try.sizeJb ho2 (jbC_one hj) h
end
theorem Blk.setRow {w : World} {g : Nat} {old : Array Value} {t : TypeId} (h : Blk w g old t) (cs : Array Value) : Blk (w.setRow g cs) g cs t := setRow_heap w g old cs t _ h
theorem Blk.setRowO {w : World} {g b : Nat} {cs : Array Value} {t : TypeId} (h : Blk w b cs t) (hn : b ≠ g) (ds : Array Value) : Blk (w.setRow g ds) b cs t := by unfold Blk at *; rw [setRow_other w g b ds hn]; exact h
theorem chg_setRow {own : Nat → Prop} {w : World} {g : Nat} (hg : own g) (cs : Array Value) : Chg own w (w.setRow g cs) :=
  ⟨rfl, rfl, rfl, by simp, fun k _ hk => setRow_other w g k cs fun e => hk (by subst e; exact hg)⟩
theorem below_setRow {u w : World} {g : Nat} (h : Below u.heap.size u w) (hg : u.heap.size ≤ g) (cs : Array Value) : Below u.heap.size u (w.setRow g cs) :=
  h.trans ((chg_setRow (own := fun k => k = g) rfl cs).to_below h.size (fun k hk e => by omega))
/-- A job in a result cell, alone or beside one more result. -/
theorem run_jb {w : World} {g : Nat} {j : Jb} {t : TypeId} (hg : Blk w g (jbC j) t) : (loadVar 41 ⟨g, 0, none⟩).run Try.prog w = .ok (.agg (jbC j)) w :=
  run_loadVar_row w g t 41 (jbC j) (0, 0) _ hg Try.underlying41 rfl Try.sizeJb
theorem res_jb1 {fn : Func} {p : Tmp} (h : fn.results = #[.cell p 41]) (tmps : Array Value) (w : World) (g : Nat) (j : Jb) (t : TypeId) (hp : tmps.getD p undef = .pointer (some ⟨g, 0, none⟩)) (hg : Blk w g (jbC j) t) :
    (results fn tmps).run Try.prog w = .ok (.agg (jbC j)) w := by
  have hp' : tmps[p]?.getD undef = .pointer (some ⟨g, 0, none⟩) := by simpa using hp
  simp [results, h, hp', asAddr, run_jb hg]
theorem res_jb2 {fn : Func} {p q : Tmp} (h : fn.results = #[.cell p 41, .tmp q]) (tmps : Array Value) (w : World) (g : Nat) (j : Jb) (t : TypeId) (hp : tmps.getD p undef = .pointer (some ⟨g, 0, none⟩)) (v : Value) (hq : tmps.getD q undef = v) (hg : Blk w g (jbC j) t) :
    (results fn tmps).run Try.prog w = .ok (.tuple #[.agg (jbC j), v]) w := by
  have hp' : tmps[p]?.getD undef = .pointer (some ⟨g, 0, none⟩) := by simpa using hp
  have hq' : tmps[q]?.getD undef = v := by simpa using hq
  simp [results, h, hp', hq', asAddr, run_jb hg]
/-- No job. -/
def zJb : Jb := ⟨0, 0, 0, ⟨#[]⟩, ⟨#[]⟩, ⟨#[]⟩, ⟨#[]⟩, 0, 0, .slice none 0 0, 0, false, .slice none 0 0, 0, 0, false, false, ⟨#[]⟩, 0, 0, 0, 0, 0, 0, 0, 0, [], []⟩
theorem zJb_s : JbS zJb := ⟨rfl, rfl⟩
/-- Its cells, as the program's zero value lays them. -/
def zJbC : Array Value := #[.int .u32 0, .int .u32 0, .int .i64 0, .string ⟨#[]⟩, .string ⟨#[]⟩, .string ⟨#[]⟩, .string ⟨#[]⟩, .int .i64 0, .int .i64 0, .slice none 0 0, .int .i64 0, .bool false, .slice none 0 0, .int .i64 0, .int .i64 0, .bool false, .bool false, .string ⟨#[]⟩,
  .int .i64 0, .int .i64 0, .int .i64 0, .int .i64 0, .int .i64 0, .int .i64 0, .int .i64 0, .int .i64 0]
theorem zJbC_eq : jbC zJb = zJbC := rfl
end Go.Proofs.Ytfabjlhepadkpaa
