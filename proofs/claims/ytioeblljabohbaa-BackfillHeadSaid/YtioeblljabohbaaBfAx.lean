/-
  A scene of the law's own that grows by what is held: its box and its rows in the memory.
-/
import Derived.Test.YtioeblljabohbaaBfAq
import Derived.Deep.AppendLies
namespace Go.Proofs.Ytioeblljabohbaa
open Go Go.RowKit Go.Lib Go.Sort
set_option linter.unusedVariables false

theorem own_cap2 {w : World} {base size n c : Nat} {e : TypeId} {a : Option Addr} {xs : List Value} (h : w.ownsRow base e size (.slice a n c) n xs) : n ≤ c := by
  obtain ⟨_, ⟨h1, h2⟩ | ⟨g, cap, cur, h1, _, _, hcap, _⟩⟩ := h
  · omega
  · injection h1 with _ _ h3
    rw [h3]; exact hcap
structure XAt (w4 wc : World) (gX n : Nat) (vF : Value) (fl : List Nat) (aX : Option Addr) (cX m : Nat) (H : List HeT) : Prop where
  x : Blk wc gX #[.int .i64 (n : Int), vF, .slice aX m cX] 25
  f : wc.ownsRow w4.heap.size 3 1 vF fl.length (numsL (nsI fl))
  h : wc.ownsRow w4.heap.size 57 4 (.slice aX m cX) m (heF H)
  nf : vF.ownBlock ≠ some gX
  nx : (Value.slice aX m cX).ownBlock ≠ some gX
  lo : w4.heap.size ≤ gX
  b : Below w4.heap.size w4 wc
  len : H.length = m
section
variable {w4 wc : World} {gX n : Nat} {vF : Value} {fl : List Nat} {aX : Option Addr} {cX m : Nat} {H : List HeT}
theorem XAt.kept (h : XAt w4 wc gX n vF fl aX cX m H) {w' : World} (hb : Below wc.heap.size wc w') : XAt w4 w' gX n vF fl aX cX m H :=
  ⟨h.x.kept hb, own_older h.f hb, own_older h.h hb, h.nf, h.nx, h.lo, below_next hb h.b, h.len⟩
theorem XAt.row (h : XAt w4 wc gX n vF fl aX cX m H) : SRow wc vF (.slice aX m cX) ⟨n, fl, H⟩ := by
  refine ⟨grow_of_own (base := w4.heap.size) ?_, hrow_of_own (base := w4.heap.size) ?_⟩
  · show wc.ownsRow _ _ 1 vF (nsI fl).length _
    rw [nsI_len]; exact h.f
  · show wc.ownsRow _ _ 4 _ H.length _
    rw [h.len]; exact h.h
theorem XAt.free (h : XAt w4 wc gX n vF fl aX cX m H) (hc : ScOk ⟨n, fl, H⟩) {s q t len : Nat} (hb : blkOk n s q) (h1 : 1 ≤ len) (he : t + len ≤ 4398046511104) (hf : freeB ⟨n, fl, H⟩ s q t (t + len) = true) :
    Calls Try.prog 12 #[.agg #[.int .i64 (n : Int), vF, .slice aX m cX], .agg #[.int .i64 (s : Nat), .int .i64 (q : Nat)], .int .i64 (t : Nat), .int .i64 (IntKind.i64.wrap ((t : Int) + (len : Int)))] wc fun e w'' => e = .returned (.bool true) ∧ Below wc.heap.size wc w'' := by
  have k := free_ok vF (.slice aX m cX) ⟨n, fl, H⟩ s q t (t + len) wc hc h.row hb (by omega)
  rw [hf] at k
  have ew : IntKind.i64.wrap ((t : Int) + (len : Int)) = ((t + len : Nat) : Int) := by rw [IntKind.wrap_i64]; push_cast; omega
  rw [ew]; exact k
theorem XAt.far (h : XAt w4 wc gX n vF fl aX cX m H) {X w8 : World} (hX : Below wc.heap.size wc X) (hgr : X.grownBy w8 (Value.slice aX m cX).ownBlock) {b o : Nat} {u : Value} (hc : wc.cell? ⟨b, o, none⟩ = some u) (hne : ∀ g, (Value.slice aX m cX).ownBlock = some g → g ≠ b) : w8.cell? ⟨b, o, none⟩ = some u := by
  have hlt := World.block_lt_of_cell? wc _ hc
  have := hX.size
  exact (hgr.cell_far ⟨b, o, none⟩ (Nat.lt_of_lt_of_le hlt this) (fun e => hne b e.symm rfl)).trans (cell_next hX hc)
theorem XAt.old (h : XAt w4 wc gX n vF fl aX cX m H) {b : Nat} (hb : b < w4.heap.size) : ∀ g, (Value.slice aX m cX).ownBlock = some g → g ≠ b := fun g hg e => by
  have := (own_ge h.h hg).1
  omega
theorem XAt.app (h : XAt w4 wc gX n vF fl aX cX m H) {X w8 : World} {g8 cap8 : Nat} {y : HeT} (hX : Below wc.heap.size wc X) (hs : wc.heap.size < X.heap.size)
    (hown : w8.ownsRow w4.heap.size 57 4 (.slice (some ⟨g8, 0, none⟩) (m + 1) cap8) (m + 1) (heF H ++ heI (heZ y))) (hgr : X.grownBy w8 (Value.slice aX m cX).ownBlock) (hat : (Value.slice aX m cX).ownBlock = some g8 ∨ g8 = wc.heap.size + 1) :
    (w8.cell? ⟨gX, 2, none⟩ = some (.slice aX m cX) ∧ w8.frozen? ⟨gX, 2, none⟩ = false) ∧ Hid (XAt w4 (w8.setCell ⟨gX, 2, none⟩ (.slice (some ⟨g8, 0, none⟩) (m + 1) cap8)) gX n vF fl (some ⟨g8, 0, none⟩) cap8 (m + 1) (H ++ [y])) := by
  have hgl := h.x.lt
  have hXX := blk_grown (h.x.kept hX) hgr (Ne.symm h.nx)
  have hg8 : g8 ≠ gX := by
    rcases hat with e | e
    · intro e2; rw [e2] at e; exact h.nx e
    · omega
  have hob : (Value.slice (some ⟨g8, 0, none⟩) (m + 1) cap8).ownBlock ≠ some gX := fun e => hg8 (by simpa [Value.ownBlock] using e)
  have hF8 : w8.ownsRow w4.heap.size 3 1 vF fl.length (numsL (nsI fl)) := (own_older h.f hX).kept hgr (ob_cases (Value.slice aX m cX).ownBlock (p := fun r => vF.ownBlock = none ∨ vF.ownBlock ≠ r) (by cases vF.ownBlock <;> simp) (fun g hg => .inr (fun e => owns_ne2 h.f h.h (by decide) g e hg)))
  refine ⟨⟨by rw [hXX.cell]; rfl, hXX.free 2⟩, hXX.set 2 _, own_set hF8 h.nf 2 _, ?_, h.nf, hob, h.lo, ?_, by rw [List.length_append, h.len]; rfl⟩
  · have e : heF (H ++ [y]) = heF H ++ heI (heZ y) := by rw [heF_app]; unfold heF; simp
    rw [e]
    exact own_set hown hob 2 _
  · have h1 := (below_next hX h.b).size
    exact ((below_next hX h.b).grown hgr h1 (fun j hj => (own_ge h.h hj).1)).setCell (p := ⟨gX, 2, none⟩) h.lo _
end
end Go.Proofs.Ytioeblljabohbaa
