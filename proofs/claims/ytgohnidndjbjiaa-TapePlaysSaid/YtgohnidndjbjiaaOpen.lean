/-
  Arguments opened, whatever their shape: a reader for each element type, and rows of what has a reader.
-/
import Derived.Test.YtgohnidndjbjiaaArgs2
import Derived.Test.YtgohnidndjbjiaaFr
import Derived.Test.YtgohnidndjbjiaaBts
import Derived.Deep.Slices
namespace Go.Proofs.Ytgohnidndjbjiaa
open Go Go.ChangeShapes Go.WideShapes Go.ChangeAt Go.RowKit Go.Deep
set_option linter.unusedVariables false

section
variable {H : Type} {enc : TypeId × Value → H} {P : Program} {W : World} {α : Type}
/-- Whatever reads at type t has cells that R knows. -/
def Reader (enc : TypeId × Value → H) (P : Program) (W : World) (t : TypeId) (R : List Value → α → Prop) : Prop :=
  ∀ (n : Nat) (cs : List Value) (x : DataW H × List MemPlace), DataW.trod enc P W 0 (fun _ => true) true n t cs = some x → ∃ a, R cs a
/-- v is a row of as, each of size cells that R knows. -/
def RowOf (W : World) (size : Nat) (R : List Value → α → Prop) (v : Value) (al : List α) : Prop :=
  ∃ A c, v = .slice A al.length c ∧ al.length ≤ c ∧ c ≤ maxLen ∧ (0 < al.length → ∃ b off, A = some ⟨b, off, none⟩ ∧ b < W.heap.size ∧
    ∀ (i : Nat) (a : α), al[i]? = some a → ∃ cs, R cs a ∧ cs.length = size ∧ ∀ j, j < size → W.cell? ⟨b, off + i * size + j, none⟩ = cs[j]?)
theorem list_of {p : Nat → α → Prop} : ∀ (n : Nat), (∀ i, i < n → ∃ a, p i a) → ∃ al : List α, al.length = n ∧ ∀ i a, al[i]? = some a → p i a
  | 0, _ => ⟨[], rfl, fun i a h => by simp at h⟩
  | n + 1, h => by
    obtain ⟨al, hl, ha⟩ := list_of (p := p) n fun i hi => h i (by omega)
    obtain ⟨a, hp⟩ := h n (by omega)
    refine ⟨al ++ [a], by simp [hl], fun i x hx => ?_⟩
    rcases Nat.lt_or_ge i n with hi | hi
    · rw [List.getElem?_append_left (by omega)] at hx; exact ha i x hx
    · rw [List.getElem?_append_right (by omega)] at hx
      have : i - al.length = 0 := by
        rcases Nat.eq_zero_or_pos (i - al.length) with h0 | h0
        · exact h0
        · rw [List.getElem?_eq_none (by simp; omega)] at hx; cases hx
      rw [this] at hx
      obtain rfl : a = x := by simpa using hx
      obtain rfl : i = n := by omega
      exact hp
theorem reader_slice {t e : TypeId} {size : Nat} {R : List Value → α → Prop} (ht : P.underlying t = some (.slice e)) (hc : P.cellsOf e = size) (h1 : 0 < size) (hR : Reader enc P W e R) :
    Reader enc P W t (fun cs (al : List α) => ∃ v, cs = [v] ∧ RowOf W size R v al) := by
  intro n cs x h
  rcases open_slice ht h with ⟨rfl, _⟩ | ⟨a, len, cap, m, q, D, Pl, rfl, _, hl, hm, hmm, _, hi⟩
  · exact ⟨[], _, rfl, none, 0, rfl, Nat.le_refl _, Nat.zero_le _, fun h => absurd h (by simp)⟩
  · simp only [if_true] at hmm
    rw [hc] at hi
    obtain ⟨al, hlen, has⟩ := list_of (α := α) (p := fun i a' => ∃ cs, R cs a' ∧ cs.length = size ∧ ∀ j, j < size → W.cell? (a.add (i * size + j)) = cs[j]?) len fun i hil => by
      obtain ⟨cs', hcs, htr⟩ := hi i (by omega)
      obtain ⟨a', ha'⟩ := hR _ _ _ htr
      obtain ⟨_, hlc, hat⟩ := World.cells?_some hcs
      exact ⟨a', cs', ha', hlc, fun j hj => by rw [← hat j hj, add_add]⟩
    refine ⟨al, _, rfl, some a, cap, by rw [hlen], by omega, hm, fun h0 => ?_⟩
    rw [hlen] at h0
    obtain ⟨a0, ha0⟩ : ∃ a0, al[0]? = some a0 := ⟨al[0]'(by omega), List.getElem?_eq_getElem (by omega)⟩
    obtain ⟨cs0, _, hl0, hc0⟩ := has 0 a0 ha0
    have h00 := hc0 0 h1
    rw [List.getElem?_eq_getElem (by omega)] at h00
    obtain ⟨b, off, spot⟩ := a
    have hspot : spot = none := by
      have := World.cell?_spot h00
      simpa [Addr.add] using this
    subst hspot
    refine ⟨b, off, rfl, ?_, fun i a' ha' => ?_⟩
    · have := World.block_lt_of_cell? W _ h00
      simpa [Addr.add] using this
    · obtain ⟨cs', h2, h3, h4⟩ := has i a' ha'
      exact ⟨cs', h2, h3, fun j hj => by have := h4 j hj; rw [Addr.add_lit, ← Nat.add_assoc] at this; exact this⟩
theorem reader_byte {t : TypeId} (ht : P.underlying t = some (.int .u8)) : Reader enc P W t (fun cs (b : UInt8) => cs = [.int .u8 (b.toNat : Int)]) := by
  intro n cs x h
  obtain ⟨m, hc, _, hw⟩ := DataW.trod_int ht h
  have hm : 0 ≤ m ∧ m ≤ 255 := by simpa [Lit.wf, IntKind.min, IntKind.max, IntKind.bits, IntKind.signed] using hw
  refine ⟨UInt8.ofNat m.toNat, ?_⟩
  rw [hc]
  show _ = _
  have : ((UInt8.ofNat m.toNat).toNat : Int) = m := by rw [UInt8.toNat_ofNat']; omega
  rw [this]
theorem reader_bool {t : TypeId} (ht : P.underlying t = some .bool) : Reader enc P W t (fun cs (b : Bool) => cs = [.bool b]) := by
  intro n cs x h
  obtain ⟨b, hc, _⟩ := DataW.trod_bool ht h
  exact ⟨b, hc⟩
theorem reader_int {t : TypeId} {k : IntKind} (ht : P.underlying t = some (.int k)) : Reader enc P W t (fun cs (m : Int) => cs = [.int k m] ∧ (Lit.int k m).wf = true) := by
  intro n cs x h
  obtain ⟨m, hc, _, hw⟩ := DataW.trod_int ht h
  exact ⟨m, hc, hw⟩
theorem rd_len {w : World} {K : Nat → Prop} {v : Value} {ys : List UInt8} (h : Rd w K v (bts ys)) : ∃ B d, v = .slice B ys.length d ∧ ys.length ≤ maxLen := by
  obtain ⟨A, c, h1, h2, h3, _⟩ := h
  rw [bts_len] at h1 h2
  exact ⟨A, c, h1, by omega⟩
/-- One element of a row that came in, later. -/
theorem RowOf.at1 {W W' : World} {R : List Value → α → Prop} {A : Option Addr} {n c : Nat} {al : List α} (h : RowOf W 1 R (.slice A n c) al) (hB : Below W.heap.size W W') {k : Nat} (hk : k < al.length) :
    ∃ b off u, A = some ⟨b, off, none⟩ ∧ R [u] (al[k]'hk) ∧ W'.cell? ⟨b, off + k, none⟩ = some u ∧ b < W.heap.size := by
  obtain ⟨A', c', h1, h2, h3, h4⟩ := h
  injection h1 with h1 _ _
  subst h1
  obtain ⟨b, off, rfl, hb, hi⟩ := h4 (by omega)
  obtain ⟨cs, hR, hl, hc⟩ := hi k (al[k]'hk) (List.getElem?_eq_getElem hk)
  match cs, hl with
  | [u], _ =>
    have := hc 0 (by decide)
    rw [Nat.mul_one, Nat.add_zero] at this
    exact ⟨b, off, u, rfl, hR, by rw [World.cell?_of_block (w := W) (hB.block b hb)]; exact this, hb⟩
theorem RowOf.bytes {v : Value} {xs : List UInt8} (h : RowOf W 1 (fun cs (b : UInt8) => cs = [.int .u8 (b.toNat : Int)]) v xs) : Rd W (· < W.heap.size) v (bts xs) := by
  obtain ⟨A, c, rfl, h1, h2, h3⟩ := h
  refine ⟨A, c, by rw [bts_len], by rw [bts_len]; exact h1, h2, fun h0 => ?_⟩
  rw [bts_len] at h0
  obtain ⟨b, off, rfl, hb, hi⟩ := h3 h0
  refine ⟨b, off, rfl, hb, hb, fun j u hj => ?_⟩
  have hjl : j < xs.length := by have := (List.getElem?_eq_some_iff.1 hj).1; simpa using this
  obtain ⟨cs, rfl, _, hc⟩ := hi j xs[j] (List.getElem?_eq_getElem hjl)
  have := hc 0 (by decide)
  rw [Nat.mul_one, Nat.add_zero] at this
  rw [bts_get xs j hjl] at hj
  rw [this, ← hj]; rfl
/-- Bytes that came in. -/
theorem reader_bytes {t e : TypeId} (ht : P.underlying t = some (.slice e)) (he : P.underlying e = some (.int .u8)) (hc : P.cellsOf e = 1) :
    Reader enc P W t (fun cs (xs : List UInt8) => ∃ v, cs = [v] ∧ Rd W (· < W.heap.size) v (bts xs)) := by
  intro n cs x h
  obtain ⟨xs, v, h1, h2⟩ := reader_slice ht hc (by decide) (reader_byte he) n cs x h
  exact ⟨xs, v, h1, h2.bytes⟩
/-- A struct of one-cell fields, in memory: its cells, and how each reads. -/
theorem struct_cells {t : TypeId} {fs : Array Field} {n : Nat} {cs : List Value} {x : DataW H × List MemPlace} (hs : P.underlying t = some (.struct fs)) (hone : oneCellFields P fs = true) (hC : P.cellsOf t = fs.size)
    (h : DataW.trod enc P W 0 (fun _ => true) true n t cs = some x) :
    cs.length = fs.size ∧ ∀ (j : Nat) (f : Field), fs[j]? = some f → ∃ (c : Value) (y : DataW H × List MemPlace) (m : Nat), cs[j]? = some c ∧ DataW.trod enc P W 0 (fun _ => true) true m f.type [c] = some y := by
  obtain ⟨xs, m, _, _, hl, hlen, hg⟩ := DataW.trod_struct hs h
  rw [hC] at hl
  refine ⟨hl, fun j f hj => ?_⟩
  have hlt : j < fs.size := (Array.getElem?_eq_some_iff.1 hj).1
  obtain ⟨ho, hk⟩ := hone_of hone j f hj
  have := hg j f hj
  rw [ho, hk] at this
  have e : (cs.drop j).take 1 = [cs[j]'(by omega)] := by
    rw [List.drop_eq_getElem_cons (by omega), List.take_succ_cons, List.take_zero]
  rw [e, List.getElem?_eq_getElem (by omega)] at this
  exact ⟨cs[j]'(by omega), _, m, List.getElem?_eq_getElem (by omega), this⟩
/-- One argument of one cell, opened by its reader. -/
theorem open_reader {t : TypeId} {v : Value} {d : DataW H} {p : List MemPlace} {R : Value → α → Prop} (hR : Reader enc P W t (fun cs a => ∃ v, cs = [v] ∧ R v a)) (h : DataW.Trod enc P W 0 (fun _ => true) true t v d p) (hv : ∃ a len cap, v = .slice a len cap) :
    ∃ a, R v a := by
  obtain ⟨n, hf⟩ := h
  obtain ⟨a0, len0, cap0, rfl⟩ := hv
  obtain ⟨a, v', h1, h2⟩ := hR _ _ _ hf
  have : Value.slice a0 len0 cap0 = v' := by simpa [Value.cells] using h1
  subst this
  exact ⟨a, h2⟩
end
end Go.Proofs.Ytgohnidndjbjiaa
