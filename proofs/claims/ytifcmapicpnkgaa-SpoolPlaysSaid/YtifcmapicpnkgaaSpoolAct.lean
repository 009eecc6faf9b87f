/-
  Layer 18: rows of acts that came in.
-/
import Derived.Test.YtifcmapicpnkgaaOpen
import Derived.Test.YtifcmapicpnkgaaProg
import Derived.Lib.Hide
namespace Go.Proofs.Ytifcmapicpnkgaa
open Go Go.ChangeShapes Go.WideShapes Go.ChangeAt Go.RowKit Go.Deep Go.Lib
set_option linter.unusedVariables false

/-- An act: its kind, its bytes, its number. -/
structure ActV where
  kind : Int
  b : List UInt8
  n : Int
def ActIs (W : World) (cs : List Value) (a : ActV) : Prop :=
  ∃ v, cs = [.int .i64 a.kind, v, .int .i64 a.n] ∧ Rd W (· < W.heap.size) v (bts a.b) ∧ (-9223372036854775808 ≤ a.n ∧ a.n ≤ 9223372036854775807) ∧ -9223372036854775808 ≤ a.kind ∧ a.kind ≤ 9223372036854775807
section
variable {H : Type} {enc : TypeId × Value → H} {W : World}
theorem reader_act : Reader enc Try.prog W 34 (ActIs W) := by
  intro n cs x h
  obtain ⟨hl, hg⟩ := struct_cells Try.underlying34 (by kernel_rfl) (by kernel_rfl) h
  obtain ⟨c0, y0, n0, e0, t0⟩ := hg 0 _ rfl
  obtain ⟨c1, y1, n1, e1, t1⟩ := hg 1 _ rfl
  obtain ⟨c2, y2, n2, e2, t2⟩ := hg 2 _ rfl
  obtain ⟨k, rfl, wk⟩ := field_int Try.underlying3 t0
  obtain ⟨m, rfl, wm⟩ := field_int Try.underlying3 t2
  obtain ⟨xs, v, hv, hR⟩ := reader_bytes Try.underlying32 Try.underlying5 (by kernel_rfl) _ _ _ t1
  injection hv with hv _
  subst hv
  refine ⟨⟨k, xs, m⟩, c1, ?_, hR, wf_i64' wm, wf_i64' wk⟩
  match cs, hl, e0, e1, e2 with
  | [a, b, c], _, e0, e1, e2 =>
    simp at e0 e1 e2
    rw [e0, e1, e2]
end
/-- One act of a row that came in, later. -/
theorem acts_at {W W' : World} {A : Option Addr} {n c : Nat} {al : List ActV} (h : RowOf W 3 (ActIs W) (.slice A n c) al) (hB : Below W.heap.size W W') {k : Nat} (hk : k < al.length) :
    ∃ b off v, A = some ⟨b, off, none⟩ ∧ W'.cell? ⟨b, off + k * 3, none⟩ = some (.int .i64 (al[k]'hk).kind) ∧ W'.cell? ⟨b, off + k * 3 + 1, none⟩ = some v ∧ W'.cell? ⟨b, off + k * 3 + 2, none⟩ = some (.int .i64 (al[k]'hk).n) ∧
      Rd W' (· < W.heap.size) v (bts (al[k]'hk).b) ∧ (-9223372036854775808 ≤ (al[k]'hk).n ∧ (al[k]'hk).n ≤ 9223372036854775807) ∧ (-9223372036854775808 ≤ (al[k]'hk).kind ∧ (al[k]'hk).kind ≤ 9223372036854775807) ∧ b < W.heap.size := by
  obtain ⟨A', c', h1, h2, h3, h4⟩ := h
  injection h1 with h1 _ _
  subst h1
  obtain ⟨b, off, rfl, hb, hi⟩ := h4 (by omega)
  obtain ⟨cs, ⟨v, rfl, hR, hn, hkd⟩, hl, hc⟩ := hi k (al[k]'hk) (List.getElem?_eq_getElem hk)
  refine ⟨b, off, v, rfl, ?_, ?_, ?_, hR.kept hB, hn, hkd, hb⟩
  · have := hc 0 (by decide)
    rw [World.cell?_of_block (w := W) (hB.block b hb)]; exact this
  · have := hc 1 (by decide)
    rw [World.cell?_of_block (w := W) (hB.block b hb)]; exact this
  · have := hc 2 (by decide)
    rw [World.cell?_of_block (w := W) (hB.block b hb)]; exact this
/-- long: more bytes than are looked at. -/
def longB (l : List ActV) : Bool := (l.take 200).any fun a => decide (300 < a.b.length)
theorem long_any {w W : World} {A : Option Addr} {c : Nat} {l : List ActV} (h : RowOf w 3 (ActIs w) (.slice A l.length c) l) (hW : Below w.heap.size w W) :
    Calls Try.prog 8 #[.slice A l.length c] W fun e w' => e = .returned (.bool (longB l)) ∧ w' = W := by
  have HL := Lib.hid h
  obtain ⟨A', c', h1, hc1, hc2, _⟩ := h
  injection h1 with h1a _ h1b
  subst h1a h1b
  unfold maxLen at hc2
  have HB := Lib.hid hW
  clear hW
  go_enter Try.func8, Try.ntmps8
  go_wp2_with fail
  go_loop [3] (fun i => ∃ k : Nat, k ≤ l.length ∧ k ≤ 200 ∧ i = .int .i64 k ∧ Hid ((l.take k).any (fun a => decide (300 < a.b.length)) = false)) (fun i => 200 - (intOf i).toNat)
  case atStart => exact ⟨0, Nat.zero_le _, Nat.zero_le _, rfl, rfl⟩
  case round =>
    obtain ⟨k, hk1, hk2, rfl, hno⟩ := hrel
    by_cases hlt : k < l.length ∧ k < 200
    · obtain ⟨hlt1, hlt2⟩ := hlt
      have t1 : decide (k < l.length) = true := decide_eq_true hlt1
      have t1' : (k : Int) < l.length := by omega
      have t2 : decide ((k : Int) < 200) = true := decide_eq_true (by omega)
      obtain ⟨b, off, v, rfl, c0, c1, c2, hR, _⟩ := acts_at HL.out HB.out hlt1
      have hsn : Hid ((l.take (k + 1)).any (fun a => decide (300 < a.b.length)) = decide (300 < (l[k]).b.length)) := by
        have := hno.out
        rw [List.take_succ_eq_append_getElem hlt1, List.any_append, this]; simp [Hid]
      generalize l[k] = y at *
      obtain ⟨Ay, cy, rfl, hy⟩ := rd_len hR
      clear c0 c2 hR
      by_cases hy3 : 300 < y.b.length
      · have t3 : decide ((y.b.length : Int) > 300) = true := decide_eq_true (by omega)
        have fin : Hid (longB l = true) := by
          have h1 := hsn.out
          rw [decide_eq_true hy3] at h1
          unfold longB Hid
          rw [List.any_eq_true] at h1 ⊢
          obtain ⟨a, ha, hp⟩ := h1
          refine ⟨a, ?_, hp⟩
          exact (List.take_prefix_take_left (by omega : k + 1 ≤ 200)).subset ha
        go_wp2_with fail
        go_returns
        exact ⟨by rw [fin.out]; rfl, rfl⟩
      · have t3 : decide ((y.b.length : Int) > 300) = false := decide_eq_false (by omega)
        have hsn2 : Hid ((l.take (k + 1)).any (fun a => decide (300 < a.b.length)) = false) := by rw [hsn.out]; exact decide_eq_false hy3
        clear hsn
        go_wp2_with fail
        go_round
        case rel => exact ⟨k + 1, hlt1, hlt2, by go_num, hsn2⟩
        case measure => simp [intOf]; omega
    · have hexit : k < l.length → ¬ k < 200 := fun h1 h2 => hlt ⟨h1, h2⟩
      have fin : Hid (longB l = false) := by
        unfold longB Hid
        by_cases h1 : k < l.length
        · obtain rfl : k = 200 := by have := hexit h1; omega
          exact hno.out
        · have e : l.take 200 = l.take k := by rw [List.take_of_length_le (by omega), List.take_of_length_le (by omega)]
          rw [e]; exact hno.out
      by_cases h1 : k < l.length
      all_goals
        first
          | (have h2 : ¬ k < 200 := hexit h1
             have t1 : decide (k < l.length) = true := decide_eq_true h1
             have t1' : (k : Int) < l.length := by omega
             have t2 : decide ((k : Int) < 200) = false := decide_eq_false (by omega))
          | (have t1 : decide (k < l.length) = false := decide_eq_false h1)
        clear hexit hlt
        go_wp2_with fail
        go_returns
        exact ⟨by rw [fin.out]; rfl, rfl⟩
end Go.Proofs.Ytifcmapicpnkgaa
