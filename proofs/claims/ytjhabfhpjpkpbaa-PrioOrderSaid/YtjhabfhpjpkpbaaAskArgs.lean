/-
  Rows of jobs: as arguments, opened; copied into memory of the call's own; compared.
-/
import Derived.Test.YtjhabfhpjpkpbaaAskRef2
import Derived.Test.YtjhabfhpjpkpbaaArgs2
import Derived.Deep.Slices
import Derived.Laws.StructEq
import Derived.Shelf.SlicesE.Kit
namespace Go.Proofs.Ytjhabfhpjpkpbaa
open Go.ChangeShapes Go.WideShapes Go.ChangeAt Go.RowKit Go.Lib Go.Sort Go.Maps Go.Deep
set_option linter.unusedVariables false

theorem Try.infoAsk : (Try.prog.info? 29).map (fun i => (i.zero, i.size, i.bytes)) = some (some (.agg #[.int .u32 0, .int .i64 0, .int .i64 0, .int .i64 0, .int .i64 0, .int .i64 0, .int .i64 0]), 7, 56) := by kernel_rfl

def flatA (l : List AskS) : List Value := l.flatMap encA
theorem flatA_len (l : List AskS) : (flatA l).length = l.length * 7 := by
  induction l with
  | nil => rfl
  | cons x l ih => show (encA x ++ flatA l).length = _; rw [List.length_append, ih]; simp [encA]; omega
theorem flatA_get (l : List AskS) : ∀ j i, j < l.length → i < 7 → (flatA l)[j * 7 + i]? = (encA (aAt l j))[i]? := by
  induction l with
  | nil => intro j i h; simp at h
  | cons x l ih =>
    intro j i hj hi
    show (encA x ++ flatA l)[j * 7 + i]? = _
    rw [List.getElem?_append]
    cases j with
    | zero => rw [if_pos (by simp [encA]; omega)]; simp [aAt]
    | succ j =>
      rw [if_neg (by simp [encA]; omega)]
      have e : (j + 1) * 7 + i - (encA x).length = j * 7 + i := by simp [encA]; omega
      rw [e, ih j i (by simpa using hj) hi]
      rfl
theorem encA_one (x : AskS) : ∀ u ∈ encA x, u.oneCell' = true := by
  intro u hx
  simp [encA] at hx
  rcases hx with rfl | rfl | rfl | rfl | rfl | rfl | rfl <;> rfl
theorem flatA_one (l : List AskS) : ∀ u ∈ flatA l, u.oneCell' = true := by
  intro u hu
  obtain ⟨x, _, hx⟩ := List.mem_flatMap.1 hu
  exact encA_one x u hx
theorem flatA_append (l m : List AskS) : flatA (l ++ m) = flatA l ++ flatA m := by simp [flatA]
theorem acells_of {w : World} {b off : Nat} {l : List AskS} (hb : b < w.heap.size) (h : ∀ t, t < l.length * 7 → w.cell? ⟨b, off + t, none⟩ = (flatA l)[t]?) : ACells w b off l := by
  refine ⟨hb, fun j hj => ?_⟩
  have hc : ∀ i, i < 7 → w.cell? ⟨b, off + j * 7 + i, none⟩ = (encA (aAt l j))[i]? := fun i hi => by
    rw [← flatA_get l j i hj hi, ← h (j * 7 + i) (by omega), Nat.add_assoc]
  exact ⟨hc 0 (by omega), hc 1 (by omega), hc 2 (by omega), hc 3 (by omega), hc 4 (by omega), hc 5 (by omega), hc 6 (by omega)⟩
theorem arow_of_owns {w : World} {base n : Nat} {v : Value} {l : List AskS} (hn : n = l.length) (h : w.ownsRow base 29 7 v n (flatA l)) : ARow w v l := by
  subst hn
  obtain ⟨hl, ⟨rfl, hn⟩ | ⟨g, cap, cur, rfl, hg, hcur, hcap, hmax, hsz, htk⟩⟩ := h
  · exact .inl ⟨List.eq_nil_of_length_eq_zero hn, none, 0, rfl, Nat.zero_le _⟩
  · rcases Nat.eq_zero_or_pos l.length with h0 | h0
    · rw [h0]; exact .inl ⟨List.eq_nil_of_length_eq_zero h0, some ⟨g, 0, none⟩, cap, rfl, hmax⟩
    · refine .inr ⟨g, 0, cap, rfl, h0, hcap, hmax, acells_of (lt_of_block hcur) fun t ht => ?_⟩
      rw [← htk, List.getElem?_take_of_lt ht]
      simp [World.cell?, hcur]
theorem news_of_arow {w : World} {b off : Nat} {l : List AskS} (h : ACells w b off l) : ∀ j u, (flatA l)[j]? = some u → w.cell? ((⟨b, off, none⟩ : Addr).add j) = some u := by
  intro t u hu
  have ht : t < l.length * 7 := by rw [← flatA_len]; exact (List.getElem?_eq_some_iff.1 hu).1
  have hj : t / 7 < l.length := by omega
  have h1 := flatA_get l (t / 7) (t % 7) hj (by omega)
  rw [show t / 7 * 7 + t % 7 = t by omega, hu] at h1
  rw [Addr.add_lit]
  obtain ⟨c0, c1, c2, c3, c4, c5, c6⟩ := h.2 (t / 7) hj
  have e : off + t = off + t / 7 * 7 + t % 7 := by omega
  have hm : t % 7 < 7 := by omega
  rw [e, h1]
  match t % 7, hm with
  | 0, _ => exact c0
  | 1, _ => exact c1
  | 2, _ => exact c2
  | 3, _ => exact c3
  | 4, _ => exact c4
  | 5, _ => exact c5
  | 6, _ => exact c6
theorem src_asks {w : World} {v : Value} {l : List AskS} (h : ARow w v l) : Src w 7 v l.length (flatA l) := by
  refine ⟨flatA_len l, ?_⟩
  rcases h with ⟨rfl, a, c, rfl, _⟩ | ⟨b, off, c, rfl, h0, h1, h2, hc⟩
  · cases a with
    | none => exact .inl ⟨c, rfl, rfl⟩
    | some a => exact .inr ⟨a, c, rfl, fun j u hj => by simp [flatA] at hj⟩
  · exact .inr ⟨_, c, rfl, news_of_arow hc⟩

set_option maxRecDepth 100000 in
theorem ask_neq (i0 i1 i2 i3 i4 i5 i6 : Int) (w : World) : Sem.run Try.prog (binOp .neq 29 (.agg #[.int .u32 i0, .int .i64 i1, .int .i64 i2, .int .i64 i3, .int .i64 i4, .int .i64 i5, .int .i64 i6]) (.agg #[.int .u32 i0, .int .i64 i1, .int .i64 i2, .int .i64 i3, .int .i64 i4, .int .i64 i5, .int .i64 i6])) w = .ok (.bool false) w := by
  have u3 := Try.underlying3
  have a3 := Try.isAgg3
  have z3 := Try.sizeOf3
  have u22 := Try.underlying27
  have a22 := Try.isAgg27
  have z22 := Try.sizeOf27
  have hS : Try.prog.underlying 29 = some (.struct (Try.prog.fieldsOf 29)) := by kernel_rfl
  have hp : Try.prog.stoodInHeld 29 = false := by kernel_rfl
  rw [run_neq_struct, show (10000 : Nat) = 9999 + 1 from rfl, run_equalIn_agg w 9999 29 _ _ hS hp]
  simp only [Program.fieldsOf, Try.underlying29]
  go_simp
theorem ask_grd (op : BinOp) (x y : Operand) (a b : Array Value) (w : World) : Sem.run Try.prog (eqGuard op 29 x y (.agg a) (.agg b)) w = .ok () w := run_eqGuard_agg w op _ _ _ _ _ (by kernel_rfl)

section
variable {H : Type} {enc : TypeId × Value → H} {W : World}
set_option maxRecDepth 100000 in
theorem ask_of_cells {n : Nat} {cs : List Value} {x : DataW H × List MemPlace} (h : DataW.trod enc Try.prog W 0 (fun _ => true) true n 29 cs = some x) : ∃ k : AskS, cs = encA k ∧ AskOk k := by
  have hs := Try.underlying29
  obtain ⟨xs, m, _, _, hl, hlen, hg⟩ := DataW.trod_struct hs h
  have hC : Try.prog.cellsOf 29 = 7 := by kernel_rfl
  rw [hC] at hl
  have hint : Try.prog.cellsOf 3 = 1 := by kernel_rfl
  have hu32 : Try.prog.cellsOf 27 = 1 := by kernel_rfl
  match cs, hl with
  | [c0, c1, c2, c3, c4, c5, c6], _ =>
    have g0 : DataW.trod enc Try.prog W 0 (fun _ => true) true m 27 (List.take (Try.prog.cellsOf 27) [c0, c1, c2, c3, c4, c5, c6]) = xs[0]? := hg 0 _ rfl
    have hx0 : xs[0]? = some (xs[0]'(by rw [hlen]; decide)) := List.getElem?_eq_getElem _
    rw [hx0, hu32] at g0
    dsimp only [List.take] at g0
    obtain ⟨i0, rfl, v0⟩ := field_int Try.underlying27 g0
    have g1 : DataW.trod enc Try.prog W 0 (fun _ => true) true m 3 (List.take (Try.prog.cellsOf 3) [c1, c2, c3, c4, c5, c6]) = xs[1]? := hg 1 _ rfl
    have hx1 : xs[1]? = some (xs[1]'(by rw [hlen]; decide)) := List.getElem?_eq_getElem _
    rw [hx1, hint] at g1
    dsimp only [List.take] at g1
    obtain ⟨i1, rfl, v1⟩ := field_int Try.underlying3 g1
    have g2 : DataW.trod enc Try.prog W 0 (fun _ => true) true m 3 (List.take (Try.prog.cellsOf 3) [c2, c3, c4, c5, c6]) = xs[2]? := hg 2 _ rfl
    have hx2 : xs[2]? = some (xs[2]'(by rw [hlen]; decide)) := List.getElem?_eq_getElem _
    rw [hx2, hint] at g2
    dsimp only [List.take] at g2
    obtain ⟨i2, rfl, v2⟩ := field_int Try.underlying3 g2
    have g3 : DataW.trod enc Try.prog W 0 (fun _ => true) true m 3 (List.take (Try.prog.cellsOf 3) [c3, c4, c5, c6]) = xs[3]? := hg 3 _ rfl
    have hx3 : xs[3]? = some (xs[3]'(by rw [hlen]; decide)) := List.getElem?_eq_getElem _
    rw [hx3, hint] at g3
    dsimp only [List.take] at g3
    obtain ⟨i3, rfl, v3⟩ := field_int Try.underlying3 g3
    have g4 : DataW.trod enc Try.prog W 0 (fun _ => true) true m 3 (List.take (Try.prog.cellsOf 3) [c4, c5, c6]) = xs[4]? := hg 4 _ rfl
    have hx4 : xs[4]? = some (xs[4]'(by rw [hlen]; decide)) := List.getElem?_eq_getElem _
    rw [hx4, hint] at g4
    dsimp only [List.take] at g4
    obtain ⟨i4, rfl, v4⟩ := field_int Try.underlying3 g4
    have g5 : DataW.trod enc Try.prog W 0 (fun _ => true) true m 3 (List.take (Try.prog.cellsOf 3) [c5, c6]) = xs[5]? := hg 5 _ rfl
    have hx5 : xs[5]? = some (xs[5]'(by rw [hlen]; decide)) := List.getElem?_eq_getElem _
    rw [hx5, hint] at g5
    dsimp only [List.take] at g5
    obtain ⟨i5, rfl, v5⟩ := field_int Try.underlying3 g5
    have g6 : DataW.trod enc Try.prog W 0 (fun _ => true) true m 3 (List.take (Try.prog.cellsOf 3) [c6]) = xs[6]? := hg 6 _ rfl
    have hx6 : xs[6]? = some (xs[6]'(by rw [hlen]; decide)) := List.getElem?_eq_getElem _
    rw [hx6, hint] at g6
    dsimp only [List.take] at g6
    obtain ⟨i6, rfl, v6⟩ := field_int Try.underlying3 g6
    exact ⟨⟨i0, i1, i2, i3, i4, i5, i6⟩, rfl, v0, wf_i64' v1, wf_i64' v2, wf_i64' v3, wf_i64' v4, wf_i64' v5, wf_i64' v6⟩
/-- v is a row of jobs that came in. -/
def AArg (w : World) (v : Value) (l : List AskS) : Prop := ARow w v l ∧ (∃ a c, v = .slice a l.length c) ∧ l.length ≤ maxLen ∧ ∀ x ∈ l, AskOk x
theorem open_asks_arg {v : Value} {d : DataW H} {p : List MemPlace} (h : DataW.Trod enc Try.prog W 0 (fun _ => true) true 36 v d p) (hv : ∃ a len cap, v = .slice a len cap) : ∃ l, AArg W v l := by
  obtain ⟨n, hf⟩ := h
  obtain ⟨a0, len0, cap0, rfl⟩ := hv
  have hC : Try.prog.cellsOf 29 = 7 := by kernel_rfl
  rcases open_slice Try.underlying36 hf with ⟨hcs, _⟩ | ⟨a, len, cap, m, q, D, Pl, hcs, _, hl, hm, hmm, _, hi⟩
  · have e1 : Value.slice a0 len0 cap0 = .slice none 0 0 := by simpa [Value.cells] using hcs
    rw [e1]
    exact ⟨[], .inl ⟨rfl, none, 0, rfl, Nat.zero_le _⟩, ⟨none, 0, rfl⟩, Nat.zero_le _, fun x hx => nomatch hx⟩
  · have e1 : Value.slice a0 len0 cap0 = .slice (some a) len cap := by simpa [Value.cells] using hcs
    rw [e1]
    simp only [if_true] at hmm
    rw [hC] at hi
    by_cases h0 : len = 0
    · subst h0
      exact ⟨[], .inl ⟨rfl, some a, cap, rfl, hm⟩, ⟨some a, cap, rfl⟩, Nat.zero_le _, fun x hx => nomatch hx⟩
    · have hk : ∀ i, i < len → ∃ k : AskS, AskOk k ∧ ∀ j, j < 7 → W.cell? (a.add (i * 7 + j)) = (encA k)[j]? := by
        intro i hil
        obtain ⟨cs', hc, ht⟩ := hi i (by omega)
        obtain ⟨k, rfl, hok⟩ := ask_of_cells ht
        obtain ⟨_, _, hat⟩ := World.cells?_some hc
        refine ⟨k, hok, fun j hj => ?_⟩
        rw [← hat j hj, add_add]
      obtain ⟨b, off, spot⟩ := a
      have hspot : spot = none := by
        obtain ⟨k, _, hh⟩ := hk 0 (by omega)
        have := hh 0 (by omega)
        simpa [Addr.add] using World.cell?_spot (this.trans (show (encA k)[0]? = some (.int .u32 k.id) from rfl))
      subst hspot
      have hbl : b < W.heap.size := by
        obtain ⟨k, _, hh⟩ := hk 0 (by omega)
        have := World.block_lt_of_cell? W _ ((hh 0 (by omega)).trans (show (encA k)[0]? = some (.int .u32 k.id) from rfl))
        simpa [Addr.add] using this
      let f : Nat → AskS := fun i => if h : i < len then (hk i h).choose else default
      have hf : ∀ i (h : i < len), f i = (hk i h).choose := fun i h => by simp [f, h]
      let xs := (List.range len).map f
      have hlen : xs.length = len := by simp [xs]
      have hat : ∀ i, i < len → aAt xs i = f i := fun i h => by simp [xs, aAt, List.getD, h]
      refine ⟨xs, .inr ⟨b, off, cap, by rw [hlen], by omega, by omega, hm, acells_of hbl fun t ht => ?_⟩, ⟨_, cap, by rw [hlen]⟩, by omega, fun x hx => ?_⟩
      · rw [hlen] at ht
        have hj : t / 7 < len := by omega
        have hh := (hk _ hj).choose_spec.2 (t % 7) (by omega)
        have hg := flatA_get xs (t / 7) (t % 7) (by omega) (by omega)
        rw [show t / 7 * 7 + t % 7 = t by omega] at hh hg
        rw [Addr.add_lit] at hh
        rw [hh, hg, hat _ hj, hf _ hj]
      · obtain ⟨i, hi', rfl⟩ := List.mem_map.1 hx
        have hi' : i < len := by simpa using hi'
        rw [hf i hi']; exact (hk i hi').choose_spec.1
end
end Go.Proofs.Ytjhabfhpjpkpbaa
