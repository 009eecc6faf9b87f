/-
  Where a job's cell is: find$1, slices.IndexFunc at cells.
-/
import Derived.Test.YtfobapnncjjeiaaGaM
import Derived.Lib.SliceRun
namespace Go.Proofs.Ytfobapnncjjeiaa
open Go Go.RowKit Go.Lib
set_option linter.unusedVariables false

def optF : Option Nat → Int
  | some k => (k : Int)
  | none => -1
theorem IsFind.det {l : List Ce} {id : Nat} {r r' : Option Nat} (h : IsFind l id r) (k : IsFind l id r') : r = r' := by
  rcases h with ⟨rfl, h⟩ | ⟨i, hi, rfl, h1, h2⟩ <;> rcases k with ⟨rfl, k⟩ | ⟨j, hj, rfl, k1, k2⟩
  · rfl
  · exact absurd k1 (h _ (List.getElem_mem hj))
  · exact absurd h1 (k _ (List.getElem_mem hi))
  · rcases Nat.lt_trichotomy i j with e | e | e
    · exact absurd h1 (k2 i hi e)
    · rw [e]
    · exact absurd k1 (h2 j hj e)
theorem closF_any (pB id : Nat) (c : Ce) (w : World) (h : w.cell? ⟨pB, 0, none⟩ = some (.int .u32 (id : Nat))) :
    Calls Try.prog 55 #[.agg #[.int .u32 (c.1 : Nat), .int .i64 (c.2.1 : Nat), .int .i64 (c.2.2.1 : Nat), .int .i64 (c.2.2.2 : Nat)], .pointer (some ⟨pB, 0, none⟩)] w fun e w' => e = .returned (.bool ((c.1 : Int) == (id : Int))) ∧ Below w.heap.size w w' := by
  have hlt := World.block_lt_of_cell? w _ h
  have h2 : ∀ cs, (w.alloc cs).cell? ⟨pB, 0, none⟩ = some (.int .u32 (id : Nat)) := fun cs => Lib.cell?_alloc_some _ h
  generalize hq : ((c.1 : Int) == (id : Int)) = q
  obtain ⟨x, y, z, u⟩ := c
  dsimp only at hq ⊢
  go_enter Try.func55, Try.ntmps55
  go_wp2_with fail
  go_ret
  exact ⟨rfl, (Below.refl _ _).alloc (Nat.le_refl _) _⟩
set_option maxHeartbeats 1000000 in
theorem idxF_row (b off c pB id : Nat) (l : List Ce) (w : World) (hn : l.length ≤ 1048576) (hc : CRow w (.slice (some ⟨b, off, none⟩) l.length c) l) (hp : w.cell? ⟨pB, 0, none⟩ = some (.int .u32 (id : Nat))) :
    Calls Try.prog 54 #[.slice (some ⟨b, off, none⟩) l.length c, .func (.func 55) #[] #[.pointer (some ⟨pB, 0, none⟩)]] w
      fun e w' => (∃ r, e = .returned (.int .i64 (optF r)) ∧ IsFind l id r) ∧ Below w.heap.size w w' := by
  have HC := Lib.hid hc
  have HP := Lib.hid hp
  clear hc hp
  go_enter Try.func54, Try.ntmps54
  go_wp2_with fail
  go_loopw [8] (fun i wr => ∃ k : Nat, k ≤ l.length ∧ i = .int .i64 k ∧ Hid (∀ q (hq : q < l.length), q < k → l[q].1 ≠ id) ∧ Below w.heap.size w wr) (fun i _ => l.length - (intOf i).toNat)
  case atStart => exact ⟨0, Nat.zero_le _, rfl, fun q _ h => by omega, Below.refl _ _⟩
  case round =>
    obtain ⟨k, hk, rfl, hq0, hB⟩ := hrel
    by_cases hlt : k < l.length
    · have hlt' : decide (k < l.length) = true := decide_eq_true hlt
      obtain ⟨c0, c1, c2, c3⟩ := HC.out.cells hlt hB
      have HK := Lib.hid (closF_any pB id l[k] wr (cell_next hB HP.out))
      obtain ⟨x, hx⟩ : ∃ x, x = l[k] := ⟨_, rfl⟩
      have HX := Lib.hid hx
      rw [← hx] at c0 c1 c2 c3 HK
      clear hx
      cases hf : ((x.1 : Int) == (id : Int))
      · rw [hf] at HK
        have hne : Hid (x.1 ≠ id) := by unfold Hid; intro e; rw [e] at hf; simp at hf
        go_wp2_with fail
        refine HK.out.mono ?_; rintro e w2 ⟨rfl, b2⟩
        go_wp2_with fail
        go_roundw
        case rel =>
          refine ⟨k + 1, hlt, by go_num, fun q hq h => ?_, below_next b2 hB⟩
          rcases Nat.lt_or_ge q k with h1 | h1
          · exact hq0.out q hq h1
          · obtain rfl : q = k := by omega
            rw [← HX.out]; exact hne.out
        case measure => simp [intOf]; omega
      · rw [hf] at HK
        have E : Hid (IsFind l id (some k)) := .inr ⟨k, hlt, rfl, by rw [← HX.out]; simp at hf; omega, fun j hj h => hq0.out j hj h⟩
        go_wp2_with fail
        refine HK.out.mono ?_; rintro e w2 ⟨rfl, b2⟩
        go_wp2_with fail
        go_ret
        exact ⟨⟨some k, rfl, E.out⟩, below_next b2 hB⟩
    · obtain rfl : k = l.length := by omega
      have hlt' : decide (l.length < l.length) = false := decide_eq_false (by omega)
      have E : Hid (IsFind l id none) := .inl ⟨rfl, fun c hc e => by
        obtain ⟨i, hi, rfl⟩ := List.getElem_of_mem hc
        exact hq0.out i hi hi e⟩
      go_wp2_with fail
      go_ret
      exact ⟨⟨none, rfl, E.out⟩, hB⟩
theorem idxF_nil (a : Option Addr) (c : Nat) (f : Value) (w : World) :
    Calls Try.prog 54 #[.slice a 0 c, f] w fun e w' => e = .returned (.int .i64 (-1)) ∧ Below w.heap.size w w' := by
  go_enter Try.func54, Try.ntmps54
  go_wp2_with fail
  refine wp_loop_rounds 1 ?_
  rw [rounds_succ]
  go_wp2_with fail
  go_ret
  exact ⟨rfl, Below.refl _ _⟩
theorem idxF_any (v : Value) (pB id : Nat) (l : List Ce) (w : World) (hn : l.length ≤ 1048576) (h : CRow w v l) (hp : w.cell? ⟨pB, 0, none⟩ = some (.int .u32 (id : Nat))) :
    Calls Try.prog 54 #[v, .func (.func 55) #[] #[.pointer (some ⟨pB, 0, none⟩)]] w
      fun e w' => (∃ r, e = .returned (.int .i64 (optF r)) ∧ IsFind l id r) ∧ Below w.heap.size w w' := by
  have h' := h
  rcases h with ⟨rfl, a, c, rfl⟩ | ⟨b, off, c, rfl, h0, _⟩
  · exact (idxF_nil a c _ w).mono fun e w' ⟨h1, h2⟩ => ⟨⟨none, h1, .inl ⟨rfl, fun _ h => absurd h List.not_mem_nil⟩⟩, h2⟩
  · exact idxF_row b off c pB id l w hn h' hp
set_option maxRecDepth 100000 in
/-- find: where a job's cell is. -/
theorem find_gi (m n a id : Nat) (own : Nat → Prop) (v : Value) (W : Nat → Nat) (l : List Ce) (w : World) (hI : GI w m own n a v W l) (hO : OkG n l) :
    Calls Try.prog 42 #[.pointer (some ⟨m, 0, none⟩), .int .u32 (id : Nat)] w fun e w' => (∃ r, e = .returned (.int .i64 (optF r)) ∧ IsFind l id r) ∧ Below w.heap.size w w' := by
  have hlen := hO.len
  have hv := crow_of_own hI.row
  have HI : Hid (∀ w1 (_ : Nat), Below w.heap.size w w1 → w1.cell? ⟨w.heap.size, 0, none⟩ = some (.int .u32 (id : Nat)) → Calls Try.prog 54 #[v, .func (.func 55) #[] #[.pointer (some ⟨w.heap.size, 0, none⟩)]] w1
      fun e w' => (∃ r, e = .returned (.int .i64 (optF r)) ∧ IsFind l id r) ∧ Below w1.heap.size w1 w') := fun w1 _ hb hc => idxF_any v w.heap.size id l w1 (by omega) (RowG.kept hv hb) hc
  have c2 : (w.alloc (.cells #[.int .u32 (id : Nat)] 32)).cell? ⟨m, 2, none⟩ = some v := Lib.cell?_alloc_some _ hI.gb.c2
  obtain ⟨va, vc, rfl⟩ := RowG.slice hv
  clear hv hI hlen hO
  have hmf : ∀ (fn : Fn) (first cap : Array Value) (w : World), (Instr.makeFunc fn first cap).run Try.prog w = .ok (.func fn first cap) w := fun _ _ _ _ => rfl
  go_enter Try.func42, Try.ntmps42
  go_wp2_with fail
  refine (HI.out _ 0 ?_ ?_).mono ?_
  · exact (Below.refl _ _).alloc (Nat.le_refl _) _
  · exact (Blk.new w #[.int .u32 (id : Nat)] _).cell 0
  rintro e w1 ⟨⟨r, rfl, hr⟩, b1⟩
  go_wp2_with fail
  go_ret
  exact ⟨⟨r, rfl, hr⟩, below_next b1 ((Below.refl _ _).alloc (Nat.le_refl _) _)⟩
theorem find_any (m n a id : Nat) (own : Nat → Prop) (l : List Ce) (w : World) (h : GM w m own n a l) :
    Calls Try.prog 42 #[.pointer (some ⟨m, 0, none⟩), .int .u32 (id : Nat)] w fun e w' => (∃ r, e = .returned (.int .i64 (optF r)) ∧ IsFind l id r) ∧ Below w.heap.size w w' := by
  obtain ⟨v, W, h1, h2, h3, h4⟩ := h
  exact find_gi m n a id own v W l w h1 h3
end Go.Proofs.Ytfobapnncjjeiaa
