/-
  rank.find: where a number is, in any keys.
-/
import Derived.Test.YtpgiladbljnpcaaKeyE
namespace Go.Proofs.Ytpgiladbljnpcaa
open Go.ChangeShapes Go.WideShapes Go.ChangeAt Go.RowKit Go.Lib Go.Sort Go.Maps
set_option linter.unusedVariables false

/-- Where the number is, or -1. -/
def idxK (xs : List Key) (id : Int) : Int := match xs.findIdx? (fun x => x.2.2 == id) with | some i => (i : Nat) | none => -1
theorem idxK_at {xs : List Key} {id : Int} {k : Nat} (hk : k < xs.length) (h1 : ∀ q, q < k → (at_ xs q).2.2 ≠ id) (h2 : (at_ xs k).2.2 = id) : idxK xs id = k := by
  have : xs.findIdx? (fun x => x.2.2 == id) = some k := by
    rw [List.findIdx?_eq_some_iff_getElem]
    refine ⟨hk, by rw [at_getElem hk]; simpa using h2, fun j hj => ?_⟩
    rw [at_getElem (by omega)]; simpa using h1 j hj
  unfold idxK; rw [this]
theorem idxK_none {xs : List Key} {id : Int} (h1 : ∀ q, q < xs.length → (at_ xs q).2.2 ≠ id) : idxK xs id = -1 := by
  have : xs.findIdx? (fun x => x.2.2 == id) = none := by
    rw [List.findIdx?_eq_none_iff]
    intro x hx
    obtain ⟨j, hj, rfl⟩ := List.mem_iff_getElem.1 hx
    have := h1 j hj
    rw [← at_getElem hj] at this
    simpa using this
  unfold idxK; rw [this]

theorem clos_any (pB : Nat) (id : Int) (x : Key) (w : World) (h : w.cell? ⟨pB, 0, none⟩ = some (.int .u32 id)) :
    Calls Try.prog 53 #[.agg #[.int .i64 x.1, .int .i64 x.2.1, .int .u32 x.2.2], .pointer (some ⟨pB, 0, none⟩)] w fun e w' => e = .returned (.bool (x.2.2 == id)) ∧ Below w.heap.size w w' := by
  have hlt := World.block_lt_of_cell? w _ h
  have h2 : ∀ cs, (w.alloc cs).cell? ⟨pB, 0, none⟩ = some (.int .u32 id) := fun cs => Lib.cell?_alloc_some _ h
  generalize hq : (x.2.2 == id) = q
  go_enter Try.func53, Try.ntmps53
  go_wp2_with fail
  go_ret
  exact ⟨rfl, (Below.refl _ _).alloc (Nat.le_refl _) _⟩

set_option maxHeartbeats 1000000 in
theorem indexFunc_row (b off c pB : Nat) (id : Int) (xs : List Key) (w : World) (hn : xs.length ≤ 1048576) (hc : KCells w b off xs) (hp : w.cell? ⟨pB, 0, none⟩ = some (.int .u32 id)) :
    Calls Try.prog 52 #[.slice (some ⟨b, off, none⟩) xs.length c, .func (.func 53) #[] #[.pointer (some ⟨pB, 0, none⟩)]] w
      fun e w' => e = .returned (.int .i64 (idxK xs id)) ∧ Below w.heap.size w w' := by
  have HC := Lib.hid hc
  have HP := Lib.hid hp
  clear hc hp
  go_enter Try.func52, Try.ntmps52
  go_wp2_with fail
  go_loopw [8] (fun i wr => ∃ k : Nat, k ≤ xs.length ∧ i = .int .i64 k ∧ Hid (∀ q, q < k → (at_ xs q).2.2 ≠ id) ∧ Below w.heap.size w wr) (fun i _ => xs.length - (intOf i).toNat)
  case atStart => exact ⟨0, Nat.zero_le _, rfl, fun q h => by omega, Below.refl _ _⟩
  case round =>
    obtain ⟨k, hk, rfl, hq0, hB⟩ := hrel
    by_cases hlt : k < xs.length
    · have hlt' : decide (k < xs.length) = true := decide_eq_true hlt
      obtain ⟨c0, c1, c2⟩ := HC.out.at hB hlt
      have HK := Lib.hid (clos_any pB id (at_ xs k) wr (cell_next hB HP.out))
      obtain ⟨x, hx⟩ : ∃ x, x = at_ xs k := ⟨_, rfl⟩
      have HX := Lib.hid hx
      rw [← hx] at c0 c1 c2 HK
      clear hx
      cases hf : (x.2.2 == id)
      · rw [hf] at HK
        go_wp2_with fail
        refine HK.out.mono ?_; rintro e w2 ⟨rfl, b2⟩
        go_wp2_with fail
        go_roundw
        case rel =>
          refine ⟨k + 1, hlt, by go_num, fun q h => ?_, below_next b2 hB⟩
          rcases Nat.lt_or_ge q k with h1 | h1
          · exact hq0.out q h1
          · obtain rfl : q = k := by omega
            rw [← HX.out]; simpa using hf
        case measure => simp [intOf]; omega
      · rw [hf] at HK
        have E : Hid (idxK xs id = k) := idxK_at hlt hq0.out (by rw [← HX.out]; simpa using hf)
        go_wp2_with fail
        refine HK.out.mono ?_; rintro e w2 ⟨rfl, b2⟩
        go_wp2_with fail
        go_ret
        rw [E.out]; exact ⟨rfl, below_next b2 hB⟩
    · obtain rfl : k = xs.length := by omega
      have hlt' : decide (xs.length < xs.length) = false := decide_eq_false (by omega)
      have E : Hid (idxK xs id = -1) := idxK_none hq0.out
      go_wp2_with fail
      go_ret
      rw [E.out]; exact ⟨rfl, hB⟩
theorem indexFunc_nil (a : Option Addr) (c : Nat) (f : Value) (w : World) :
    Calls Try.prog 52 #[.slice a 0 c, f] w fun e w' => e = .returned (.int .i64 (-1)) ∧ Below w.heap.size w w' := by
  go_enter Try.func52, Try.ntmps52
  go_wp2_with fail
  refine wp_loop_rounds 1 ?_
  rw [rounds_succ]
  go_wp2_with fail
  go_ret
  exact ⟨rfl, Below.refl _ _⟩
theorem indexFunc_any (v : Value) (pB : Nat) (id : Int) (xs : List Key) (w : World) (hn : xs.length ≤ 1048576) (h : KRow w v xs) (hp : w.cell? ⟨pB, 0, none⟩ = some (.int .u32 id)) :
    Calls Try.prog 52 #[v, .func (.func 53) #[] #[.pointer (some ⟨pB, 0, none⟩)]] w
      fun e w' => e = .returned (.int .i64 (idxK xs id)) ∧ Below w.heap.size w w' := by
  rcases h with ⟨rfl, a, c, rfl, _⟩ | ⟨b, off, c, rfl, h0, h1, h2, hc⟩
  · exact indexFunc_nil a c _ w
  · exact indexFunc_row b off c pB id xs w hn hc hp
/-- rank.find: at any keys. -/
theorem find_any (v : Value) (id : Int) (xs : List Key) (w : World) (hn : xs.length ≤ 1048576) (h : KRow w v xs) :
    Calls Try.prog 39 #[v, .int .u32 id] w fun e w' => e = .returned (.int .i64 (idxK xs id)) ∧ Below w.heap.size w w' := by
  have HI : Hid (∀ w1 (_ : Nat), Below w.heap.size w w1 → w1.cell? ⟨w.heap.size, 0, none⟩ = some (.int .u32 id) → Calls Try.prog 52 #[v, .func (.func 53) #[] #[.pointer (some ⟨w.heap.size, 0, none⟩)]] w1
      fun e w' => e = .returned (.int .i64 (idxK xs id)) ∧ Below w1.heap.size w1 w') := fun w1 _ hb hc => indexFunc_any v w.heap.size id xs w1 hn (h.kept hb) hc
  clear h hn
  have hmf : ∀ (fn : Fn) (first cap : Array Value) (w : World), (Instr.makeFunc fn first cap).run Try.prog w = .ok (.func fn first cap) w := fun _ _ _ _ => rfl
  generalize idxK xs id = r at *
  go_enter Try.func39, Try.ntmps39
  go_wp2_with fail
  refine (HI.out _ 0 ?_ ?_).mono ?_
  · exact (Below.refl _ _).alloc (Nat.le_refl _) _
  · exact (Blk.new w #[.int .u32 id] _).cell 0
  rintro e w1 ⟨rfl, b1⟩
  go_wp2_with fail
  go_ret
  exact ⟨rfl, below_next b1 ((Below.refl _ _).alloc (Nat.le_refl _) _)⟩
end Go.Proofs.Ytpgiladbljnpcaa
