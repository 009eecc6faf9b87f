/-
  gangerlaw08.many: more than is looked at; gangerref08.Same.
-/
import Derived.Test.YtpobghdiecfoaaaDoorDeMC
import Derived.Test.YtpobghdiecfoaaaDoorDeKZ
namespace Go.Proofs.YtpobghdiecfoaaaDoor
open Go Go.RowKit Go.Lib
set_option linter.unusedVariables false

/-- A row of needs as it is handed in: of any length. -/
structure NRx (w : World) (v : Value) (l : List NdM) : Prop where
  row : RowG 2 ndV w v l
  jobs : ∀ p ∈ l, URow w p.2.1 p.2.2
  len : l.length ≤ 281474976710656
  lens : ∀ p ∈ l, p.2.2.length ≤ 281474976710656
  small : ∀ p ∈ l, ∀ j ∈ p.2.2, j < 4294967296
theorem NRx.kept {w w' : World} {v : Value} {l : List NdM} (h : NRx w v l) (hb : Below w.heap.size w w') : NRx w' v l :=
  ⟨h.row.kept hb, fun p hp => (h.jobs p hp).kept hb, h.len, h.lens, h.small⟩
theorem NRx.at {w w' : World} {a : Option Addr} {n c : Nat} {l : List NdM} (h : NRx w (.slice a n c) l) (hb : Below w.heap.size w w') {k : Nat} (hk : k < l.length) :
    ∃ b off, a = some ⟨b, off, none⟩ ∧ w'.cell? ⟨b, off + k * 2, none⟩ = some (.int .i64 l[k].1) ∧ w'.cell? ⟨b, off + k * 2 + 1, none⟩ = some l[k].2.1 ∧ URow w' l[k].2.1 l[k].2.2 ∧ l[k].2.2.length ≤ 281474976710656 := by
  obtain ⟨b, off, e, hc⟩ := RowG.at h.row hk
  have h0 := hc w' hb 0 _ rfl
  have h1 := hc w' hb 1 _ rfl
  exact ⟨b, off, e, h0, h1, (h.jobs _ (List.getElem_mem hk)).kept hb, h.lens _ (List.getElem_mem hk)⟩
def lensOf (l : List NdM) : Nat := (l.map fun p => p.2.2.length).sum
theorem lens_take (l : List NdM) {i : Nat} (h : i < l.length) : lensOf (l.take (i + 1)) = lensOf (l.take i) + l[i].2.2.length := by
  unfold lensOf; rw [List.take_add_one, List.getElem?_eq_getElem h, List.map_append, List.sum_append]; simp
theorem lens_mem : ∀ {l : List NdM} {p : NdM}, p ∈ l → p.2.2.length ≤ lensOf l
  | q :: l, p, h => by
    unfold lensOf
    rw [List.map_cons, List.sum_cons]
    rcases List.mem_cons.1 h with rfl | h
    · omega
    · have := lens_mem h; unfold lensOf at this; omega
theorem NRx.few {w : World} {v : Value} {l : List NdM} (h : NRx w v l) (hl : l.length + lensOf l ≤ 1000) : NRw w v l :=
  ⟨h.row, h.jobs, by omega, fun p hp => by have := lens_mem hp; omega, h.small⟩
def ManyTo (n : Nat) (e : Ending) : Prop := ∃ β, e = .returned (.bool β) ∧ (β = false → n ≤ 1000)
theorem ManyTo.yes {n : Nat} {e : Ending} (h : e = .returned (.bool true)) : ManyTo n e := ⟨true, h, fun h => by cases h⟩
theorem ManyTo.no {n : Nat} {e : Ending} (h : e = .returned (.bool false)) (hn : n ≤ 1000) : ManyTo n e := ⟨false, h, fun _ => hn⟩
set_option maxRecDepth 100000 in
set_option maxHeartbeats 4000000 in
theorem many_any (any : Bool) (v : Value) (l : List NdM) (la : Option Addr) (LW lc : Nat) (w : World) (h : NRx w v l) (hw : LW ≤ 281474976710656) :
    Calls Tryd.prog 10 #[.agg #[.bool any, v], .slice la LW lc] w fun e w' => ManyTo (l.length + LW + lensOf l) e ∧ Below w.heap.size w w' := by
  obtain ⟨a, c, rfl⟩ := h.row.slice
  obtain ⟨gx, hgx⟩ : ∃ g, g = w.heap.size := ⟨_, rfl⟩
  obtain ⟨X, hX⟩ : ∃ X, X = w.alloc (.cells #[.bool any, .slice a l.length c] 24) := ⟨_, rfl⟩
  have hbX : Below w.heap.size w X := by rw [hX]; exact (Below.refl _ _).alloc (Nat.le_refl _) _
  have hbk : Blk X gx #[.bool any, .slice a l.length c] 24 := by rw [hX, hgx]; exact Blk.new w _ _
  have hlen := h.len
  obtain ⟨N, hN⟩ : ∃ N, N = l.length := ⟨_, rfl⟩
  have HN := Lib.hid hN
  have HL := Lib.hid (h.kept hbX)
  rw [← hN] at hX hbk hlen ⊢
  have HBX := Lib.hid hbX
  have y0 := hbk.cell 0
  have y1 := hbk.cell 1
  simp at y0 y1
  have HXX := Lib.hid hX
  have HGX := Lib.hid hgx
  obtain ⟨s0, hs0⟩ : ∃ s, s = N + LW := ⟨_, rfl⟩
  have e0 : (N : Int) + (LW : Int) = (s0 : Int) := by omega
  have e1 : IntKind.i64.wrap (s0 : Int) = (s0 : Int) := by rw [IntKind.wrap_i64]; omega
  have hs1 : s0 ≤ 562949953421312 := by omega
  have hs2 : N ≤ s0 := by omega
  have HS0 := Lib.hid hs0
  clear h hN hbX hbk hX hgx hs0
  go_enter Tryd.func10, Tryd.ntmps10
  go_upto_region 1 with fail
  rw [← HGX.out, ← HXX.out]
  go_wp2_with fail
  go_loopw [5, 6] (fun nv iv wr => ∃ i x : Nat, nv = .int .i64 (x : Nat) ∧ iv = .int .i64 (i : Nat) ∧ i ≤ N ∧ x ≤ 562949953422312 ∧ N ≤ x ∧ Hid (wr = X) ∧ Hid (x ≤ 1000 → s0 + lensOf (l.take i) = x)) (fun _ iv _ => N - (RowKit.intOf iv).toNat)
  case atStart => exact ⟨0, s0, rfl, rfl, Nat.zero_le _, by omega, hs2, rfl, fun _ => rfl⟩
  case round =>
    obtain ⟨i, x, rfl, rfl, hi, hx, hNx, hwx, HP⟩ := hrel
    obtain rfl := hwx.out
    by_cases hlt : i < N
    · have d1 : decide ((i : Int) < (N : Int)) = true := decide_eq_true (by omega)
      have d1' : decide (i < N) = true := decide_eq_true hlt
      by_cases hx1 : x ≤ 1000
      · have d2 : decide ((x : Int) ≤ 1000) = true := decide_eq_true (by omega)
        have d2' : decide (x ≤ 1000) = true := decide_eq_true hx1
        have hii : (i : Int) < (N : Int) := by omega
        have hik : i < l.length := by rw [← HN.out]; exact hlt
        obtain ⟨bb, off, e, x0, x1, hu, hul⟩ := NRx.at HL.out (Below.refl _ _) hik
        subst e
        have HT := Lib.hid (lens_take l hik)
        obtain ⟨p, hp⟩ : ∃ p, p = l[i] := ⟨_, rfl⟩
        rw [← hp] at x0 x1 hu hul HT
        obtain ⟨k, pv, js⟩ := p
        dsimp only at x0 x1 hu hul HT
        obtain ⟨pa, pc, rfl⟩ := hu.slice
        obtain ⟨M, hM⟩ : ∃ M, M = js.length := ⟨_, rfl⟩
        rw [← hM] at x1 hul HT
        obtain ⟨m, hm⟩ : ∃ m, m = min M 1000 := ⟨_, rfl⟩
        have q1 : min (M : Int) 1000 = (m : Int) := by omega
        have q2 : (x : Int) + (m : Int) = ((x + m : Nat) : Int) := by omega
        have q3 : IntKind.i64.wrap ((x : Int) + (m : Int)) = (x : Int) + (m : Int) := by rw [IntKind.wrap_i64]; omega
        have HF : Hid (x + m ≤ 1000 → s0 + lensOf (l.take (i + 1)) = x + m) := fun hh => by
          have := HP.out hx1
          rw [HT.out]
          have : m = M := by omega
          omega
        have hm1 : m ≤ 1000 := by omega
        clear hu hp hM hm HP x0 q2
        go_wp2_with fail
        go_roundw
        case rel => exact ⟨i + 1, x + m, by go_num, by go_num, hlt, by omega, by omega, Lib.hid trivial, HF.out⟩
        case measure => simp [RowKit.intOf]; omega
      · have d2 : decide ((x : Int) ≤ 1000) = false := decide_eq_false (by omega)
        have d2' : decide (x ≤ 1000) = false := decide_eq_false hx1
        have d3 : decide ((x : Int) > 1000) = true := decide_eq_true (by omega)
        have d3' : decide (1000 < (x : Int)) = true := decide_eq_true (by omega)
        have d3'' : decide (1000 < x) = true := decide_eq_true (by omega)
        go_wp2_with fail
        go_ret
        exact ⟨.yes rfl, HBX.out⟩
    · have d1 : decide ((i : Int) < (N : Int)) = false := decide_eq_false (by omega)
      have d1' : decide (i < N) = false := decide_eq_false hlt
      by_cases hx1 : x ≤ 1000
      · have d3 : decide ((x : Int) > 1000) = false := decide_eq_false (by omega)
        have d3' : decide (1000 < (x : Int)) = false := decide_eq_false (by omega)
        have d3'' : decide (1000 < x) = false := decide_eq_false (by omega)
        have HE : Hid (N + LW + lensOf l ≤ 1000) := by
          have h1 := HP.out hx1
          rw [show l.take i = l by rw [show i = l.length by have := HN.out; omega]; exact List.take_length, HS0.out] at h1
          unfold Hid; omega
        go_wp2_with fail
        go_ret
        exact ⟨.no rfl HE.out, HBX.out⟩
      · have d3 : decide ((x : Int) > 1000) = true := decide_eq_true (by omega)
        have d3' : decide (1000 < (x : Int)) = true := decide_eq_true (by omega)
        have d3'' : decide (1000 < x) = true := decide_eq_true (by omega)
        go_wp2_with fail
        go_ret
        exact ⟨.yes rfl, HBX.out⟩
end Go.Proofs.YtpobghdiecfoaaaDoor
