/-
  The law's 'in'; Runs at any matrix.
-/
import Derived.Test.YtfobapnncjjeiaaGaQ
import Derived.Test.YtfobapnncjjeiaaGaR
import Derived.Test.YtfobapnncjjeiaaSuHI
namespace Go.Proofs.Ytfobapnncjjeiaa
open Go Go.RowKit Go.Lib
set_option linter.unusedVariables false

theorem URow.cell {w : World} {bb off n c : Nat} {l : List Nat} (h : URow w (.slice (some ⟨bb, off, none⟩) n c) l) {k : Nat} (hk : k < l.length) {w' : World} (hb : Below w.heap.size w w') :
    w'.cell? ⟨bb, off + k, none⟩ = some (.int .u32 (l[k] : Int)) := by
  obtain ⟨b', off', e, hc⟩ := RowG.at h hk
  injection e with e; injection e with e1 e2; subst e1; subst e2
  have := hc w' hb 0 _ rfl
  simpa using this
theorem urow_none {w : World} {n c : Nat} {l : List Nat} (h : URow w (.slice none n c) l) : l = [] := by
  rcases h with ⟨rfl, _⟩ | ⟨b, off, c', h1, _⟩
  · rfl
  · cases h1
theorem urow_some {w : World} {n c : Nat} {A : Addr} {l : List Nat} (h : URow w (.slice (some A) n c) l) (hk : 0 < l.length) : ∃ bb off, A = ⟨bb, off, none⟩ := by
  obtain ⟨b, off, e, _⟩ := RowG.at h hk
  exact ⟨b, off, by injection e⟩
theorem URow.kept {w w' : World} {v : Value} {l : List Nat} (h : URow w v l) (hb : Below w.heap.size w w') : URow w' v l := RowG.kept h hb
set_option maxRecDepth 100000 in
set_option maxHeartbeats 2000000 in
theorem in_any (v : Value) (ys : List Nat) (id : Nat) (w : World) (h : URow w v ys) (hl : ys.length ≤ 4194304) :
    Calls Try.prog 26 #[v, .int .u32 (id : Nat)] w fun e w' => e = .returned (.bool (decide (id ∈ ys))) ∧ w' = w := by
  obtain ⟨va, vc, rfl⟩ := RowG.slice h
  have HR := Lib.hid h
  obtain ⟨N, hN⟩ : ∃ N, N = ys.length := ⟨_, rfl⟩
  have HN := Lib.hid hN
  obtain ⟨β, hβ⟩ : ∃ β, β = decide (id ∈ ys) := ⟨_, rfl⟩
  have HB := Lib.hid hβ
  rw [← hN] at hl ⊢
  rw [← hβ]
  clear h hN hβ
  go_enter Try.func26, Try.ntmps26
  go_wp2_with fail
  go_loopw [5] (fun iv wr => ∃ k : Nat, k ≤ N ∧ iv = .int .i64 (k : Nat) ∧ Hid (∀ j (h : j < ys.length), j < k → ys[j] ≠ id) ∧ Hid (wr = w)) (fun iv _ => N - (RowKit.intOf iv).toNat)
  case atStart => exact ⟨0, Nat.zero_le _, rfl, fun j _ h => absurd h (Nat.not_lt_zero _), rfl⟩
  case round =>
    obtain ⟨k, hk, rfl, HF, HW⟩ := hrel
    by_cases hlt : k < N
    · have d1 : decide ((k : Int) < (N : Int)) = true := decide_eq_true (by omega)
      have d1' : decide (k < N) = true := decide_eq_true hlt
      have hkN : (k : Int) < (N : Int) := by omega
      have hky : k < ys.length := by rw [← HN.out]; exact hlt
      cases va with
      | none => have := urow_none HR.out; rw [this] at hky; simp at hky
      | some A =>
      obtain ⟨bb, off, rfl⟩ := urow_some HR.out (by omega)
      have c0 := HR.out.cell hky (Below.refl _ _)
      rw [← HW.out] at c0
      obtain ⟨x, hx⟩ : ∃ x, x = ys[k] := ⟨_, rfl⟩
      rw [← hx] at c0
      by_cases he : x = id
      · have e1 : ((x : Int) == (id : Int)) = true := by simp; omega
        have e1' : (x == id) = true := by simp; omega
        have HT : Hid (β = true) := by unfold Hid; rw [HB.out, decide_eq_true_eq, ← he, hx]; exact List.getElem_mem hky
        clear hx hky
        have HE := Lib.hid he
        clear he
        go_wp2_with fail
        go_ret
        exact ⟨by rw [HT.out]; rfl, HW.out⟩
      · have e1 : ((x : Int) == (id : Int)) = false := by simp; omega
        have e1' : (x == id) = false := by simp; omega
        have HF2 : Hid (∀ j (h : j < ys.length), j < k + 1 → ys[j] ≠ id) := fun j h hj => by
          rcases Nat.lt_or_ge j k with h2 | h2
          · exact HF.out j h h2
          · obtain rfl : j = k := by omega
            rw [← hx]; exact he
        clear hx hky he
        go_wp2_with fail
        go_roundw
        case rel => exact ⟨k + 1, hlt, by go_num, HF2, HW⟩
        case measure => simp [RowKit.intOf]; omega
    · have d1 : decide ((k : Int) < (N : Int)) = false := decide_eq_false (by omega)
      have d1' : decide (k < N) = false := decide_eq_false hlt
      have HT : Hid (β = false) := by
        unfold Hid; rw [HB.out, decide_eq_false_iff_not]
        intro hm
        obtain ⟨j, hj, e⟩ := List.getElem_of_mem hm
        exact HF.out j hj (by have := HN.out; omega) e
      go_wp2_with fail
      go_ret
      exact ⟨by rw [HT.out]; rfl, HW.out⟩
/-- Who runs, at any matrix: a row of numbers that its caller owns. -/
theorem runsAll_any (m n a : Nat) (own : Nat → Prop) (l : List Ce) (w : World) (h : GN w m own n a l) (hact : a < rowsG l ∨ a = 0) :
    Calls Try.prog 15 #[.pointer (some ⟨m, 0, none⟩)] w fun e w' => (∃ v ys, e = .returned v ∧ ys.Perm (ids (runsG l a)) ∧ ys.Pairwise (· ≤ ·) ∧ UOwn w' w.heap.size v ys) ∧ Below w.heap.size w w' := by
  refine runs_any 4194304 m n a own l w h hact sort_all ?_
  have h1 := runTo_len l a (rowsG l)
  have h2 := rowsG_16 h.ok
  have h3 := h.ok.len
  have h4 := Nat.mul_le_mul h2 h3
  unfold runsG
  omega
theorem runs_len {n a : Nat} {l : List Ce} (h : OkG n l) : (runsG l a).length ≤ 262144 := by
  have h1 := runTo_len l a (rowsG l)
  have h2 := rowsG_16 h
  have h3 := h.len
  have h4 := Nat.mul_le_mul h2 h3
  unfold runsG
  omega
theorem active_same (m n a : Nat) (own : Nat → Prop) (l : List Ce) (w : World) (h : GN w m own n a l) :
    Calls Try.prog 19 #[.pointer (some ⟨m, 0, none⟩)] w fun e w' => e = .returned (.int .i64 (a : Nat)) ∧ w' = w := by
  obtain ⟨v, W, hI, hW, hO⟩ := h
  have c1 := hI.gb.c1
  clear hI hW hO
  go_enter Try.func19, Try.ntmps19
  go_wp2_with fail
  go_ret
  exact ⟨rfl, rfl⟩
end Go.Proofs.Ytfobapnncjjeiaa
