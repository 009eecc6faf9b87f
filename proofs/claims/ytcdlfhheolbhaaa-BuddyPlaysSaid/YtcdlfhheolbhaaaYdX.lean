/-
  Where a number is of which somebody says so; the yard's release.
-/
import Derived.Test.YtcdlfhheolbhaaaYdW
namespace Go.Proofs.Ytcdlfhheolbhaaa
open Go Go.RowKit Go.Lib
set_option linter.unusedVariables false

/-- Where the first one is, or -1. -/
def idxG {α : Type} (g : α → Bool) (l : List α) : Int := match l.findIdx? g with | some i => (i : Nat) | none => -1
theorem idxG_at {α : Type} {g : α → Bool} {l : List α} {k : Nat} (hk : k < l.length) (h1 : ∀ q (hq : q < l.length), q < k → g l[q] = false) (h2 : g l[k] = true) : idxG g l = k := by
  have : l.findIdx? g = some k := by
    rw [List.findIdx?_eq_some_iff_getElem]
    exact ⟨hk, h2, fun j hj => by rw [h1 j (by omega) hj]; simp⟩
  unfold idxG; rw [this]
theorem idxG_none {α : Type} {g : α → Bool} {l : List α} (h1 : ∀ q (hq : q < l.length), g l[q] = false) : idxG g l = -1 := by
  have : l.findIdx? g = none := by
    rw [List.findIdx?_eq_none_iff]
    intro x hx
    obtain ⟨j, hj, rfl⟩ := List.mem_iff_getElem.1 hx
    exact h1 j hj
  unfold idxG; rw [this]
theorem idxG_any {α : Type} (g : α → Bool) (l : List α) : decide (0 ≤ idxG g l) = l.any g := by
  unfold idxG
  cases h : l.findIdx? g with
  | none =>
    rw [List.findIdx?_eq_none_iff] at h
    have : l.any g = false := by rw [List.any_eq_false]; intro x hx; rw [h x hx]; simp
    rw [this]; rfl
  | some i =>
    rw [List.findIdx?_eq_some_iff_getElem] at h
    obtain ⟨hi, h1, _⟩ := h
    have : l.any g = true := List.any_eq_true.2 ⟨_, List.getElem_mem hi, h1⟩
    rw [this]; simp

theorem closR_any (gB : Nat) (b : Bk) (x : Nat) (h1 : b.1 < 4096) (ho : b.2 ≤ 10) (w : World) (hB : Blk w gB #[.int .i64 (b.1 : Int), .int .i64 (b.2 : Int)] 45) :
    Calls Try.prog 74 #[.int .i64 (x : Int), .pointer (some ⟨gB, 0, none⟩)] w fun e w' => e = .returned (.bool (inI b (x : Int))) ∧ Below w.heap.size w w' := by
  have C := Lib.hid (contains_any b (x : Int) h1 ho w)
  generalize inI b (x : Int) = f at *
  have hb0 := hB.cell 0
  have hb1 := hB.cell 1
  simp at hb0 hb1
  clear hB
  go_enter Try.func74, Try.ntmps74
  go_wp2_with fail
  refine C.out.mono ?_; rintro e w1 ⟨rfl, b1⟩
  go_wp2_with fail
  go_ret
  exact ⟨rfl, b1⟩

set_option maxHeartbeats 1000000 in
theorem idxN_row (bb off c gB : Nat) (b : Bk) (l : List Nat) (h1 : b.1 < 4096) (ho : b.2 ≤ 10) (w : World) (hn : l.length ≤ 1024) (hc : ∀ j, j < (natI l).length → w.cell? ⟨bb, off + j, none⟩ = some (.int .i64 ((natI l).getD j 0))) (hp : Blk w gB #[.int .i64 (b.1 : Int), .int .i64 (b.2 : Int)] 45) :
    Calls Try.prog 93 #[.slice (some ⟨bb, off, none⟩) l.length c, .func (.func 74) #[] #[.pointer (some ⟨gB, 0, none⟩)]] w
      fun e w' => e = .returned (.int .i64 (idxG (fun x : Nat => inI b (x : Int)) l)) ∧ Below w.heap.size w w' := by
  have HC := Lib.hid hc
  have HP := Lib.hid hp
  have hlen := natI_len l
  clear hc hp
  go_enter Try.func93, Try.ntmps93
  go_wp2_with fail
  go_loopw [8] (fun i wr => ∃ k : Nat, k ≤ l.length ∧ i = .int .i64 k ∧ Hid (∀ q (hq : q < l.length), q < k → inI b (l[q] : Int) = false) ∧ Below w.heap.size w wr) (fun i _ => l.length - (RowKit.intOf i).toNat)
  case atStart => exact ⟨0, Nat.zero_le _, rfl, fun q _ h => by omega, Below.refl _ _⟩
  case round =>
    obtain ⟨k, hk, rfl, hq0, hB⟩ := hrel
    by_cases hlt : k < l.length
    · have hlt' : decide (k < l.length) = true := decide_eq_true hlt
      have c0 := cell_next hB (HC.out k (by omega))
      rw [natI_at hlt] at c0
      have HK := Lib.hid (closR_any gB b l[k] h1 ho wr (HP.out.kept hB))
      obtain ⟨x, hx⟩ : ∃ x, x = l[k] := ⟨_, rfl⟩
      have HX := Lib.hid hx
      rw [← hx] at c0 HK
      clear hx
      cases hf : inI b (x : Int)
      · rw [hf] at HK
        have HF := Lib.hid hf
        clear hf
        go_wp2_with fail
        refine HK.out.mono ?_; rintro e w2 ⟨rfl, b2⟩
        go_wp2_with fail
        go_roundw
        case rel =>
          refine ⟨k + 1, hlt, by go_num, fun q hq h => ?_, below_next b2 hB⟩
          rcases Nat.lt_or_ge q k with h1 | h1
          · exact hq0.out q hq h1
          · obtain rfl : q = k := by omega
            rw [← HX.out]; exact HF.out
        case measure => simp [RowKit.intOf]; omega
      · rw [hf] at HK
        have E : Hid (idxG (fun x : Nat => inI b (x : Int)) l = k) := idxG_at hlt hq0.out (by rw [← HX.out]; exact hf)
        clear hf
        go_wp2_with fail
        refine HK.out.mono ?_; rintro e w2 ⟨rfl, b2⟩
        go_wp2_with fail
        go_ret
        rw [E.out]; exact ⟨rfl, below_next b2 hB⟩
    · obtain rfl : k = l.length := by omega
      have hlt' : decide (l.length < l.length) = false := decide_eq_false (by omega)
      have E : Hid (idxG (fun x : Nat => inI b (x : Int)) l = -1) := idxG_none fun q hq => hq0.out q hq hq
      go_wp2_with fail
      go_ret
      rw [E.out]; exact ⟨rfl, hB⟩
theorem idxN_nil (a : Option Addr) (c : Nat) (f : Value) (w : World) :
    Calls Try.prog 93 #[.slice a 0 c, f] w fun e w' => e = .returned (.int .i64 (-1)) ∧ Below w.heap.size w w' := by
  go_enter Try.func93, Try.ntmps93
  go_wp2_with fail
  refine wp_loop_rounds 1 ?_
  rw [rounds_succ]
  go_wp2_with fail
  go_ret
  exact ⟨rfl, Below.refl _ _⟩
theorem idxN_any (v : Value) (gB : Nat) (b : Bk) (l : List Nat) (h1 : b.1 < 4096) (ho : b.2 ≤ 10) (w : World) (hn : l.length ≤ 1024) (h : NRow w v (natI l)) (hp : Blk w gB #[.int .i64 (b.1 : Int), .int .i64 (b.2 : Int)] 45) :
    Calls Try.prog 93 #[v, .func (.func 74) #[] #[.pointer (some ⟨gB, 0, none⟩)]] w
      fun e w' => e = .returned (.int .i64 (idxG (fun x : Nat => inI b (x : Int)) l)) ∧ Below w.heap.size w w' := by
  have hlen := natI_len l
  rcases h with ⟨h0, a, c, rfl, _⟩ | ⟨bb, off, c, rfl, _, _, _, _, hc⟩
  · have : l = [] := List.eq_nil_of_length_eq_zero (by rw [← hlen, h0]; rfl)
    subst this
    exact idxN_nil a c _ w
  · rw [hlen]
    exact idxN_row bb off c gB b l h1 ho w hn hc hp
theorem hasF_any (v : Value) (gB : Nat) (b : Bk) (l : List Nat) (h1 : b.1 < 4096) (ho : b.2 ≤ 10) (w : World) (hn : l.length ≤ 1024) (h : NRow w v (natI l)) (hp : Blk w gB #[.int .i64 (b.1 : Int), .int .i64 (b.2 : Int)] 45) :
    Calls Try.prog 73 #[v, .func (.func 74) #[] #[.pointer (some ⟨gB, 0, none⟩)]] w
      fun e w' => e = .returned (.bool (l.any fun x : Nat => inI b (x : Int))) ∧ Below w.heap.size w w' := by
  have HI := Lib.hid (idxN_any v gB b l h1 ho w hn h hp)
  have E := idxG_any (fun x : Nat => inI b (x : Int)) l
  generalize idxG (fun x : Nat => inI b (x : Int)) l = r at *
  generalize (l.any fun x : Nat => inI b (x : Int)) = f at *
  clear h hp
  have HE := Lib.hid E
  clear E
  go_enter Try.func73, Try.ntmps73
  go_wp2_with fail
  refine HI.out.mono ?_; rintro e w1 ⟨rfl, b1⟩
  go_wp2_with fail
  go_ret
  rw [← HE.out]
  exact ⟨rfl, b1⟩

theorem any_in {l : List Nat} {o s : Nat} : (l.any fun x : Nat => inI (s, o) (x : Int)) = true ↔ ∃ x ∈ l, inB o s x := by
  rw [List.any_eq_true]
  constructor
  · rintro ⟨x, h1, h2⟩; exact ⟨x, h1, (inI_nat (s, o) x).1 h2⟩
  · rintro ⟨x, h1, h2⟩; exact ⟨x, h1, (inI_nat (s, o) x).2 h2⟩
/-- The halves of a closed block are closed. -/
theorem InsAt.halves {n : Nat} {op : Opn} {k s : Nat} (h : InsAt n op (k + 1) s) (fl : List Nat) : InsAt n op k s ∧ InsAt n (moreF op fl k s) k (s + 2 ^ k) := by
  have e2 := pow_two k
  have hb := h.hb
  have hs0 : s % 2 ^ k = 0 := two_mod (Nat.le_succ k) h.hs
  refine ⟨⟨by have := h.ho; omega, hs0, by omega, fun x hx => h.hd x (by unfold inB at *; omega)⟩, ⟨by have := h.ho; omega, two_add_mod (Nat.le_refl k) hs0, by omega, fun x hx => ?_⟩⟩
  unfold moreF
  rw [if_neg (by unfold inB at *; omega)]
  exact h.hd x (by unfold inB at *; omega)
end Go.Proofs.Ytcdlfhheolbhaaa
