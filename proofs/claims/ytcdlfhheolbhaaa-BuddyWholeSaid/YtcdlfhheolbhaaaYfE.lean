/-
  An array of 32 counters in a block of its own.
-/
import Derived.Test.YtcdlfhheolbhaaaYfD
namespace Go.Proofs.Ytcdlfhheolbhaaa
open Go Go.RowKit Go.Lib
set_option linter.unusedVariables false

def Cnt (w : World) (b : Nat) (f : Nat → Nat) : Prop := ∃ cs, Blk w b cs 52 ∧ cs.size = 32 ∧ ∀ x, x < 32 → cs[x]? = some (.int .i64 ((f x : Nat) : Int))
theorem Cnt.cell {w : World} {b x : Nat} {f : Nat → Nat} (h : Cnt w b f) (hx : x < 32) : w.cell? ⟨b, x, none⟩ = some (.int .i64 ((f x : Nat) : Int)) := by
  obtain ⟨cs, h1, h2, h3⟩ := h
  rw [h1.cell]; exact h3 x hx
theorem Cnt.free {w : World} {b x : Nat} {f : Nat → Nat} (h : Cnt w b f) : w.frozen? ⟨b, x, none⟩ = false := by
  obtain ⟨cs, h1, h2, h3⟩ := h
  exact h1.frees x
theorem Cnt.lt {w : World} {b : Nat} {f : Nat → Nat} (h : Cnt w b f) : b < w.heap.size := by
  obtain ⟨cs, h1, _⟩ := h
  exact h1.lt
theorem Cnt.set {w : World} {b x m : Nat} {f : Nat → Nat} (h : Cnt w b f) (hx : x < 32) : Cnt (w.setCell ⟨b, x, none⟩ (.int .i64 (m : Int))) b (fun y => if y = x then m else f y) := by
  obtain ⟨cs, h1, h2, h3⟩ := h
  refine ⟨_, h1.set x _, by simp [h2], fun y hy => ?_⟩
  by_cases e : y = x
  · subst e
    rw [Array.getElem?_setIfInBounds_self_of_lt (by omega)]; simp
  · rw [Array.getElem?_setIfInBounds_ne (fun q => e q.symm)]; simpa [e] using h3 y hy
theorem Cnt.congr {w : World} {b : Nat} {f g : Nat → Nat} (h : Cnt w b f) (e : f = g) : Cnt w b g := e ▸ h
theorem Cnt.kept {w w' : World} {b : Nat} {f : Nat → Nat} (h : Cnt w b f) (hb : Below w.heap.size w w') : Cnt w' b f := by
  obtain ⟨cs, h1, h2, h3⟩ := h
  exact ⟨cs, h1.kept hb, h2, h3⟩
/-- The stores into one block. -/
abbrev One (b : Nat) : Nat → Prop := fun k => k = b
theorem own_one {w w' : World} {base size n b : Nat} {e : TypeId} {v : Value} {xs : List Value} (h : w.ownsRow base e size v n xs) (hc : Chg (One b) w w') (hv : v.ownBlock ≠ some b) : w'.ownsRow base e size v n xs :=
  own_chg h hc fun k hk e => hv (by rw [hk]; exact congrArg some e)
theorem Cnt.zero {w : World} {b : Nat} (h : Blk w b #[.int .i64 0, .int .i64 0, .int .i64 0, .int .i64 0, .int .i64 0, .int .i64 0, .int .i64 0, .int .i64 0, .int .i64 0, .int .i64 0, .int .i64 0, .int .i64 0, .int .i64 0, .int .i64 0, .int .i64 0, .int .i64 0, .int .i64 0, .int .i64 0, .int .i64 0, .int .i64 0, .int .i64 0, .int .i64 0, .int .i64 0, .int .i64 0, .int .i64 0, .int .i64 0, .int .i64 0, .int .i64 0, .int .i64 0, .int .i64 0, .int .i64 0, .int .i64 0] 52) : Cnt w b (fun _ => 0) := by
  refine ⟨_, h, rfl, fun x hx => ?_⟩
  have e : (#[.int .i64 0, .int .i64 0, .int .i64 0, .int .i64 0, .int .i64 0, .int .i64 0, .int .i64 0, .int .i64 0, .int .i64 0, .int .i64 0, .int .i64 0, .int .i64 0, .int .i64 0, .int .i64 0, .int .i64 0, .int .i64 0, .int .i64 0, .int .i64 0, .int .i64 0, .int .i64 0, .int .i64 0, .int .i64 0, .int .i64 0, .int .i64 0, .int .i64 0, .int .i64 0, .int .i64 0, .int .i64 0, .int .i64 0, .int .i64 0, .int .i64 0, .int .i64 0] : Array Value) = Array.replicate 32 (.int .i64 0) := rfl
  rw [e, Array.getElem?_replicate, if_pos hx]; rfl
theorem Cnt.other {w : World} {b g o : Nat} {f : Nat → Nat} (h : Cnt w b f) (hb : b ≠ g) (v : Value) : Cnt (w.setCell ⟨g, o, none⟩ v) b f := by
  obtain ⟨cs, h1, h2, h3⟩ := h
  exact ⟨cs, h1.other hb v, h2, h3⟩
theorem Chg.newCell {own : Nat → Prop} {w w' : World} {g : Nat} (h : Chg own w w') (hg : w.heap.size ≤ g) (o : Nat) (v : Value) : Chg own w (w'.setCell ⟨g, o, none⟩ v) :=
  ⟨h.os, h.tape, h.output, Nat.le_trans h.size (KeepsWalks.setCell w' _ v).size, fun k hk hn => by
    rw [Below.heap_setCell _ _ _ k (by show k ≠ g; omega)]; exact h.block k hk hn⟩
theorem Chg.more {own : Nat → Prop} {a b c : World} (h1 : Chg own a b) (h2 : Below b.heap.size b c) : Chg own a c := h1.trans (Chg.of_below h2)
theorem xor_bud_i {o s P : Nat} (ho : o ≤ 10) (h : s < 4096) (hs : s % 2 ^ o = 0) (hP : P = 2 ^ o) : bits .xor .i64 (s : Int) (P : Int) = (bud o s : Nat) := by rw [hP]; exact i64_xor_bud ho h hs
theorem app_get {F tk : List Bk} {k : Nat} (h : k < (F ++ tk).length) : (k < F.length ∧ ∃ hk : k < F.length, (F ++ tk)[k] = F[k]) ∨ (F.length ≤ k ∧ ∃ hk : k - F.length < tk.length, (F ++ tk)[k] = tk[k - F.length]) := by
  rw [List.length_append] at h
  by_cases hk : k < F.length
  · exact .inl ⟨hk, hk, List.getElem_append_left hk⟩
  · exact .inr ⟨by omega, by omega, List.getElem_append_right (by omega)⟩
end Go.Proofs.Ytcdlfhheolbhaaa
