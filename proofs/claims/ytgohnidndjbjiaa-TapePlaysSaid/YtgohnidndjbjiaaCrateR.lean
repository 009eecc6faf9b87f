/-
  Layer 17: gangerlaw17.row at any rows.
-/
import Derived.Test.YtgohnidndjbjiaaCrateL
namespace Go.Proofs.Ytgohnidndjbjiaa
open Go Go.RowKit Go.Lib
set_option linter.unusedVariables false

theorem owns_ne {w : World} {b1 b2 n m s1 s2 : Nat} {e1 e2 : TypeId} {v1 v2 : Value} {xs ys : List Value} (h : w.ownsRow b1 e1 s1 v1 n xs) (ho : w.ownsRow b2 e2 s2 v2 m ys) (hne : e1 ≠ e2) : ∀ g, v1.ownBlock = some g → v2.ownBlock ≠ some g := by
  intro g h1 h2
  obtain ⟨_, ⟨rfl, _⟩ | ⟨g1, _, c1, rfl, _, hc1, _⟩⟩ := h
  · cases h1
  obtain ⟨_, ⟨rfl, _⟩ | ⟨g2, _, c2, rfl, _, hc2, _⟩⟩ := ho
  · cases h2
  obtain rfl : g1 = g := by simpa [Value.ownBlock] using h1
  obtain rfl : g2 = g1 := by simpa [Value.ownBlock] using h2
  exact Blk.ne_ (w := w) (b := g2) (b' := g2) hc1 hc2 hne rfl
theorem owns_grown {w w1 : World} {base n size : Nat} {e : TypeId} {v : Value} {row : Option Nat} {xs : List Value} (h : w.ownsRow base e size v n xs) (g : w.grownBy w1 row) (hn : ∀ b, row = some b → v.ownBlock ≠ some b) : w1.ownsRow base e size v n xs :=
  owns_fr h (N := fun b => row = some b) ((Fr.refl _ w).grown g fun b hb => .inl hb) fun b hb hr => hn b hr hb
/-- Crates one behind the other. -/
def flatB (l : List (List UInt8)) : List UInt8 := (l.map putB).flatten
theorem flatB_snoc (l : List (List UInt8)) (x : List UInt8) : flatB (l ++ [x]) = flatB l ++ putB x := by simp [flatB]
theorem flatB_len (l : List (List UInt8)) : (flatB l).length = endL l := by
  induction l with
  | nil => rfl
  | cons x l ih => simp only [flatB, endL, List.map_cons, List.flatten_cons, List.length_append, List.sum_cons, putB_len] at *; omega
/-- Where each ends. -/
def endsB (l : List (List UInt8)) : List Value := (List.range l.length).map fun i => .int .i64 ((endL (l.take (i + 1)) : Nat) : Int)
theorem endsB_len (l : List (List UInt8)) : (endsB l).length = l.length := by simp [endsB]
theorem endsB_get (l : List (List UInt8)) (i : Nat) (h : i < l.length) : (endsB l)[i]? = some (.int .i64 ((endL (l.take (i + 1)) : Nat) : Int)) := by simp [endsB, h]
theorem endsB_snoc (l : List (List UInt8)) (x : List UInt8) : endsB (l ++ [x]) = endsB l ++ [.int .i64 ((endL (l ++ [x]) : Nat) : Int)] := by
  apply List.ext_getElem?
  intro i
  rcases Nat.lt_trichotomy i l.length with h | rfl | h
  · rw [endsB_get _ _ (by simp; omega), List.getElem?_append_left (by rw [endsB_len]; omega), endsB_get _ _ h, List.take_append_of_le_length (by omega)]
  · rw [endsB_get _ _ (by simp), List.getElem?_append_right (by rw [endsB_len]; omega), endsB_len, Nat.sub_self, List.take_of_length_le (by simp)]; rfl
  · rw [List.getElem?_eq_none (by rw [endsB_len]; simp; omega), List.getElem?_eq_none (by simp [endsB_len]; omega)]
theorem endL_app (l m : List (List UInt8)) : endL (l ++ m) = endL l + endL m := by simp [endL]
theorem endL_le (l : List (List UInt8)) (i : Nat) : endL (l.take i) ≤ endL l := by
  have h := endL_app (l.take i) (l.drop i)
  rw [List.take_append_drop] at h
  omega
/-- What row has laid. -/
structure RowSt (w wr : World) (good : List (List UInt8)) (gs : List Value) (bv gv ev : Value) : Prop where
  each : ∀ x ∈ good, x.length ≤ 8000
  b : wr.ownsRow w.heap.size 5 1 bv (endL good) (bts (flatB good))
  gl : gs.length = good.length
  g : wr.ownsRow w.heap.size 37 1 gv good.length gs
  gr : ∀ (i : Nat) (u : Value) (x : List UInt8), gs[i]? = some u → good[i]? = some x → Rd w (· < w.heap.size) u (bts x)
  e : wr.ownsRow w.heap.size 3 1 ev good.length (endsB good)
  fr : Below w.heap.size w wr
def RowLp (w : World) (l : List (List UInt8)) (bv gv ev iv : Value) (wr : World) : Prop :=
  ∃ (good : List (List UInt8)) (gs : List Value) (i : Nat), iv = .int .i64 i ∧ i ≤ l.length ∧ endL good ≤ 17010 ∧ RowSt w wr good gs bv gv ev
def RowTo (w : World) (e : Ending) (w' : World) : Prop :=
  ∃ (good : List (List UInt8)) (gs : List Value) (bv gv ev : Value), e = .returned (.tuple #[bv, gv, ev]) ∧ endL good ≤ 17010 ∧ RowSt w w' good gs bv gv ev
theorem Try.infoI : (Try.prog.info? 3).map (fun i => (i.zero, i.size, i.bytes)) = some (some (.int .i64 0), 1, 8) := by kernel_rfl
/-- A round that lays one more. -/
theorem RowSt.next {w wr w1 w2 w3 w4 : World} {good : List (List UInt8)} {gs : List Value} {bv gv ev bv' gv' ev' u : Value} {x : List UInt8} {o1 o2 : Obj} (S : RowSt w wr good gs bv gv ev) (hx : x.length ≤ 8000) (hu : Rd w (· < w.heap.size) u (bts x))
    (B1 : Below wr.heap.size wr w1)
    (hb : w2.ownsRow w.heap.size 5 1 bv' (endL (good ++ [x])) (bts (flatB (good ++ [x])))) (gb : w1.grownBy w2 bv.ownBlock)
    (hg : w3.ownsRow w.heap.size 37 1 gv' (good.length + 1) (gs ++ [u])) (gg : (w2.alloc o1).grownBy w3 gv.ownBlock)
    (he : w4.ownsRow w.heap.size 3 1 ev' (good.length + 1) (endsB (good ++ [x]))) (ge : (w3.alloc o2).grownBy w4 ev.ownBlock) : RowSt w w4 (good ++ [x]) (gs ++ [u]) bv' gv' ev' := by
  have hl : (good ++ [x]).length = good.length + 1 := by simp
  have g1 := owns_next S.g B1
  have e1 := owns_next S.e B1
  have b1 := owns_next S.b B1
  have g2 := owns_grown g1 gb fun c h => owns_ne b1 g1 (by decide) c h
  have e2 := owns_grown e1 gb fun c h => owns_ne b1 e1 (by decide) c h
  have e3 := owns_grown (owns_alloc e2 o1) gg fun c h => owns_ne g2 e2 (by decide) c h
  have hb3 := owns_grown (owns_alloc hb o1) gg fun c h => owns_ne g2 hb (by decide) c h
  have hb4 := owns_grown (owns_alloc hb3 o2) ge fun c h => owns_ne e3 hb3 (by decide) c h
  have hg4 := owns_grown (owns_alloc hg o2) ge fun c h => owns_ne e3 hg (by decide) c h
  refine ⟨fun y hy => ?_, hb4, by simp [S.gl], by rw [hl]; exact hg4, fun i v y hv hy => ?_, by rw [hl]; exact he, ?_⟩
  · rcases List.mem_append.1 hy with h | h
    · exact S.each y h
    · obtain rfl : y = x := by simpa using h
      exact hx
  · rcases Nat.lt_trichotomy i gs.length with h | rfl | h
    · rw [List.getElem?_append_left h] at hv
      rw [List.getElem?_append_left (by rw [← S.gl]; exact h)] at hy
      exact S.gr i v y hv hy
    · rw [List.getElem?_append_right (Nat.le_refl _), Nat.sub_self] at hv
      rw [S.gl, List.getElem?_append_right (Nat.le_refl _), Nat.sub_self] at hy
      obtain rfl : u = v := by simpa using hv
      obtain rfl : x = y := by simpa using hy
      exact hu
    · rw [List.getElem?_eq_none (by simp; omega)] at hv; cases hv
  · have F1 := S.fr
    have F2 : Below w.heap.size w w1 := F1.trans (B1.mono F1.size)
    have F3 : Below w.heap.size w w2 := F2.grown gb F2.size fun k hk => owns_base b1 hk
    have F4 : Below w.heap.size w w3 := (F3.alloc F3.size o1).grown gg (by have := F3.size; simp; omega) fun k hk => owns_base g1 hk
    exact (F4.alloc F4.size o2).grown ge (by have := F4.size; simp; omega) fun k hk => owns_base e1 hk
end Go.Proofs.Ytgohnidndjbjiaa
