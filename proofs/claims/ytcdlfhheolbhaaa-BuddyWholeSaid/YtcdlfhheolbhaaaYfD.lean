/-
  A yard that is not there: what each call says.
-/
import Derived.Test.YtcdlfhheolbhaaaYfC
namespace Go.Proofs.Ytcdlfhheolbhaaa
open Go Go.RowKit Go.Lib
set_option linter.unusedVariables false

theorem Order_nil (w : World) : Calls Try.prog 14 #[.pointer none] w fun e w' => e = .returned (.int .i64 0) ∧ w' = w := by
  go_enter Try.func14, Try.ntmps14
  go_wp2_with fail
  go_ret
  exact ⟨rfl, rfl⟩
theorem Take_nil (q : Int) (w : World) : Calls Try.prog 32 #[.pointer none, .int .i64 q] w fun e w' => e = .returned (.tuple #[.int .i64 0, .int .i64 1]) ∧ Below w.heap.size w w' := by
  go_enter Try.func32, Try.ntmps32
  go_wp2_with fail
  go_returns
  exact ⟨rfl, by first | exact Below.refl _ _ | go_grown⟩
theorem TakeAt_nil (S O : Int) (w : World) : Calls Try.prog 36 #[.pointer none, .agg #[.int .i64 S, .int .i64 O]] w fun e w' => e = .returned (.int .i64 1) ∧ Below w.heap.size w w' := by
  go_enter Try.func36, Try.ntmps36
  go_wp2_with fail
  go_returns
  exact ⟨rfl, by first | exact Below.refl _ _ | go_grown⟩
theorem Give_nil (q : Int) (w : World) : Calls Try.prog 33 #[.pointer none, .int .i64 q] w fun e w' => e = .returned (.int .i64 1) ∧ Below w.heap.size w w' := by
  go_enter Try.func33, Try.ntmps33
  go_wp2_with fail
  go_returns
  exact ⟨rfl, by first | exact Below.refl _ _ | go_grown⟩
theorem Fail_nil (q : Int) (w : World) : Calls Try.prog 34 #[.pointer none, .int .i64 q] w fun e w' => e = .returned (.int .i64 1) ∧ Below w.heap.size w w' := by
  go_enter Try.func34, Try.ntmps34
  go_wp2_with fail
  go_returns
  exact ⟨rfl, by first | exact Below.refl _ _ | go_grown⟩
theorem Heal_nil (q : Int) (w : World) : Calls Try.prog 35 #[.pointer none, .int .i64 q] w fun e w' => e = .returned (.int .i64 1) ∧ Below w.heap.size w w' := by
  go_enter Try.func35, Try.ntmps35
  go_wp2_with fail
  go_returns
  exact ⟨rfl, by first | exact Below.refl _ _ | go_grown⟩
theorem Held_nil (q : Int) (w : World) : Calls Try.prog 25 #[.pointer none, .int .i64 q] w fun e w' => e = .returned (.tuple #[.agg #[.int .i64 0, .int .i64 0], .bool false]) ∧ Below w.heap.size w w' := by
  go_enter Try.func25, Try.ntmps25
  go_wp2_with fail
  go_returns
  exact ⟨rfl, by first | exact Below.refl _ _ | go_grown⟩
theorem Failed_nil (w : World) : Calls Try.prog 19 #[.pointer none] w fun e w' => e = .returned (.slice none 0 0) ∧ Below w.heap.size w w' := by
  go_enter Try.func19, Try.ntmps19
  go_wp2_with fail
  go_returns
  exact ⟨rfl, by first | exact Below.refl _ _ | go_grown⟩
theorem Free_nil (w : World) : Calls Try.prog 17 #[.pointer none] w fun e w' => e = .returned (.slice none 0 0) ∧ Below w.heap.size w w' := by
  go_enter Try.func17, Try.ntmps17
  go_wp2_with fail
  go_returns
  exact ⟨rfl, by first | exact Below.refl _ _ | go_grown⟩
theorem Taken_nil (w : World) : Calls Try.prog 18 #[.pointer none] w fun e w' => e = .returned (.slice none 0 0) ∧ Below w.heap.size w w' := by
  go_enter Try.func18, Try.ntmps18
  go_wp2_with fail
  go_returns
  exact ⟨rfl, by first | exact Below.refl _ _ | go_grown⟩
theorem Fits_nil (q : Int) (w : World) : Calls Try.prog 27 #[.pointer none, .int .i64 q] w fun e w' => e = .returned (.bool false) ∧ Below w.heap.size w w' := by
  go_enter Try.func27, Try.ntmps27
  go_wp2_with fail
  go_returns
  exact ⟨rfl, by first | exact Below.refl _ _ | go_grown⟩
theorem Would_nil (q : Int) (v : Value) (w : World) : Calls Try.prog 29 #[.pointer none, .int .i64 q, v] w fun e w' => e = .returned (.bool false) ∧ Below w.heap.size w w' := by
  go_enter Try.func29, Try.ntmps29
  go_wp2_with fail
  go_returns
  exact ⟨rfl, by first | exact Below.refl _ _ | go_grown⟩

/-! A block whose workers are all free lies in a free block. -/
theorem in_free {n o s : Nat} {op : Opn} (ho : o ≤ n) (hs : s % 2 ^ o = 0) (hb : s + 2 ^ o ≤ 2 ^ n) : allB op o s ↔ ∃ b ∈ freeL n op, b.1 ≤ s ∧ s + 2 ^ o ≤ b.1 + 2 ^ b.2 := by
  constructor
  · intro h
    obtain ⟨o', s', h1, h2, h3⟩ := isF_around (n := n) (n - o) (by omega) hs hb h
    obtain ⟨h4, h5⟩ := nest h1 hs h2.2.1 (inB_self o s) (h3 s (inB_self o s))
    exact ⟨(s', o'), freeL_mem.2 h2, h4, h5⟩
  · rintro ⟨b, hb, h1, h2⟩ x ⟨h3, h4⟩
    exact (freeL_mem.1 hb).2.2.2.1 x ⟨by omega, by omega⟩
def insideB (F : List Bk) (s o : Nat) : Bool := F.any fun b => decide (b.1 ≤ s ∧ s + 2 ^ o ≤ b.1 + 2 ^ b.2)
theorem insideB_take {F : List Bk} {s o k : Nat} (h : k < F.length) : insideB (F.take (k + 1)) s o = (insideB (F.take k) s o || decide ((F[k]).1 ≤ s ∧ s + 2 ^ o ≤ (F[k]).1 + 2 ^ (F[k]).2)) := by
  have e : F.take (k + 1) = F.take k ++ [F[k]] := by rw [List.take_add_one, List.getElem?_eq_getElem h]; rfl
  rw [e]
  unfold insideB
  rw [List.any_append, List.any_cons, List.any_nil, Bool.or_false]
theorem insideB_free {n o s : Nat} {op : Opn} (ho : o ≤ n) (hs : s % 2 ^ o = 0) (hb : s + 2 ^ o ≤ 2 ^ n) : insideB (freeL n op) s o = true ↔ allB op o s := by
  rw [in_free ho hs hb]
  unfold insideB
  rw [List.any_eq_true]
  exact ⟨fun ⟨b, h1, h2⟩ => ⟨b, h1, of_decide_eq_true h2⟩, fun ⟨b, h1, h2⟩ => ⟨b, h1, decide_eq_true h2⟩⟩

/-! Two yards. -/
theorem YI.over {w w' : World} {b n : Nat} {own own' : Nat → Prop} {op : Opn} {tk : List Bk} {fl : List Nat} (h : YI w b own n op tk fl) (hb : Below w.heap.size w w') (h1 : ∀ k, k < w.heap.size → own k → own' k) (h2 : ∀ k, w'.heap.size ≤ k → own' k) : YI w' b own' n op tk fl := by
  obtain ⟨cs, q1, q2, q3⟩ := h
  have k3 := q1.kept hb
  refine ⟨cs, ⟨k3.blk, k3.sz, h1 b q1.blk.lt q1.bown, h2, k3.row, fun j u g j1 j2 hu hub => ?_, k3.apart⟩, q2, q3⟩
  obtain ⟨u', m, hu', ho⟩ := q1.row j j1 j2
  rw [hu] at hu'; cases hu'
  exact ⟨h1 g (ho.lt g hub).2 (q1.ob j u g j1 j2 hu hub).1, (q1.ob j u g j1 j2 hu hub).2⟩
theorem YS.over {w w' : World} {b n : Nat} {own own' : Nat → Prop} {tk : List Bk} {fl : List Nat} (h : YS w b own n tk fl) (hb : Below w.heap.size w w') (h1 : ∀ k, k < w.heap.size → own k → own' k) (h2 : ∀ k, w'.heap.size ≤ k → own' k) : YS w' b own' n tk fl := ⟨h.1, h.2.over hb h1 h2⟩
theorem YI.stays {w w' : World} {b n : Nat} {own own' : Nat → Prop} {op : Opn} {tk : List Bk} {fl : List Nat} (h : YI w b own n op tk fl) (hc : Chg own' w w') (ho : ∀ k, k < w.heap.size → own k → ¬ own' k) (hn : ∀ k, w'.heap.size ≤ k → own k) : YI w' b own n op tk fl := by
  obtain ⟨cs, q1, q2, q3⟩ := h
  refine ⟨cs, ⟨?_, q1.sz, q1.bown, hn, fun j j1 j2 => ?_, q1.ob, q1.apart⟩, q2, q3⟩
  · have := q1.blk
    unfold Blk at *
    rw [hc.block b q1.blk.lt (ho b q1.blk.lt q1.bown)]; exact this
  · obtain ⟨u, m, hu, hw⟩ := q1.row j j1 j2
    refine ⟨u, m, hu, hw.1, ?_⟩
    rcases hw.2 with e | ⟨g, cap, cur, e, hb, hg, rest⟩
    · exact .inl e
    · have hgl := (Array.getElem?_eq_some_iff.1 hg).1
      exact .inr ⟨g, cap, cur, e, hb, by rw [hc.block g hgl (ho g hgl (q1.ob j u g j1 j2 hu (by rw [e]; rfl)).1)]; exact hg, rest⟩
end Go.Proofs.Ytcdlfhheolbhaaa
