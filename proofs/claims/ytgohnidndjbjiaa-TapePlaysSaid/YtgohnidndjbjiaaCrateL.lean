/-
  Layer 17: rows of bodies that are read; gangerref00.SameLists at any rows; gangerlaw17.row at any rows.
-/
import Derived.Test.YtgohnidndjbjiaaCrateK
import Derived.Test.YtgohnidndjbjiaaCrateM
import Derived.Test.YtgohnidndjbjiaaCrateY
import Derived.Test.YtgohnidndjbjiaaOpen
import Derived.BigQuiet
namespace Go.Proofs.Ytgohnidndjbjiaa
open Go Go.RowKit Go.Lib
set_option linter.unusedVariables false

/-- v is a row of texts. -/
def RdL (w : World) (v : Value) (xs : List (List UInt8)) : Prop :=
  ∃ vs : List Value, vs.length = xs.length ∧ Rd w (fun _ => True) v vs ∧ ∀ (i : Nat) (u : Value) (x : List UInt8), vs[i]? = some u → xs[i]? = some x → Rd w (fun _ => True) u (bts x)
theorem RdL.kept {w w1 : World} {v : Value} {xs : List (List UInt8)} (h : RdL w v xs) (f : Below w.heap.size w w1) : RdL w1 v xs := by
  obtain ⟨vs, h1, h2, h3⟩ := h
  exact ⟨vs, h1, h2.kept f, fun i u x hu hx => (h3 i u x hu hx).kept f⟩
theorem RdL.form {w : World} {v : Value} {xs : List (List UInt8)} (h : RdL w v xs) : ∃ A c, v = .slice A xs.length c ∧ xs.length ≤ c ∧ c ≤ maxLen := by
  obtain ⟨vs, h1, ⟨A, c, h2, h3, h4, _⟩, _⟩ := h
  rw [h1] at h2 h3
  exact ⟨A, c, h2, h3, h4⟩
theorem RdL.at_ {w : World} {A : Option Addr} {n c : Nat} {xs : List (List UInt8)} (h : RdL w (.slice A n c) xs) {k : Nat} (hk : k < xs.length) : ∃ b off u, A = some ⟨b, off, none⟩ ∧ w.cell? ⟨b, off + k, none⟩ = some u ∧ Rd w (fun _ => True) u (bts (xs[k]'hk)) := by
  obtain ⟨vs, h1, ⟨A', c', h2, h3, h4, h5⟩, h6⟩ := h
  injection h2 with h2 _ _
  subst h2
  obtain ⟨b, off, rfl, _, _, hc⟩ := h5 (by omega)
  have hv : vs[k]? = some (vs[k]'(by omega)) := List.getElem?_eq_getElem _
  exact ⟨b, off, _, rfl, hc k _ hv, h6 k _ _ hv (List.getElem?_eq_getElem _)⟩
theorem RdL.take {w : World} {A : Option Addr} {c : Nat} {xs : List (List UInt8)} (h : RdL w (.slice A xs.length c) xs) (n : Nat) (hn : n ≤ xs.length) : RdL w (.slice A n c) (xs.take n) := by
  obtain ⟨vs, h1, ⟨A', c', h2, h3, h4, h5⟩, h6⟩ := h
  injection h2 with h2 _ h2'
  subst h2 h2'
  refine ⟨vs.take n, by simp [h1], ⟨A, c, by rw [List.length_take, h1, Nat.min_eq_left hn], by rw [List.length_take]; omega, h4, fun h0 => ?_⟩, fun i u x hu hx => ?_⟩
  · rw [List.length_take] at h0
    obtain ⟨b, off, e, _, hl, hc⟩ := h5 (by omega)
    exact ⟨b, off, e, trivial, hl, fun j u hj => hc j u (by
      have := (List.getElem?_eq_some_iff.1 hj).1
      rw [List.length_take] at this
      rw [List.getElem?_take_of_lt (by omega)] at hj; exact hj)⟩
  · have hi := (List.getElem?_eq_some_iff.1 hu).1
    rw [List.length_take] at hi
    rw [List.getElem?_take_of_lt (by omega)] at hu hx
    exact h6 i u x hu hx
theorem RdL.of_row {w : World} {v : Value} {l : List (List UInt8)} (h : RowOf w 1 (fun cs (xs : List UInt8) => ∃ v, cs = [v] ∧ Rd w (· < w.heap.size) v (bts xs)) v l) : RdL w v l := by
  obtain ⟨A, c, rfl, h1, h2, h3⟩ := h
  rcases Nat.eq_zero_or_pos l.length with h0 | h0
  · obtain rfl : l = [] := List.eq_nil_of_length_eq_zero h0
    exact ⟨[], rfl, ⟨A, c, rfl, h1, h2, fun h => absurd h (by simp)⟩, fun i u x hu => by simp at hu⟩
  · obtain ⟨b, off, rfl, hb, hi⟩ := h3 h0
    obtain ⟨vs, hl, hv⟩ := list_of (α := Value) (p := fun i u => ∃ x, l[i]? = some x ∧ Rd w (· < w.heap.size) u (bts x) ∧ w.cell? ⟨b, off + i, none⟩ = some u) l.length fun i hil => by
      obtain ⟨cs, ⟨u, rfl, hR⟩, _, hc⟩ := hi i (l[i]'hil) (List.getElem?_eq_getElem hil)
      have := hc 0 (by decide)
      rw [Nat.mul_one, Nat.add_zero] at this
      exact ⟨u, _, List.getElem?_eq_getElem hil, hR, this⟩
    refine ⟨vs, hl, ⟨_, c, by rw [hl], by rw [hl]; exact h1, h2, fun _ => ⟨b, off, rfl, trivial, hb, fun j u hj => ?_⟩⟩, fun i u x hu hx => ?_⟩
    · obtain ⟨_, _, _, h⟩ := hv j u hj; exact h
    · obtain ⟨x', hx', hR, _⟩ := hv i u hu
      rw [hx] at hx'
      obtain rfl : x = x' := by injection hx'
      exact hR.mono fun _ _ _ => trivial
theorem RdL.of_bods {w : World} {base b2 : Nat} {v : Value} {vs : List Value} {xs : List (List UInt8)} (ho : w.ownsRow b2 37 1 v vs.length vs) (h : Bods w base vs xs) : RdL w v xs :=
  ⟨vs, h.len, Rd.of_owns ho fun _ _ => trivial, fun i u x hu hx => Rd.of_owns (by have := h.own i u x hu hx; rwa [← bts_len x] at this) fun _ _ => trivial⟩
theorem conv_drew {w : World} {K : Nat → Prop} {v : Value} {xs : List UInt8} (h : Rd w K v (bts xs)) (q : Nat) :
    (convert 37 9 v).run Try.prog (w.drewN q) = .ok (.string (str xs)) (w.drewN q) :=
  conv_bts (h.fr ((Fr.refl (fun _ => False) w).drewN q) fun _ _ _ h => h) 9 Try.underlying9
def SmLp (w : World) (xs ys : List (List UInt8)) (i : Value) (wr : World) : Prop := ∃ k : Nat, i = .int .i64 k ∧ k ≤ xs.length ∧ xs.take k = ys.take k ∧ ∃ q, wr = w.drewN q
set_option maxRecDepth 100000 in
theorem sameLists_any {w : World} {v1 v2 : Value} {xs ys : List (List UInt8)} (h1 : RdL w v1 xs) (h2 : RdL w v2 ys) :
    Calls Try.prog 14 #[v1, v2] w fun e w' => e = .returned (.bool (xs == ys)) ∧ ∃ n, w' = w.drewN n := by
  obtain ⟨A, c, rfl, hc1, hc2⟩ := h1.form
  obtain ⟨B, d, rfl, hd1, hd2⟩ := h2.form
  have H1 := Lib.hid h1
  have H2 := Lib.hid h2
  clear h1 h2
  unfold maxLen at hc2 hd2
  by_cases hl : xs.length = ys.length
  · have HL := Lib.hid hl
    have t1 : ((xs.length : Int) != (ys.length : Int)) = false := by rw [hl]; simp
    clear hl
    go_enter Try.func14, Try.ntmps14
    go_wp2_with fail
    go_loopw [5] (SmLp w xs ys) (fun i _ => xs.length - (RowKit.intOf i).toNat)
    case atStart => exact ⟨0, rfl, Nat.zero_le _, rfl, 0, rfl⟩
    case round =>
      obtain ⟨k, rfl, hk, htk, q, rfl⟩ := hrel
      have HT := Lib.hid htk
      clear htk
      by_cases hlt : k < xs.length
      · have hlt2 : k < ys.length := by rw [← HL.out]; exact hlt
        have t2 : decide ((k : Int) < xs.length) = true := decide_eq_true (by omega)
        have t3 : decide (k < xs.length) = true := decide_eq_true hlt
        obtain ⟨b1, o1, u1, rfl, c1, r1⟩ := H1.out.at_ hlt
        obtain ⟨b2, o2, u2, rfl, c2, r2⟩ := H2.out.at_ hlt2
        have e1 : ∀ q, (convert 37 9 u1).run Try.prog (w.drewN q) = .ok (.string (str xs[k])) (w.drewN q) := conv_drew r1
        have e2 : ∀ q, (convert 37 9 u2).run Try.prog (w.drewN q) = .ok (.string (str ys[k])) (w.drewN q) := conv_drew r2
        have HS : Hid (∀ e : xs[k] = ys[k], xs.take (k + 1) = ys.take (k + 1)) := fun e => by
          rw [List.take_succ_eq_append_getElem hlt, List.take_succ_eq_append_getElem hlt2, HT.out, e]
        have HN : Hid (xs[k] ≠ ys[k] → (xs == ys) = false) := fun hne => by
          refine beq_eq_false_iff_ne.2 fun e => hne ?_
          subst e; rfl
        have l1 := str_list xs[k]
        have l2 := str_list ys[k]
        generalize xs[k] = x at *
        generalize ys[k] = y at *
        clear r1 r2
        by_cases hxy : x = y
        · have HX := Lib.hid (HS.out hxy)
          have t4 : ((str x).toList == (str y).toList) = true := by rw [hxy]; simp
          clear hxy l1 l2 HS HN
          generalize str x = s1 at *
          generalize str y = s2 at *
          go_wp2_with fail
          go_quiet (fail)
          go_wp2_with fail
          go_roundw
          case rel => exact ⟨k + 1, by go_num, hlt, HX.out, _, rfl⟩
          case measure => simp [RowKit.intOf]; omega
        · have HX := Lib.hid (HN.out hxy)
          have t4 : ((str x).toList == (str y).toList) = false := by rw [l1, l2]; exact beq_eq_false_iff_ne.2 hxy
          clear hxy l1 l2 HS HN
          generalize str x = s1 at *
          generalize str y = s2 at *
          go_wp2_with fail
          go_quiet (fail)
          go_wp2_with fail
          go_returns
          exact ⟨by rw [HX.out]; rfl, q + _, by first | rfl | exact World.drewN_drewN _ _ _ | simp⟩
      · have t2 : decide ((k : Int) < xs.length) = false := decide_eq_false (by omega)
        have t3 : decide (k < xs.length) = false := decide_eq_false hlt
        have HX : Hid ((xs == ys) = true) := by
          have h := HT.out
          have hk' : k = xs.length := by omega
          rw [hk', List.take_length, HL.out, List.take_length] at h
          rw [h]; simp [Hid]
        go_wp2_with fail
        go_returns
        exact ⟨by rw [HX.out]; rfl, _, rfl⟩
  · have t1 : ((xs.length : Int) != (ys.length : Int)) = true := bne_iff_ne.2 (by omega)
    have HX : Hid ((xs == ys) = false) := beq_eq_false_iff_ne.2 fun e => hl (by rw [e])
    clear hl
    go_enter Try.func14, Try.ntmps14
    go_wp2_with fail
    go_returns
    exact ⟨by rw [HX.out]; rfl, 0, rfl⟩
end Go.Proofs.Ytgohnidndjbjiaa
