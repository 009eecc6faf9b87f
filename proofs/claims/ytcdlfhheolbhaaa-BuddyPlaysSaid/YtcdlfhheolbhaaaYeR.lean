/-
  A yard on which some acts were done.
-/
import Derived.Test.YtcdlfhheolbhaaaYeQ
namespace Go.Proofs.Ytcdlfhheolbhaaa
open Go Go.RowKit Go.Lib
set_option linter.unusedVariables false

/-- The acts, one behind the other. -/
inductive ActsR (n : Nat) : List Ac → List Bk → List Nat → Prop
  | nil : ActsR n [] [] []
  | snoc {l : List Ac} {tk tk' : List Bk} {fl fl' : List Nat} {x : Ac} {r er : Int} (h : ActsR n l tk fl) (hx : ActR n tk fl x r er tk' fl') : ActsR n (l ++ [x]) tk' fl'
def YardPost (l : List Ac) (w : World) (e : Ending) (w' : World) : Prop :=
  ∃ (g : Nat) (tk : List Bk) (fl : List Nat), e = .returned (.pointer (some ⟨g, 0, none⟩)) ∧ ActsR 5 (l.take 60) tk fl ∧ YS w' g (fun k => w.heap.size ≤ k) 5 tk fl ∧ Below w.heap.size w w'
theorem take_ac {l : List Ac} {k : Nat} (h : k < l.length) : l.take (k + 1) = l.take k ++ [l[k]] := by rw [List.take_add_one, List.getElem?_eq_getElem h]; rfl
set_option maxHeartbeats 4000000 in
theorem yard_any (v : Value) (l : List Ac) (w : World) (hm : l.length ≤ maxLen) (h : ARow w v l) :
    Calls Try.prog 31 #[v] w fun e w' => YardPost l w e w' := by
  have N := Lib.hid (New_any 5 w)
  unfold maxLen at hm
  obtain ⟨va, vc, hv⟩ := h.slice
  subst hv
  have HR := Lib.hid h
  clear h
  go_enter Try.func31, Try.ntmps31
  go_wp2_with fail
  refine N.out.mono ?_; rintro e w1 (⟨n, g, hq, hn, rfl, hY, hb⟩ | ⟨hq, rfl, hw⟩)
  · obtain rfl : n = 5 := by omega
    have HB := Lib.hid hb
    have HY := Lib.hid hY
    clear hq hn hb hY N
    go_wp2_with fail
    go_loopw [5] (fun i wr => ∃ (k : Nat) (tk : List Bk) (fl : List Nat), k ≤ l.length ∧ k ≤ 60 ∧ i = .int .i64 k ∧ Hid (ActsR 5 (l.take k) tk fl) ∧ Hid (YS wr g (fun k => w.heap.size ≤ k) 5 tk fl) ∧ Hid (Below w.heap.size w wr)) (fun i _ => l.length - (RowKit.intOf i).toNat)
    case atStart => exact ⟨0, [], [], Nat.zero_le _, by omega, rfl, .nil, HY, HB⟩
    case round =>
      obtain ⟨k, tk, fl, hk, hk60, rfl, HA, HYr, HBr⟩ := hrel
      by_cases hlt : k < l.length
      · have hlt' : decide (k < l.length) = true := decide_eq_true hlt
        have hlti : (k : Int) < (l.length : Int) := by omega
        by_cases h60 : (k : Int) < 60
        · have hd : decide ((k : Int) < 60) = true := decide_eq_true h60
          rcases HR.out with ⟨h0, _⟩ | ⟨bb, off, c, hv, _, hc⟩
          · rw [h0] at hlt; simp at hlt
          · have hva : va = some ⟨bb, off, none⟩ := by injection hv
            subst hva
            obtain ⟨c0, c1, c2⟩ := (hc.kept HBr.out) k hlt
            obtain ⟨x, hx⟩ : ∃ x, x = l[k] := ⟨_, rfl⟩
            have HX := Lib.hid hx
            rw [← hx] at c0 c1 c2
            obtain ⟨x1, x2, x3⟩ := x
            dsimp only at c0 c1 c2
            have AC := Lib.hid (act_any g _ 5 tk fl x1 x2 x3 wr HYr.out)
            clear hc hv hx
            go_wp2_with fail
            refine AC.out.mono ?_; rintro e w2 ⟨r, er, tk', fl', rfl, hR, hY2, hC2⟩
            have HA2 : Hid (ActsR 5 (l.take (k + 1)) tk' fl') := by unfold Hid; rw [take_ac hlt, ← HX.out]; exact .snoc HA.out hR
            have HY2 := Lib.hid hY2
            have HB2 : Hid (Below w.heap.size w w2) := HBr.out.trans (hC2.to_below HBr.out.size fun k hk h => by omega)
            clear hR hY2 hC2
            go_wp2_with fail
            go_roundw
            case rel => exact ⟨k + 1, tk', fl', hlt, by omega, by go_num, HA2, HY2, HB2⟩
            case measure => simp [RowKit.intOf]; omega
        · have hd : decide ((k : Int) < 60) = false := decide_eq_false h60
          have HE : Hid (l.take 60 = l.take k) := by unfold Hid; rw [show k = 60 by omega]
          go_wp2_with fail
          go_returns
          exact ⟨g, tk, fl, rfl, by rw [HE.out]; exact HA.out, HYr.out, HBr.out⟩
      · have hlt' : decide (k < l.length) = false := decide_eq_false hlt
        have hlti : ¬ ((k : Int) < (l.length : Int)) := by omega
        have HE : Hid (l.take 60 = l.take k) := by unfold Hid; rw [List.take_of_length_le (by omega), List.take_of_length_le (by omega)]
        have hkl : k = l.length := by omega
        have HKL := Lib.hid hkl
        clear hkl
        go_wp2_with fail
        go_returns
        exact ⟨g, tk, fl, rfl, by rw [HE.out]; exact HA.out, HYr.out, HBr.out⟩
  · exact absurd ⟨by omega, by omega⟩ hq
theorem grow_of_ints {w : World} {v : Value} {zs : List Int} (h : IntsArg w .i64 v zs) : GRow w v zs := by
  rcases h with ⟨rfl, a, c, rfl⟩ | ⟨b, off, c, rfl, h0, _, hb, hc, _⟩
  · exact .inl ⟨rfl, a, c, rfl⟩
  · exact .inr ⟨b, off, c, rfl, hc⟩
end Go.Proofs.Ytcdlfhheolbhaaa
