/-
  gangerref00.Own at any rows of bytes, each in a block of its own: true.
-/
import Derived.Test.YtbgdhmacpgnfeaaOwnB
namespace Go.Proofs.Ytbgdhmacpgnfeaa
open Go.ChangeShapes Go.WideShapes Go.ChangeAt Go.RowKit Go.Lib Go.Sort Go.Maps
set_option linter.unusedVariables false

theorem owns_shape {w : World} {base n : Nat} {e : TypeId} {v : Value} {xs : List Value} (h : w.ownsRow base e 1 v n xs) : ∃ a c, v = .slice a n c := by
  rcases h.2 with ⟨rfl, rfl⟩ | ⟨g, cap, cur, rfl, _⟩
  · exact ⟨_, _, rfl⟩
  · exact ⟨_, _, rfl⟩

/-- Where loop 1 stands. -/
structure Fill1 (base : Nat) (vs : BRows) (L : Nat) (w : World) (m j0 : Nat) (wr : World) : Prop where
  st : FillSt base vs m j0 wr
  head : HeadAt wr L vs
  below : Below base w wr

theorem Fill2.ovKept {base : Nat} {vs : BRows} {L : Nat} {w w1 wr : World} {m i n : Nat} {ov v : Value} {outs : List Value} (h : Fill2 base vs L w m ov outs w1) (g : w1.grownBy wr v.ownBlock) (hv : vs[i]? = some (v, n)) :
    wr.ownsRow base 22 1 ov m outs := by
  refine h.own.kept g ?_
  rcases h.ovA i v n hv with q | q
  · rw [q]; cases ov.ownBlock <;> simp
  · exact .inr fun e => q e.symm

/-- What loop 3 reads. -/
theorem Fill2.reads {base : Nat} {vs : BRows} {L : Nat} {w wr : World} {ov : Value} {outs : List Value} (h : Fill2 base vs L w vs.length ov outs wr) {r n : Nat} {v : Value} (hv : vs[r]? = some (v, n)) (hr : r < vs.length) :
    wr.cell? ⟨L, r, none⟩ = some v ∧ (∀ j, j < n → ∃ g c, v = .slice (some ⟨g, 0, none⟩) n c ∧ wr.cell? ⟨g, j, none⟩ = some (.int .u8 (fillB r j))) ∧
    ∃ og oc hg hc, ov = .slice (some ⟨og, 0, none⟩) vs.length oc ∧ wr.cell? ⟨og, r, none⟩ = some (.slice (some ⟨hg, 0, none⟩) (n + 4) hc) ∧ ∀ t, t < 4 → wr.cell? ⟨hg, n + t, none⟩ = some (.int .u8 (tailB r t)) := by
  refine ⟨h.head.cellOf hv, fun j hj => ?_, ?_⟩
  · obtain ⟨xs, hx, hf⟩ := h.st r v n hv
    obtain ⟨g, c, cur, rfl, _⟩ := owns_pos hx (by omega)
    have hl : xs.length = n := by have := hx.1; simpa [cellsB] using this
    refine ⟨g, c, rfl, ?_⟩
    rw [hx.cellAt j (by omega)]
    have := hf j hj (.inl hr)
    simp [cellsB, this]
  · have hol : outs.length = vs.length := by have := h.own.1; simpa using this
    obtain ⟨og, oc, cur, rfl, _⟩ := owns_pos h.own (by omega)
    obtain ⟨o, ho⟩ : ∃ o, outs[r]? = some o := ⟨_, List.getElem?_eq_getElem (by omega)⟩
    obtain ⟨zs, hz, hzt, _⟩ := h.outR r o v n ho hv
    obtain ⟨hg, hc, cur', rfl, _⟩ := owns_pos hz (by omega)
    refine ⟨og, oc, hg, hc, rfl, by rw [h.own.cellAt r (by omega)]; exact ho, fun t ht => ?_⟩
    rw [hz.cellAt (n + t) (by omega)]
    simp [cellsB, hzt t ht]

theorem Try.infoBytes : (Try.prog.info? 22).map (fun i => (i.zero, i.size, i.bytes)) = some (some (.slice none 0 0), 1, 24) := by kernel_rfl

theorem Fill1.cellL {base : Nat} {vs : BRows} {L : Nat} {w wr : World} {m j0 : Nat} (h : Fill1 base vs L w m j0 wr) {i n : Nat} {v : Value} (hi : vs[i]? = some (v, n)) : wr.cell? ⟨L, i, none⟩ = some v := by
  exact h.head.cellOf hi
theorem Fill1.step {base : Nat} {vs : BRows} {L : Nat} {w wr : World} {m j0 n : Nat} {v : Value} (A : OwnArg base vs L w) (h : Fill1 base vs L w m j0 wr) (hm : vs[m]? = some (v, n)) (hj : j0 < n) :
    ∃ g cap u, v = .slice (some ⟨g, 0, none⟩) n cap ∧ base ≤ g ∧ wr.cell? ⟨g, j0, none⟩ = some u ∧ wr.frozen? ⟨g, j0, none⟩ = false ∧
      ∀ b, b = fillB m j0 → Fill1 base vs L w m (j0 + 1) (wr.setCell ⟨g, j0, none⟩ (.int .u8 b)) := by
  obtain ⟨g, cap, u, rfl, hb, hc, hf, hs⟩ := h.st.step A.apart hm hj
  refine ⟨g, cap, u, rfl, hb, hc, hf, fun b hbe => ⟨(hs b hbe).1, ?_, h.below.setCell hb _⟩⟩
  refine h.head.other ?_ _
  have := A.away m _ n hm
  simp [Value.ownBlock] at this
  exact fun e => this e.symm

set_option maxRecDepth 100000 in
set_option maxHeartbeats 2000000 in
theorem own_cap (base L cap : Nat) (vs : BRows) (w : World) (A : OwnArg base vs L w) :
    Calls Try.prog 18 #[.slice (some ⟨L, 0, none⟩) vs.length cap] w fun e w' => e = .returned (.bool true) ∧ Below base w w' := by
  obtain ⟨ti, hi, hz0, hz1, hz2⟩ := info_parts Try.infoByte
  obtain ⟨tj, hi', hz0', hz1', hz2'⟩ := info_parts Try.infoBytes
  have F0 : Hid (Fill1 base vs L w 0 0 w) := ⟨FillSt.zero A.rows, A.head, Below.refl _ _⟩
  have HA := Lib.hid A
  have hk : vs.length ≤ 1000 := A.few
  clear A
  generalize hke : vs.length = k at hk ⊢
  have HK := Lib.hid hke
  clear hke
  go_enter Try.func18, Try.ntmps18
  go_wp2_with fail
  go_loopw [4] (fun i wr => ∃ m : Nat, m ≤ k ∧ i = .int .i64 m ∧ Fill1 base vs L w m 0 wr) (fun i _ => k - (RowKit.intOf i).toNat)
  case atStart => exact ⟨0, Nat.zero_le _, rfl, F0.out⟩
  case round =>
    obtain ⟨m, hm, rfl, hF⟩ := hrel
    have HF := Lib.hid hF
    clear hF
    by_cases hlt : m < k
    · have hge : decide ((m : Int) < (k : Int)) = true := decide_eq_true (by omega)
      obtain ⟨⟨v, n⟩, hv⟩ : ∃ x, vs[m]? = some x := ⟨_, List.getElem?_eq_getElem (by rw [HK.out]; exact hlt)⟩
      have hn : n ≤ 1000000 := HA.out.short m v n hv
      obtain ⟨a, c, hsh⟩ : ∃ a c, v = .slice a n c := by
        obtain ⟨xs, hx, _⟩ := HF.out.st m v n hv
        exact owns_shape hx
      subst hsh
      have HV := Lib.hid hv
      clear hv
      go_wp2_with fail
      go_loopw [5] (fun j wr2 => ∃ j0 : Nat, j0 ≤ n ∧ j = .int .i64 j0 ∧ Fill1 base vs L w m j0 wr2) (fun j _ => n - (RowKit.intOf j).toNat)
      case atStart => exact ⟨0, Nat.zero_le _, rfl, HF.out⟩
      case round =>
        obtain ⟨j0, hj, rfl, hF2⟩ := hrel
        have HF2 := Lib.hid hF2
        clear hF2
        have cL := HF2.out.cellL HV.out
        by_cases hlt2 : j0 < n
        · have hge2 : decide ((j0 : Int) < (n : Int)) = true := decide_eq_true (by omega)
          obtain ⟨g, cap, u, hsv, hbg, hcg, hfg, hst⟩ := HF2.out.step HA.out HV.out hlt2
          cases hsv
          have HS := Lib.hid hst
          clear hst
          have hq : (j0 : Int).tmod 7 = (j0 : Int) % 7 := Int.tmod_eq_emod_of_nonneg (by omega)
          go_wp2_with fail
          go_roundw
          case rel => exact ⟨j0 + 1, hlt2, by simp, HS.out _ (by unfold fillB; push_cast; rfl)⟩
          case measure => simp [RowKit.intOf]; omega
        · obtain rfl : j0 = n := by omega
          have hge2 : decide ((j0 : Int) < (j0 : Int)) = false := decide_eq_false (by omega)
          go_wp2_with fail
          go_roundw
          case rel => exact ⟨m + 1, hlt, by simp, ⟨HF2.out.st.next HV.out, HF2.out.head, HF2.out.below⟩⟩
          case measure => simp [RowKit.intOf]; omega
    · obtain rfl : m = k := by omega
      have hge : decide ((m : Int) < (m : Int)) = false := decide_eq_false (by omega)
      have HB : Hid (base ≤ wr.heap.size) := Nat.le_trans HA.out.base HF.out.below.size
      have F2 : Hid (Fill2 base vs L w 0 (.slice none 0 0) [] wr) := by
        refine ⟨?_, HF.out.head, World.ownsRow_nil _ _ _ _, HF.out.below, ?_, by simp [Value.ownBlock], by simp⟩
        · rw [HK.out]; exact HF.out.st
        · intro i v n hi; cases hv : v.ownBlock <;> simp [Value.ownBlock]
      clear hm hlt
      go_wp2_with fail
      go_loopw [3, 6] (fun ov i wr2 => ∃ i0 : Nat, i0 ≤ m ∧ i = .int .i64 i0 ∧ ∃ outs, Fill2 base vs L w i0 ov outs wr2) (fun _ i _ => m - (RowKit.intOf i).toNat)
      case atStart => exact ⟨0, Nat.zero_le _, rfl, _, F2.out⟩
      case round =>
        obtain ⟨i0, hm, rfl, outs, hF2⟩ := hrel
        have HF2 := Lib.hid hF2
        clear hF2
        by_cases hlt : i0 < m
        · have hge3 : decide ((i0 : Int) < (m : Int)) = true := decide_eq_true (by omega)
          obtain ⟨⟨v, n⟩, hv⟩ : ∃ x, vs[i0]? = some x := ⟨_, List.getElem?_eq_getElem (by rw [HK.out]; exact hlt)⟩
          have hn : n ≤ 1000000 := HA.out.short i0 v n hv
          obtain ⟨xs, hxs, hxf⟩ := HF2.out.st i0 v n hv
          have HX := Lib.hid hxs
          have HXF : Hid (∀ j, j < n → xs[j]? = some (fillB i0 j)) := fun j hj => hxf j hj (.inl (by rw [HK.out]; exact hlt))
          clear hxs hxf
          have cL : wr.cell? ⟨L, i0, none⟩ = some v := HF2.out.head.cellOf hv
          have HV := Lib.hid hv
          clear hv
          have HB2 : Hid (base ≤ wr.heap.size) := Nat.le_trans HA.out.base HF2.out.below.size
          go_wp2_with fail
          go_loopw [7, 8] (fun t j wr3 => ∃ q : Nat, q ≤ 4 ∧ j = .int .i64 q ∧ Fill3 base wr v n xs i0 t q wr3) (fun _ j _ => 4 - (RowKit.intOf j).toNat)
          case atStart => exact ⟨0, Nat.zero_le _, rfl, Fill3.start HX.out⟩
          case round =>
            obtain ⟨q, hq, rfl, hF3⟩ := hrel
            have HF3 := Lib.hid hF3
            have HB3 : Hid (base ≤ wr.heap.size) := Nat.le_trans HB2.out hF3.grown.size
            clear hF3
            by_cases hlt3 : q < 4
            · have hge4 : decide ((q : Int) < 4) = true := decide_eq_true (by omega)
              go_wp2_with (at_builtin; refine wpList_two rfl _ _ 22 rfl base 5 ti _ 1 1 Try.underlying22 hi hz0 hz1 hz2 rfl (by decide) _ (n + q) _ rfl (HF3.out.own.alloc _) ⟨wr.heap.size, 0, none⟩ 1 1 [.int .u8 ((200 + (i0 : Int) * 5 + q) % 256)] rfl rfl (news_alloc _ [.int .u8 ((200 + (i0 : Int) * 5 + q) % 256)] _) (by simp [Value.oneCell']) (by decide) (by unfold maxLen; omega) (by omega) (by have := HB3.out; simp; omega) ?_; intro v4 w4 hown4 hr4)
              go_roundw
              case rel => exact ⟨q + 1, hlt3, by simp, HF3.out.step (by unfold tailB; push_cast; rfl) hown4 hr4⟩
              case measure => simp [RowKit.intOf]; omega
            · obtain rfl : q = 4 := by omega
              obtain ⟨a4, c4, hsh⟩ := owns_shape HF3.out.own
              subst hsh
              have HO : Hid (wr.ownsRow base 22 1 u3 i0 outs) := HF2.out.ovKept HF3.out.grown HV.out
              go_wp2_with (at_builtin; refine wpList_append_own_at _ rfl _ _ 35 rfl base 22 tj _ 1 24 Try.underlying35 hi' hz0' hz1' hz2' rfl (by decide) _ i0 _ rfl (HO.out.alloc _) ⟨wr.heap.size, 0, none⟩ 1 1 [.slice a4 (n + 4) c4] rfl rfl (news_alloc _ [.slice a4 (n + 4) c4] _) (by simp [Value.oneCell']) (by unfold maxLen; omega) (by omega) (by have := HB3.out; simp; omega) ?_; intro v5 w5 hown5 hg5 _ hb5)
              go_roundw
              case rel => exact ⟨i0 + 1, hlt, by simp, _, HF2.out.push HA.out HF3.out HV.out HXF.out hown5 hg5 hb5⟩
              case measure => simp [RowKit.intOf]; omega
        · obtain rfl : i0 = m := by omega
          have hge3 : decide ((i0 : Int) < (i0 : Int)) = false := decide_eq_false (by omega)
          go_wp2_with fail
          go_loopw [9] (fun i wr4 => ∃ r : Nat, r ≤ i0 ∧ i = .int .i64 r ∧ wr4 = wr) (fun i _ => i0 - (RowKit.intOf i).toNat)
          case atStart => exact ⟨0, Nat.zero_le _, rfl, rfl⟩
          case round =>
            obtain ⟨r, hr, rfl, rfl⟩ := hrel
            by_cases hlt : r < i0
            · have hge4 : decide ((r : Int) < (i0 : Int)) = true := decide_eq_true (by omega)
              obtain ⟨⟨v, n⟩, hv⟩ : ∃ x, vs[r]? = some x := ⟨_, List.getElem?_eq_getElem (by rw [HK.out]; exact hlt)⟩
              have hn : n ≤ 1000000 := HA.out.short r v n hv
              have HF2' := HF2.out
              rw [← HK.out] at HF2'
              obtain ⟨cL, hcv, og, oc, hg, hc, hov, cO, hct⟩ := HF2'.reads hv (by rw [HK.out]; exact hlt)
              rw [HK.out] at hov
              subst hov
              have HC := Lib.hid hcv
              have HT := Lib.hid hct
              obtain ⟨a, c, hsh⟩ : ∃ a c, v = .slice a n c := by
                obtain ⟨xs, hx, _⟩ := HF2.out.st r v n hv
                exact owns_shape hx
              subst hsh
              clear hcv hct HF2' hv
              go_wp2_with fail
              go_loopw [11] (fun j wr5 => ∃ j0 : Nat, j0 ≤ n ∧ j = .int .i64 j0 ∧ wr5 = wr) (fun j _ => n - (RowKit.intOf j).toNat)
              case atStart => exact ⟨0, Nat.zero_le _, rfl, rfl⟩
              case round =>
                obtain ⟨j0, hj, rfl, rfl⟩ := hrel
                by_cases hlt2 : j0 < n
                · have hge2 : decide ((j0 : Int) < (n : Int)) = true := decide_eq_true (by omega)
                  obtain ⟨g, cap, hsv, hcg⟩ := HC.out j0 hlt2
                  cases hsv
                  have hq : (j0 : Int).tmod 7 = (j0 : Int) % 7 := Int.tmod_eq_emod_of_nonneg (by omega)
                  have hfb : fillB r j0 = ((r : Int) * 31 + (j0 : Int) % 7) % 256 := by unfold fillB; push_cast; rfl
                  rw [hfb] at hcg
                  clear hfb
                  go_wp2_with fail
                  go_roundw
                  case rel => exact ⟨j0 + 1, hlt2, by simp, by trivial⟩
                  case measure => simp [RowKit.intOf]; omega
                · obtain rfl : j0 = n := by omega
                  have hge2 : decide ((j0 : Int) < (j0 : Int)) = false := decide_eq_false (by omega)
                  go_wp2_with fail
                  go_loopw [12] (fun j wr5 => ∃ q : Nat, q ≤ 4 ∧ j = .int .i64 q ∧ wr5 = wr) (fun j _ => 4 - (RowKit.intOf j).toNat)
                  case atStart => exact ⟨0, Nat.zero_le _, rfl, rfl⟩
                  case round =>
                    obtain ⟨q, hq, rfl, rfl⟩ := hrel
                    by_cases hlt3 : q < 4
                    · have hge5 : decide ((q : Int) < 4) = true := decide_eq_true (by omega)
                      have hcq := HT.out q hlt3
                      have hfb : tailB r q = (200 + (r : Int) * 5 + (q : Int)) % 256 := by unfold tailB; push_cast; rfl
                      rw [hfb] at hcq
                      have htn : ((j0 : Int) + (q : Int)).toNat = j0 + q := by omega
                      clear hfb
                      go_wp2_with fail
                      go_roundw
                      case rel => exact ⟨q + 1, hlt3, by simp, by trivial⟩
                      case measure => simp [RowKit.intOf]; omega
                    · obtain rfl : q = 4 := by omega
                      go_wp2_with fail
                      go_roundw
                      case rel => exact ⟨r + 1, hlt, by simp, by trivial⟩
                      case measure => simp [RowKit.intOf]; omega
            · obtain rfl : r = i0 := by omega
              have hge4 : decide ((r : Int) < (r : Int)) = false := decide_eq_false (by omega)
              go_wp2_with fail
              go_ret
              exact ⟨rfl, HF2.out.below⟩
theorem own_any (base L : Nat) (vs : BRows) (w : World) (A : OwnArg base vs L w) :
    Calls Try.prog 18 #[.slice (some ⟨L, 0, none⟩) vs.length vs.length] w fun e w' => e = .returned (.bool true) ∧ Below base w w' := own_cap base L vs.length vs w A
end Go.Proofs.Ytbgdhmacpgnfeaa
