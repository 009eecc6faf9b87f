/-
  Would.
-/
import Derived.Test.YtcdlfhheolbhaaaYeJ
namespace Go.Proofs.Ytcdlfhheolbhaaa
open Go Go.RowKit Go.Lib
set_option linter.unusedVariables false

/-- What is left when the block that begins there is given back. -/
def giveT (tk : List Bk) (q : Int) : List Bk := tk.filter fun b => decide ((b.1 : Int) ≠ q)
theorem GiveR.giveT {tk tk' : List Bk} {q er : Int} (h : GiveR tk q er tk') : tk' = giveT tk q := by
  unfold Go.Proofs.Ytcdlfhheolbhaaa.giveT
  cases h with
  | none h => rw [filter_all fun b hb => decide_eq_true (h b hb)]
  | ok b hb hq =>
    unfold remT
    refine List.filter_congr fun x hx => ?_
    by_cases hxb : x.1 = b.1
    · rw [decide_eq_false (by omega), decide_eq_false (by omega)]
    · rw [decide_eq_true (by omega), decide_eq_true (by omega)]
/-- A row of numbers that is read. -/
def GRow (w : World) (v : Value) (l : List Int) : Prop := (l = [] ∧ ∃ a c, v = .slice a 0 c) ∨ ∃ b off c, v = .slice (some ⟨b, off, none⟩) l.length c ∧ ∀ j, j < l.length → w.cell? ⟨b, off + j, none⟩ = some (.int .i64 (l.getD j 0))
theorem GRow.slice {w : World} {v : Value} {l : List Int} (h : GRow w v l) : ∃ a c, v = .slice a l.length c := by
  rcases h with ⟨rfl, a, c, rfl⟩ | ⟨b, off, c, rfl, _⟩
  · exact ⟨a, c, rfl⟩
  · exact ⟨_, c, rfl⟩
theorem GRow.kept {w w' : World} {v : Value} {l : List Int} (h : GRow w v l) (hb : Below w.heap.size w w') : GRow w' v l := by
  rcases h with h | ⟨b, off, c, h1, h2⟩
  · exact .inl h
  · exact .inr ⟨b, off, c, h1, fun j hj => cell_next hb (h2 j hj)⟩
theorem GRow.none (w : World) : GRow w (.slice Option.none 0 0) [] := .inl ⟨rfl, _, _, rfl⟩
def WouldPost (n : Nat) (tk : List Bk) (fl : List Nat) (gs : List Int) (q : Int) (w : World) (e : Ending) (w' : World) : Prop :=
  ∃ r : Bool, e = .returned (.bool r) ∧ (r = true ↔ fitsB n (opn n (gs.foldl giveT tk) fl) q) ∧ Below w.heap.size w w'
theorem foldl_take_succ {α β : Type} (f : β → α → β) (b : β) (l : List α) (k : Nat) (hk : k < l.length) : (l.take (k + 1)).foldl f b = f ((l.take k).foldl f b) l[k] := by
  rw [List.take_add_one, List.getElem?_eq_getElem hk, List.foldl_append]; rfl
set_option maxHeartbeats 2000000 in
theorem Would_any (y : Nat) (own : Nat → Prop) (n : Nat) (tk : List Bk) (fl : List Nat) (q : Int) (gv : Value) (gs : List Int) (w : World) (hlen : gs.length ≤ 1048576) (hg : GRow w gv gs) (hY : YS w y own n tk fl) :
    Calls Try.prog 29 #[.pointer (some ⟨y, 0, none⟩), .int .i64 q, gv] w fun e w' => WouldPost n tk fl gs q w e w' := by
  have CL := Lib.hid (clone_any y own n _ tk fl w hY.1.tlen hY.1.flen hY.2)
  have HOK := Lib.hid hY.1
  obtain ⟨ga, gc, hgv⟩ := hg.slice
  subst hgv
  have HG := Lib.hid hg
  clear hY hg
  go_enter Try.func29, Try.ntmps29
  go_wp2_with fail
  refine CL.out.mono ?_; rintro e w1 ⟨g, rfl, hY1, b1⟩
  have HY1 : Hid (YS w1 g (fun k => w.heap.size ≤ k) n tk fl) := ⟨HOK.out, hY1⟩
  have HB1 := Lib.hid b1
  clear hY1 b1
  go_wp2_with fail
  go_loopw [16] (fun i wr => ∃ k : Nat, k ≤ gs.length ∧ i = .int .i64 k ∧ Hid (YS wr g (fun k => w.heap.size ≤ k) n ((gs.take k).foldl giveT tk) fl) ∧ Hid (Below w.heap.size w wr)) (fun i _ => gs.length - (RowKit.intOf i).toNat)
  case atStart => exact ⟨0, Nat.zero_le _, rfl, HY1, HB1⟩
  case round =>
    obtain ⟨k, hk, rfl, HY, HB⟩ := hrel
    by_cases hlt : k < gs.length
    · have hlt' : decide (k < gs.length) = true := decide_eq_true hlt
      rcases HG.out with ⟨h0, _⟩ | ⟨bb, off, c, hv, hc⟩
      · rw [h0] at hlt; simp at hlt
      · cases hv
        have c0 := cell_next HB.out (hc k hlt)
        have hki : (k : Int) < (gs.length : Int) := by omega
        obtain ⟨x, hx⟩ : ∃ x, x = gs.getD k 0 := ⟨_, rfl⟩
        rw [← hx] at c0
        have GV := Lib.hid (Give_any g _ n _ fl x wr HY.out)
        have hstep : (gs.take (k + 1)).foldl giveT tk = giveT ((gs.take k).foldl giveT tk) x := by
          rw [foldl_take_succ _ _ _ _ hlt, hx, List.getD_eq_getElem?_getD, List.getElem?_eq_getElem hlt]; rfl
        have HST := Lib.hid hstep
        clear hc hx hstep
        go_wp2_with fail
        refine GV.out.mono ?_; rintro e w2 ⟨er, tk', rfl, hgr, hY2, hC2⟩
        have HY2 : Hid (YS w2 g (fun k => w.heap.size ≤ k) n ((gs.take (k + 1)).foldl giveT tk) fl) := by unfold Hid; rw [HST.out, ← hgr.giveT]; exact hY2
        have HB2 : Hid (Below w.heap.size w w2) := HB.out.trans (hC2.to_below HB.out.size fun k hk h => by omega)
        clear hgr hY2 hC2
        go_wp2_with fail
        go_roundw
        case rel => exact ⟨k + 1, hlt, by go_num, HY2, HB2⟩
        case measure => simp [RowKit.intOf]; omega
    · obtain rfl : k = gs.length := by omega
      have hlt' : decide (gs.length < gs.length) = false := decide_eq_false (by omega)
      have FT := Lib.hid (Fits_any g _ n _ _ fl q wr HY.out.2)
      go_wp2_with fail
      refine FT.out.mono ?_; rintro e w2 ⟨r, rfl, hr, b2⟩
      have HR := Lib.hid hr
      clear hr
      go_wp2_with fail
      go_ret
      refine ⟨r, rfl, ?_, HB.out.trans (b2.mono HB.out.size)⟩
      have := HR.out
      rw [List.take_of_length_le (Nat.le_refl _)] at this
      exact this
end Go.Proofs.Ytcdlfhheolbhaaa
