/-
  Layer 19: Open.
-/
import Derived.Test.YtgohnidndjbjiaaTapeD
import Derived.Test.YtgohnidndjbjiaaCrateP
namespace Go.Proofs.Ytgohnidndjbjiaa
open Go Go.RowKit Go.Lib
set_option linter.unusedVariables false

theorem rows_short : ∀ (n : Nat) (r : List UInt8), r.length ≤ n → (∀ x ∈ rowsB r, x.length ≤ 8000) ∧ endL (rowsB r) ≤ r.length := by
  intro n
  induction n with
  | zero =>
    intro r hr
    obtain rfl : r = [] := List.eq_nil_of_length_eq_zero (by omega)
    rw [rowsB_no isB_nil]
    exact ⟨fun x hx => by simp at hx, Nat.le_refl _⟩
  | succ n ih =>
    intro r hr
    cases h : isB r with
    | false => rw [rowsB_no h]; exact ⟨fun x hx => by simp at hx, Nat.zero_le _⟩
    | true =>
      have h1 := isB_len h
      have h2 := bodyB_len h
      have h3 := isB_short h
      obtain ⟨i1, i2⟩ := ih (r.drop (lenB r + 7)) (by rw [List.length_drop]; omega)
      rw [rowsB_yes h]
      refine ⟨fun x hx => ?_, ?_⟩
      · rcases List.mem_cons.1 hx with e | e
        · rw [e, h2]; exact h3
        · exact i1 x e
      · rw [endL_cons, h2]; rw [List.length_drop] at i2; omega
theorem rows_bd (r : List UInt8) : (∀ x ∈ rowsB r, x.length ≤ 8000) ∧ endL (rowsB r) ≤ r.length ∧ (rowsB r).length ≤ endL (rowsB r) := by
  obtain ⟨h1, h2⟩ := rows_short r.length r (Nat.le_refl _)
  exact ⟨h1, h2, by have := endL_len (rowsB r); omega⟩
theorem cut_len {s s' : St} {n : Nat} (h : cutS s (n : Int) = (s', 0)) (hn : n ≤ s.xs.length) : s'.xs.length = n := by
  unfold cutS at h
  split at h
  · injection h with _ h; cases h
  · split at h
    · injection h with _ h; cases h
    · split at h
      · injection h with _ h; cases h
      · injection h with h _
        rw [← h]
        simp; omega
theorem Bods.mono {w : World} {base B : Nat} {vs : List Value} {xs : List (List UInt8)} (h : Bods w B vs xs) (hb : base ≤ B) : Bods w base vs xs :=
  ⟨h.len, fun i v x hv hx => owns_mono (h.own i v x hv hx) hb, h.apart⟩
/-- What a tape that is opened is. -/
def OpenTo (w : World) (base : Nat) (N : Nat → Prop) (sb : Nat) (s : St) (e : Ending) (w' : World) : Prop :=
  ((openS s).2 = 0 ∧ ∃ tb N', e = .returned (.tuple #[.pointer (some ⟨tb, 0, none⟩), .int .i64 0]) ∧ Tk w' base N' sb tb ⟨(openS s).1, rowsB s.xs, false⟩ ∧ (∀ b, b < w.heap.size → (N' b ↔ N b)) ∧ Fr N w w') ∨
  ((openS s).2 ≠ 0 ∧ e = .returned (.tuple #[.pointer none, .int .i64 (openS s).2]) ∧ SpTo w base N sb (openS s).1 w')
theorem SpTo.join {w w2 w' : World} {base sb : Nat} {N : Nat → Prop} {s' : St} (h : SpTo w2 base N sb s' w') (hb : Below w.heap.size w w2) : SpTo w base N sb s' w' := by
  obtain ⟨N', h1, h2, h3⟩ := h
  exact ⟨N', fun b hl => h1 b (Nat.lt_of_lt_of_le hl hb.size), h2, (Fr.none_of hb (N := N)).trans h3 fun _ _ h => h⟩
section
variable {w w' : World} {base sb tb : Nat} {M N R K Kb : Nat → Prop} {l : List (List UInt8)} {lost : Bool} {t t' : TS} {s s' : St}
theorem Tk.fresh {w2 w3 : World} {B : Nat} {N3 : Nat → Prop} {bv : Value} {vs : List Value} (h : Sp w3 base N3 sb s') (hB : base ≤ B) (o2 : w2.ownsRow B 37 1 bv vs.length vs) (b2 : Bods w2 B vs l) (h8 : ∀ x ∈ l, x.length ≤ 8000) (hl : l.length ≤ s'.xs.length)
    (hN : ∀ b, N3 b → b < w2.heap.size → b < B) (f : Fr K w2 w3) (hK : ∀ b, K b → b < B) : Tk (w3.alloc (.cells #[.pointer (some ⟨sb, 0, none⟩), bv, .bool false] 65)) base (fun b => N3 b ∨ ((B ≤ b ∧ b < w2.heap.size) ∨ b = w3.heap.size)) sb w3.heap.size ⟨s', l, false⟩ := by
  have hBw : ∀ g, bv.ownBlock = some g → B ≤ g := fun g hg => owns_base o2 hg
  have F4 : Fr K w2 (w3.alloc (.cells #[.pointer (some ⟨sb, 0, none⟩), bv, .bool false] 65)) := f.alloc _
  have hs := f.size
  have hbase := h.baseLe
  refine ⟨N3, fun b => (B ≤ b ∧ b < w2.heap.size) ∨ b = w3.heap.size, h.alloc _, ⟨fun b hb => ?_, .inr rfl, (fun h => by cases h), h8, bv, vs, Blk.new _ _ _, owns_mono (owns_fr o2 F4 fun g hg hk => ?_) hB, (b2.fr F4 fun i v g hv hg hk => ?_).mono hB, fun g hg => ?_, fun i v g hv hg => ?_⟩, fun b hb hr => ?_, fun b => Iff.rfl, hl⟩
  · rcases hb with hb | hb
    · simp; omega
    · subst hb; simp; exact hbase
  · have := hBw g hg; have := hK g hk; omega
  · obtain ⟨x, _, ho⟩ := b2.at_ hv
    have := owns_base ho hg; have := hK g hk; omega
  · exact .inl ⟨hBw g hg, owns_lt o2 hg⟩
  · obtain ⟨x, _, ho⟩ := b2.at_ hv
    exact .inl ⟨owns_base ho hg, owns_lt ho hg⟩
  · have hb3 := h.lt b hb
    rcases hr with hr | hr
    · have := hN b hb hr.2; omega
    · omega
theorem open_nil (w : World) : Calls Try.prog 26 #[.pointer none] w fun e w' => e = .returned (.tuple #[.pointer none, .int .i64 1]) ∧ w' = w := by
  go_enter Try.func26, Try.ntmps26
  go_wp2_with fail
  go_returns
  exact ⟨rfl, rfl⟩
theorem open_off (h : Sp w base N sb s) (ho : s.off = true) : Calls Try.prog 26 #[.pointer (some ⟨sb, 0, none⟩)] w fun e w' => e = .returned (.tuple #[.pointer none, .int .i64 190]) ∧ w' = w := by
  have HO : Hid (Calls Try.prog 47 #[.pointer (some ⟨sb, 0, none⟩)] w fun e w' => e = .returned (.bool false) ∧ w' = w) := on_at (by rw [ho]; rfl) h
  clear h ho
  go_enter Try.func26, Try.ntmps26
  go_wp2_with fail
  refine HO.out.mono ?_; rintro e w1 ⟨rfl, rfl⟩
  go_wp2_with fail
  go_returns
  exact ⟨rfl, rfl⟩
theorem open_any (h : Sp w base N sb s) (hn : s.xs.length ≤ 1000000) : Calls Try.prog 26 #[.pointer (some ⟨sb, 0, none⟩)] w (OpenTo w base N sb s) := by
  cases ho : s.off with
  | true =>
    have e : openS s = (s, 190) := by unfold openS; rw [ho]; rfl
    refine (open_off h ho).mono fun e' w' ⟨he, hw⟩ => .inr ?_
    rw [e]
    subst hw
    exact ⟨by show (190 : Int) ≠ 0; decide, he, h.same (Fr.refl _ _)⟩
  | false =>
    have HO : Hid (Calls Try.prog 47 #[.pointer (some ⟨sb, 0, none⟩)] w fun e w' => e = .returned (.bool true) ∧ w' = w) := on_at (by rw [ho]; rfl) h
    have HB := Lib.hid (bytes_any h ho)
    have H := Lib.hid h
    obtain ⟨r1, r2, r3⟩ := rows_bd s.xs
    have R1 := Lib.hid r1
    have R3 := Lib.hid r3
    obtain ⟨E, hE⟩ : ∃ E, E = endL (rowsB s.xs) := ⟨_, rfl⟩
    have HE := Lib.hid hE
    have HN := Lib.hid hn
    obtain ⟨X, hX⟩ : ∃ X, X = s.xs.length := ⟨_, rfl⟩
    have HX := Lib.hid hX
    rw [← hE, ← hX] at r2
    rw [← hE] at R3
    have hXn : X ≤ 1000000 := by omega
    have HOf := Lib.hid ho
    clear h ho r1 r3 hE hn hX
    go_enter Try.func26, Try.ntmps26
    go_wp2_with fail
    refine HO.out.mono ?_; rintro e w ⟨rfl, rfl⟩
    go_wp2_with fail
    refine HB.out.mono ?_; rintro e w1 ⟨g, hg, rfl, hblk, hb1⟩
    have B1 := Lib.hid hb1
    have AL : Hid (Calls Try.prog 49 #[.slice (some ⟨g, 0, none⟩) s.xs.length s.xs.length] w1 (AllTo w1 s.xs)) := all_any (bytes_rd hblk (by have := HN.out; unfold maxLen; omega)) HN.out
    rw [← HX.out] at AL ⊢
    clear hblk hb1 hg
    go_wp2_with fail
    refine AL.out.mono ?_; rintro e w2 ⟨bv, vs, rfl, ho2, hb2, hB2⟩
    have O2 := Lib.hid ho2
    have D2 := Lib.hid hb2
    have B2 := Lib.hid hB2
    rw [← HE.out]
    obtain ⟨A2, d2, rfl⟩ := owned_slice ho2
    clear ho2 hb2 hB2
    have S2 : Hid (Sp w2 base N sb s) := (H.out.kept B1.out).kept B2.out
    have bw : base ≤ w1.heap.size := Nat.le_trans H.out.baseLe B1.out.size
    have B12 : Hid (Below w.heap.size w w2) := B1.out.trans (B2.out.mono B1.out.size)
    by_cases hlt : E < X
    · have t1 : decide (E < X) = true := decide_eq_true hlt
      have t1' : (E : Int) < X := by omega
      obtain ⟨s', e', hc⟩ : ∃ s' e', cutS s (E : Int) = (s', e') := ⟨_, _, rfl⟩
      have hop : openS s = (s', e') := by
        unfold openS
        rw [HOf.out, ← HE.out, ← HX.out, if_neg (by decide), if_pos hlt, hc]
      have HOP := Lib.hid hop
      have CU := Lib.hid (cut_at hc S2.out)
      have HC := Lib.hid hc
      clear hc hop
      by_cases h0 : e' = 0
      · subst h0
        go_wp2_with fail
        refine CU.out.mono ?_; rintro e w3 ⟨rfl, N3, n3, k3, f3⟩
        have NN := Lib.hid n3
        have K3 := Lib.hid k3
        have F3 := Lib.hid f3
        clear n3 k3 f3
        go_wp2_with fail
        go_returns
        refine .inl ?_
        rw [HOP.out]
        refine ⟨rfl, w3.heap.size, _, rfl, Tk.fresh K3.out bw O2.out D2.out R1.out ?_ ?_ F3.out (fun b hb => ?_), fun b hb => ?_, ((Fr.none_of B12.out).trans F3.out fun _ _ h => h).alloc _⟩
        · rw [cut_len HC.out (by rw [← HX.out]; exact r2)]; exact R3.out
        · intro b hb hl
          have := H.out.lt b ((NN.out b hl).1 hb)
          have := B1.out.size; omega
        · have := H.out.lt b hb; have := B1.out.size; omega
        · have := B1.out.size; have := B12.out.size; have := F3.out.size
          constructor
          · rintro (h | h | h)
            · exact (NN.out b (by omega)).1 h
            · omega
            · omega
          · exact fun h => .inl ((NN.out b (by omega)).2 h)
      · have t2 : (e' != 0) = true := bne_iff_ne.2 h0
        have H0 := Lib.hid h0
        clear h0
        go_wp2_with fail
        refine CU.out.mono ?_; rintro e w3 ⟨rfl, h3⟩
        have H3 := Lib.hid h3
        clear h3
        go_wp2_with fail
        go_returns
        refine .inr ?_
        rw [HOP.out]
        exact ⟨H0.out, rfl, H3.out.join B12.out⟩
    · have t1 : decide (E < X) = false := decide_eq_false hlt
      go_wp2_with fail
      go_returns
      refine .inl ?_
      have hop : openS s = (s, 0) := by
        unfold openS
        rw [HOf.out, ← HE.out, ← HX.out, if_neg (by decide), if_neg hlt]
      rw [hop]
      refine ⟨rfl, w2.heap.size, _, rfl, Tk.fresh (K := fun _ => False) S2.out bw O2.out D2.out R1.out ?_ ?_ (Fr.refl _ w2) (fun _ h => h.elim), fun b hb => ?_, (Fr.none_of B12.out).alloc _⟩
      · have := R3.out; rw [← HX.out]; omega
      · intro b hb _
        have := H.out.lt b hb
        have := B1.out.size; omega
      · have := B1.out.size; have := B12.out.size
        constructor
        · rintro (h | h | h)
          · exact h
          · omega
          · omega
        · exact .inl
end
end Go.Proofs.Ytgohnidndjbjiaa
