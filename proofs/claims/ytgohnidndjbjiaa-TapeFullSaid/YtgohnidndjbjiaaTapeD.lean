/-
  Layer 19: Records, Len, Open.
-/
import Derived.Test.YtgohnidndjbjiaaTapeC
namespace Go.Proofs.Ytgohnidndjbjiaa
open Go Go.RowKit Go.Lib
set_option linter.unusedVariables false

/-- Copies of some records, all new. -/
def RecTo (w : World) (l : List (List UInt8)) (e : Ending) (w' : World) : Prop :=
  ∃ bv vs, e = .returned bv ∧ w'.ownsRow w.heap.size 37 1 bv vs.length vs ∧ Bods w' w.heap.size vs l ∧ Below w.heap.size w w'
def RecLp (w : World) (l : List (List UInt8)) (bv i : Value) (wr : World) : Prop :=
  ∃ (vs : List Value) (k : Nat), i = .int .i64 k ∧ k ≤ l.length ∧ wr.ownsRow w.heap.size 37 1 bv vs.length vs ∧ Bods wr w.heap.size vs (l.take k) ∧ Below w.heap.size w wr
section
variable {w w' : World} {base sb tb : Nat} {M N R K Kb : Nat → Prop} {l : List (List UInt8)} {lost : Bool} {t t' : TS} {s' : St}
theorem records_nil (w : World) : Calls Try.prog 13 #[.pointer none] w fun e w' => e = .returned (.slice none 0 0) ∧ w' = w := by
  go_enter Try.func13, Try.ntmps13
  go_wp2_with fail
  go_returns
  exact ⟨rfl, rfl⟩
theorem tapeLen_nil (w : World) : Calls Try.prog 16 #[.pointer none] w fun e w' => e = .returned (.int .i64 0) ∧ w' = w := by
  go_enter Try.func16, Try.ntmps16
  go_wp2_with fail
  go_returns
  exact ⟨rfl, rfl⟩
theorem tapeLen_any (h : Tk w base N sb tb t) : Calls Try.prog 16 #[.pointer (some ⟨tb, 0, none⟩)] w fun e w' => e = .returned (.int .i64 t.l.length) ∧ w' = w := by
  obtain ⟨rv, vs, c0, c1, c2, ho, hb⟩ := h.cells
  have e := hb.len
  rw [e] at ho
  obtain ⟨A, c, rfl⟩ := owned_slice ho
  clear ho e hb h
  generalize t.l.length = n at *
  go_enter Try.func16, Try.ntmps16
  go_wp2_with fail
  go_returns
  exact ⟨rfl, rfl⟩
set_option maxRecDepth 100000 in
theorem records_any (h : Tk w base N sb tb t) : Calls Try.prog 13 #[.pointer (some ⟨tb, 0, none⟩)] w (RecTo w t.l) := by
  obtain ⟨i0, hi, hz0, hz1, hz2⟩ := info_parts Try.infoL
  have hfew := h.few.2
  have hsh := h.shrt
  have htb := (h.lt tb h.mem).2
  obtain ⟨rv, vs, c0, c1, c2, ho, hb⟩ := h.cells
  have HL : Hid (RdL w rv t.l) := RdL.of_bods ho hb
  have e := hb.len
  rw [e] at ho
  obtain ⟨A, c, rfl⟩ := owned_slice ho
  generalize t.l = l at *
  clear ho e hb h
  obtain ⟨n, hn⟩ : ∃ n, n = l.length := ⟨_, rfl⟩
  rw [← hn] at c1 hfew HL
  have HSH := Lib.hid hsh
  clear hsh
  have HN := Lib.hid hn
  clear hn
  go_enter Try.func13, Try.ntmps13
  go_wp2_with fail
  go_loopw [3, 14] (RecLp w l) (fun _ i _ => n + 1 - (RowKit.intOf i).toNat)
  case atStart =>
    exact ⟨[], 0, rfl, Nat.zero_le _, World.ownsRow_made w #[] 0 (Nat.le_refl _) (Nat.zero_le _) (by simp), Bods.nil _ _, (Below.refl _ w).alloc (Nat.le_refl _) _⟩
  case round =>
    obtain ⟨vs, k, rfl, hk, ho, hb, hB⟩ := hrel
    obtain ⟨V, hV⟩ : ∃ V, V = vs.length := ⟨_, rfl⟩
    rw [← hV] at ho
    have HV := Lib.hid hV
    have HO := Lib.hid ho
    have HBD := Lib.hid hb
    have HB := Lib.hid hB
    have hVk : V ≤ k := by rw [hV, hb.len, List.length_take]; omega
    obtain ⟨A1, c1', rfl⟩ := owned_slice ho
    rw [← HN.out] at hk
    clear ho hb hB hV
    by_cases hlt : k < n
    · have t1 : decide (k < n) = true := decide_eq_true hlt
      have t1' : (k : Int) < n := by omega
      have hkl : k < l.length := by rw [← HN.out]; exact hlt
      obtain ⟨b, off, u, rfl, cu, hu⟩ := (HL.out.kept HB.out).at_ hkl
      have HTk : Hid (l.take (k + 1) = l.take k ++ [l[k]]) := List.take_succ_eq_append_getElem hkl
      have hx8 := HSH.out _ (List.getElem_mem hkl)
      generalize l[k] = x at *
      have CL := Lib.hid (clone_any hu (by omega))
      clear hu
      go_wp2_with fail
      refine CL.out.mono ?_; rintro e w2 ⟨v2, rfl, ho2, hb2⟩
      obtain ⟨N2, hN2⟩ : ∃ N2, N2 = x.length := ⟨_, rfl⟩
      rw [← hN2] at ho2
      have HO2 := Lib.hid ho2
      have HB2 := Lib.hid hb2
      have HN2 := Lib.hid hN2
      obtain ⟨A2, d2, rfl⟩ := owned_slice ho2
      clear ho2 hb2 hN2 CL
      go_wp2_with (at_builtin; refine wpList_append_own _ rfl _ _ 38 rfl w.heap.size 37 i0 _ 1 24 Try.underlying38 hi hz0 hz1 hz2 rfl (by decide) _ V vs rfl ?q6 ⟨w2.heap.size, 0, none⟩ 1 1 [.slice A2 N2 d2] rfl rfl ?q1 ?q0 ?q2 ?q3 ?q4 ?_)
      case q6 => exact owns_alloc (owns_next HO.out HB2.out) _
      case q1 => exact news_alloc w2 [.slice A2 N2 d2] 37
      case q0 => exact one_slice _ _ _
      case q2 => unfold maxLen; omega
      case q3 => omega
      case q4 => have h1 := HB2.out.size; have h2 := HB.out.size; simp; omega
      intro v3 w3 ho3 hg3 hl3
      have HO3 := Lib.hid ho3
      have HG3 := Lib.hid hg3
      clear ho3 hg3 hl3
      have F3 : Hid (Fr (fun b => (Value.slice A1 V c1').ownBlock = some b) w2 w3) := ((Fr.refl _ w2).alloc _).grown HG3.out fun b h => .inl h
      have LV : Hid ((vs ++ [Value.slice A2 N2 d2]).length = V + 1) := by unfold Hid; rw [HV.out]; simp
      have BD3 : Hid (Bods w3 w.heap.size (vs ++ [.slice A2 N2 d2]) (l.take k ++ [x])) := by
        have h1 := (HBD.out.kept HB2.out).push (by rw [← HN2.out]; exact HO2.out) HB.out.size fun i u g hu hg => HBD.out.lt hu hg
        refine h1.fr F3.out fun i u g hu hg hh => ?_
        obtain ⟨x, _, ho⟩ := h1.at_ hu
        exact head_ne (owns_next HO.out HB2.out) ho g hh hg
      have B3 : Hid (Below w.heap.size w w3) := HB.out.trans ((HB2.out.mono HB.out.size).trans (F3.out.below (Nat.le_trans HB.out.size HB2.out.size) fun b hb => owns_base HO.out hb))
      go_wp2_with fail
      go_roundw
      case rel => exact ⟨vs ++ [.slice A2 N2 d2], k + 1, by go_num, hkl, by rw [LV.out]; exact HO3.out, by rw [HTk.out]; exact BD3.out, B3.out⟩
      case measure => simp [RowKit.intOf]; omega
    · have t1 : decide (k < n) = false := decide_eq_false hlt
      have e : l.take k = l := List.take_of_length_le (by rw [← HN.out]; omega)
      rw [e] at HBD
      clear e
      go_wp2_with fail
      go_returns
      exact ⟨_, vs, rfl, by rw [← HV.out]; exact HO.out, HBD.out, HB.out⟩
end
end Go.Proofs.Ytgohnidndjbjiaa
