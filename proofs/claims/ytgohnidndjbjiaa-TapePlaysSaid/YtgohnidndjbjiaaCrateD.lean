/-
  Layer 17: what crates stand in a row, plainly; rows of bodies in the memory.
-/
import Derived.Test.YtgohnidndjbjiaaCrateC
import Derived.WalkMore
import Derived.Deep.LoopGhost
namespace Go.Proofs.Ytgohnidndjbjiaa
open Go Go.RowKit Go.Lib
set_option linter.unusedVariables false

theorem isB_len {r : List UInt8} (h : isB r = true) : lenB r + 7 ≤ r.length := by
  unfold isB at h
  simp only [Bool.and_eq_true, decide_eq_true_eq] at h
  exact h.1.2
theorem isB_short {r : List UInt8} (h : isB r = true) : lenB r ≤ 8000 := by
  unfold isB at h
  simp only [Bool.and_eq_true, decide_eq_true_eq] at h
  exact h.1.1.2
def bodyB (r : List UInt8) : List UInt8 := (r.drop 3).take (lenB r)
theorem bodyB_len {r : List UInt8} (h : isB r = true) : (bodyB r).length = lenB r := by
  have := isB_len h
  unfold bodyB; rw [List.length_take, List.length_drop]; omega
/-- The bodies of the crates from the begin on. -/
def rowsB (r : List UInt8) : List (List UInt8) :=
  if h : isB r = true then bodyB r :: rowsB (r.drop (lenB r + 7)) else []
termination_by r.length
decreasing_by have := isB_len h; simp; omega
theorem rowsB_yes {r : List UInt8} (h : isB r = true) : rowsB r = bodyB r :: rowsB (r.drop (lenB r + 7)) := by rw [rowsB, dif_pos h]
theorem rowsB_no {r : List UInt8} (h : isB r = false) : rowsB r = [] := by rw [rowsB, dif_neg (by rw [h]; decide)]
/-- How long the crates of some bodies are. -/
def endL (l : List (List UInt8)) : Nat := (l.map fun x => x.length + 7).sum
theorem endL_nil : endL [] = 0 := rfl
theorem endL_snoc (l : List (List UInt8)) (x : List UInt8) : endL (l ++ [x]) = endL l + (x.length + 7) := by simp [endL]
theorem endL_len (l : List (List UInt8)) : 7 * l.length ≤ endL l := by
  induction l with
  | nil => exact Nat.le_refl _
  | cons x l ih => unfold endL at *; simp at *; omega
theorem isB_nil : isB [] = false := by decide
theorem noB_two (r : List UInt8) : noB r = 170 ∨ noB r = 171 := by unfold noB; split; exact .inl rfl; exact .inr rfl

theorem owns_next {w w1 : World} {base n size : Nat} {e : TypeId} {v : Value} {xs : List Value} (h : w.ownsRow base e size v n xs) (f : Below w.heap.size w w1) : w1.ownsRow base e size v n xs :=
  owns_fr h (N := fun _ => False) (fr_of_below f fun b h1 h2 => by omega) fun _ _ h => h
/-- Bodies in the memory, each in a block of its own. -/
structure Bods (w : World) (base : Nat) (vs : List Value) (xs : List (List UInt8)) : Prop where
  len : vs.length = xs.length
  own : ∀ (i : Nat) (v : Value) (x : List UInt8), vs[i]? = some v → xs[i]? = some x → w.ownsRow base 5 1 v x.length (bts x)
  apart : ∀ (i j : Nat) (v u : Value) (g : Nat), i ≠ j → vs[i]? = some v → vs[j]? = some u → v.ownBlock = some g → u.ownBlock ≠ some g
theorem Bods.nil (w : World) (base : Nat) : Bods w base [] [] := ⟨rfl, fun i v x h => by simp at h, fun i j v u g _ h => by simp at h⟩
theorem Bods.fr {w w1 : World} {base : Nat} {N : Nat → Prop} {vs : List Value} {xs : List (List UInt8)} (h : Bods w base vs xs) (f : Fr N w w1) (hn : ∀ (i : Nat) (v : Value) (g : Nat), vs[i]? = some v → v.ownBlock = some g → ¬ N g) : Bods w1 base vs xs :=
  ⟨h.len, fun i v x hv hx => owns_fr (h.own i v x hv hx) f fun g hg => hn i v g hv hg, h.apart⟩
theorem Bods.kept {w w1 : World} {base : Nat} {vs : List Value} {xs : List (List UInt8)} (h : Bods w base vs xs) (f : Below w.heap.size w w1) : Bods w1 base vs xs :=
  h.fr (N := fun _ => False) (fr_of_below f fun b h1 h2 => by omega) fun _ _ _ _ _ h => h
theorem Bods.at_ {w : World} {base : Nat} {vs : List Value} {xs : List (List UInt8)} (h : Bods w base vs xs) {i : Nat} {v : Value} (hv : vs[i]? = some v) : ∃ x, xs[i]? = some x ∧ w.ownsRow base 5 1 v x.length (bts x) := by
  have hi := (List.getElem?_eq_some_iff.1 hv).1
  have hx : xs[i]? = some (xs[i]'(by rw [← h.len]; exact hi)) := List.getElem?_eq_getElem _
  exact ⟨_, hx, h.own i v _ hv hx⟩
theorem Bods.lt {w : World} {base : Nat} {vs : List Value} {xs : List (List UInt8)} (h : Bods w base vs xs) {i g : Nat} {v : Value} (hv : vs[i]? = some v) (hg : v.ownBlock = some g) : g < w.heap.size := by
  obtain ⟨x, _, ho⟩ := h.at_ hv
  exact owns_lt ho hg
theorem Bods.push {w : World} {base B : Nat} {vs : List Value} {xs : List (List UInt8)} {v : Value} {x : List UInt8} (h : Bods w base vs xs) (ho : w.ownsRow B 5 1 v x.length (bts x)) (hB : base ≤ B)
    (hn : ∀ (i : Nat) (u : Value) (g : Nat), vs[i]? = some u → u.ownBlock = some g → g < B) : Bods w base (vs ++ [v]) (xs ++ [x]) := by
  have hl := h.len
  have key : ∀ (i : Nat) (u : Value), (vs ++ [v])[i]? = some u → (i < vs.length ∧ vs[i]? = some u) ∨ (i = vs.length ∧ u = v) := by
    intro i u hu
    rcases Nat.lt_trichotomy i vs.length with hi | rfl | hi
    · rw [List.getElem?_append_left hi] at hu; exact .inl ⟨hi, hu⟩
    · rw [List.getElem?_append_right (Nat.le_refl _)] at hu; simp at hu; exact .inr ⟨rfl, hu.symm⟩
    · rw [List.getElem?_eq_none (by simp; omega)] at hu; cases hu
  refine ⟨by simp [hl], fun i u y hu hy => ?_, fun i j u1 u2 g hij h1 h2 hg => ?_⟩
  · rcases key i u hu with ⟨hi, hu'⟩ | ⟨rfl, rfl⟩
    · rw [List.getElem?_append_left (by omega)] at hy; exact h.own i u y hu' hy
    · rw [List.getElem?_append_right (by omega), hl, Nat.sub_self] at hy
      simp at hy; subst hy
      exact owns_mono ho hB
  · rcases key i u1 h1 with ⟨hi, h1'⟩ | ⟨rfl, rfl⟩
    · rcases key j u2 h2 with ⟨hj, h2'⟩ | ⟨rfl, rfl⟩
      · exact h.apart i j u1 u2 g hij h1' h2' hg
      · intro hg2
        have := hn i u1 g h1' hg
        have := owns_base ho hg2
        omega
    · rcases key j u2 h2 with ⟨hj, h2'⟩ | ⟨rfl, _⟩
      · intro hg2
        have := hn j u2 g h2' hg2
        have := owns_base ho hg
        omega
      · exact absurd rfl hij
theorem get_any {w : World} {K : Nat → Prop} {A : Option Addr} {n c : Nat} {bs : List UInt8} (h : Rd w K (.slice A n c) (bts bs)) (k : Nat) (hk : k ≤ bs.length) (hn : bs.length ≤ 1048576) :
    Calls Try.prog 59 #[.slice A n c, .int .i64 k] w (GetTo w k (bs.drop k)) := by
  rcases Nat.lt_or_ge k bs.length with h1 | h1
  · exact get_in h k h1 hn
  · obtain rfl : k = bs.length := by omega
    obtain ⟨hA, hc, hcm⟩ : n = bs.length ∧ n ≤ c ∧ c ≤ maxLen := by
      obtain ⟨A', c', h1, h2, h3, _⟩ := h
      injection h1 with h1 h4 h5
      subst h5
      rw [bts_len] at h4 h2
      exact ⟨h4, by omega, h3⟩
    subst hA
    refine (get_end w hc hcm).mono fun e w' ⟨he, hw⟩ => .inl ?_
    rw [List.drop_length]
    subst hw
    exact ⟨isB_nil, he, Below.refl _ _⟩
theorem head_ne {w : World} {base b2 n m : Nat} {hv v : Value} {vs xs : List Value} (h : w.ownsRow base 37 1 hv n vs) (ho : w.ownsRow b2 5 1 v m xs) : ∀ g, hv.ownBlock = some g → v.ownBlock ≠ some g := by
  intro g h1 h2
  obtain ⟨_, ⟨rfl, _⟩ | ⟨g1, _, c1, rfl, _, hc1, _⟩⟩ := h
  · cases h1
  obtain ⟨_, ⟨rfl, _⟩ | ⟨g2, _, c2, rfl, _, hc2, _⟩⟩ := ho
  · cases h2
  obtain rfl : g1 = g := by simpa [Value.ownBlock] using h1
  obtain rfl : g2 = g1 := by simpa [Value.ownBlock] using h2
  exact Blk.ne_ (w := w) (b := g2) (b' := g2) hc1 hc2 (by decide) rfl

/-- What All answers. -/
def errB (r : List UInt8) : Int := if noB (r.drop (endL (rowsB r))) = 170 then 0 else 171
def AllTo (w : World) (r : List UInt8) (e : Ending) (w' : World) : Prop :=
  ∃ bv vs, e = .returned (.tuple #[bv, .int .i64 (endL (rowsB r)), .int .i64 (errB r)]) ∧ w'.ownsRow w.heap.size 37 1 bv vs.length vs ∧ Bods w' w.heap.size vs (rowsB r) ∧ Below w.heap.size w w'
/-- Where All's loop stands. -/
def AllLp (w : World) (bs : List UInt8) (bv i : Value) (wr : World) : Prop :=
  ∃ (vs : List Value) (dn : List (List UInt8)) (k : Nat), i = .int .i64 k ∧ k = endL dn ∧ k ≤ bs.length ∧ rowsB bs = dn ++ rowsB (bs.drop k) ∧ wr.ownsRow w.heap.size 37 1 bv vs.length vs ∧ Bods wr w.heap.size vs dn ∧ Below w.heap.size w wr
theorem Try.infoL : (Try.prog.info? 37).map (fun i => (i.zero, i.size, i.bytes)) = some (some (.slice none 0 0), 1, 24) := by kernel_rfl
set_option maxRecDepth 100000 in
set_option maxHeartbeats 1000000 in
theorem all_any {w : World} {K : Nat → Prop} {A : Option Addr} {n c : Nat} {bs : List UInt8} (h : Rd w K (.slice A n c) (bts bs)) (hn : bs.length ≤ 1000000) :
    Calls Try.prog 49 #[.slice A n c] w (AllTo w bs) := by
  obtain ⟨i0, hi, hz0, hz1, hz2⟩ := info_parts Try.infoL
  have HR := Lib.hid h
  clear h
  go_enter Try.func49, Try.ntmps49
  go_wp2_with fail
  go_step3
  go_wp2_with fail
  go_step3
  go_wp2_with fail
  go_loopw [5, 6] (AllLp w bs) (fun _ i _ => bs.length + 1 - (RowKit.intOf i).toNat)
  case atStart =>
    exact ⟨[], [], 0, rfl, rfl, Nat.zero_le _, rfl, World.ownsRow_made w #[] 0 (Nat.le_refl _) (Nat.zero_le _) (by simp), Bods.nil _ _, (Below.refl _ w).alloc (Nat.le_refl _) _⟩
  case round =>
    obtain ⟨vs, dn, k, rfl, hke, hk, hro, ho, hb, hB⟩ := hrel
    obtain ⟨V, hV⟩ : ∃ V, V = vs.length := ⟨_, rfl⟩
    rw [← hV] at ho
    have HV := Lib.hid hV
    have HKE := Lib.hid hke
    have HRO := Lib.hid hro
    have HO := Lib.hid ho
    have HBD := Lib.hid hb
    have HB := Lib.hid hB
    obtain ⟨A1, c1, rfl⟩ := owned_slice ho
    clear hke hro ho hb hB hV
    have G := Lib.hid (get_any (HR.out.kept HB.out) k hk (by omega))
    obtain ⟨r, hr⟩ : ∃ r, r = bs.drop k := ⟨_, rfl⟩
    rw [← hr] at G
    have HRr := Lib.hid hr
    have hcase : (isB r = false ∧ noB r = 170) ∨ (isB r = false ∧ noB r = 171) ∨ isB r = true := by
      cases h : isB r
      · rcases noB_two r with h1 | h1
        · exact .inl ⟨rfl, h1⟩
        · exact .inr (.inl ⟨rfl, h1⟩)
      · exact .inr (.inr rfl)
    have hend : isB r = false → Hid (rowsB bs = dn) := fun h => by unfold Hid; rw [HRO.out, ← hr, rowsB_no h, List.append_nil]
    clear hr
    rcases hcase with ⟨h1, h2⟩ | ⟨h1, h2⟩ | h1
    · have HE := hend h1
      have HX : Hid (errB bs = 0) := by unfold errB Hid; rw [HE.out, ← HKE.out, ← HRr.out, h2]; rfl
      have G2 : Hid (Calls Try.prog 59 #[.slice A n c, .int .i64 k] wr fun e w' => e = .returned (.tuple #[.slice none 0 0, .int .i64 0, .int .i64 170]) ∧ Below wr.heap.size wr w') := G.out.mono fun e w' h => by
        rcases h with ⟨_, he, hb⟩ | ⟨hc, _⟩
        · rw [h2] at he; exact ⟨he, hb⟩
        · rw [h1] at hc; cases hc
      clear h1 h2 hend G
      go_wp2_with fail
      refine G2.out.mono ?_; rintro e w2 ⟨rfl, hb2⟩
      have HB2 := Lib.hid hb2
      clear hb2
      go_wp2_with fail
      first | go_returns | (rw [Exit.noGoto_ret]; go_returns)
      exact ⟨_, vs, by rw [HE.out, ← HKE.out, HX.out]; rfl, by rw [← HV.out]; exact owns_next HO.out HB2.out, by rw [HE.out]; exact HBD.out.kept HB2.out, HB.out.trans (HB2.out.mono HB.out.size)⟩
    · have HE := hend h1
      have HX : Hid (errB bs = 171) := by unfold errB Hid; rw [HE.out, ← HKE.out, ← HRr.out, h2]; rfl
      have G2 : Hid (Calls Try.prog 59 #[.slice A n c, .int .i64 k] wr fun e w' => e = .returned (.tuple #[.slice none 0 0, .int .i64 0, .int .i64 171]) ∧ Below wr.heap.size wr w') := G.out.mono fun e w' h => by
        rcases h with ⟨_, he, hb⟩ | ⟨hc, _⟩
        · rw [h2] at he; exact ⟨he, hb⟩
        · rw [h1] at hc; cases hc
      clear h1 h2 hend G
      go_wp2_with fail
      refine G2.out.mono ?_; rintro e w2 ⟨rfl, hb2⟩
      have HB2 := Lib.hid hb2
      clear hb2
      go_wp2_with fail
      first | go_returns | (rw [Exit.noGoto_ret]; go_returns)
      exact ⟨_, vs, by rw [HE.out, ← HKE.out, HX.out]; rfl, by rw [← HV.out]; exact owns_next HO.out HB2.out, by rw [HE.out]; exact HBD.out.kept HB2.out, HB.out.trans (HB2.out.mono HB.out.size)⟩
    · have hl := isB_len h1
      have hrl : r.length = bs.length - k := by rw [HRr.out, List.length_drop]
      obtain ⟨M, hM⟩ : ∃ M, M = lenB r := ⟨_, rfl⟩
      obtain ⟨bd, hbd⟩ : ∃ bd, bd = bodyB r := ⟨_, rfl⟩
      have hbl : bd.length = M := by rw [hbd, bodyB_len h1, hM]
      have HRow : Hid (rowsB bs = (dn ++ [bd]) ++ rowsB (bs.drop (k + M + 7))) := by
        unfold Hid
        rw [HRO.out, ← HRr.out, rowsB_yes h1, ← hM, ← hbd, HRr.out, List.drop_drop, List.append_assoc, Nat.add_assoc]; rfl
      have hkM : k + M + 7 ≤ bs.length := by omega
      have G2 : Hid (Calls Try.prog 59 #[.slice A n c, .int .i64 k] wr fun e w' => ∃ v', e = .returned (.tuple #[v', .int .i64 (k + M + 7), .int .i64 0]) ∧ w'.ownsRow wr.heap.size 5 1 v' bd.length (bts bd) ∧ Below wr.heap.size wr w') := G.out.mono fun e w' h => by
        rcases h with ⟨hc, _⟩ | ⟨_, v', he, ho, hb⟩
        · rw [h1] at hc; cases hc
        · exact ⟨v', by rw [hM]; exact he, by rw [hbl, hbd, hM]; exact ho, hb⟩
      have HKN : Hid (k + M + 7 = endL (dn ++ [bd])) := by unfold Hid; rw [endL_snoc, ← HKE.out, hbl]; omega
      have HVL : Hid (7 * vs.length ≤ bs.length) := by unfold Hid; rw [HBD.out.len]; have := endL_len dn; rw [← HKE.out] at this; omega
      have HBL := Lib.hid hbl
      obtain ⟨kk, hkk⟩ : ∃ kk, kk = k + M + 7 := ⟨_, rfl⟩
      have ek : (k : Int) + (M : Int) + 7 = (kk : Int) := by omega
      rw [ek] at G2
      rw [← hkk] at HKN HRow hkM
      have hkk2 : k < kk := by omega
      clear h1 hend G hl hrl hM hbd hbl ek hkk
      go_wp2_with fail
      refine G2.out.mono ?_; rintro e w2 ⟨v2, rfl, ho2, hb2⟩
      obtain ⟨N2, hN2⟩ : ∃ N2, N2 = bd.length := ⟨_, rfl⟩
      rw [← hN2] at ho2
      have HO2 := Lib.hid ho2
      have HB2 := Lib.hid hb2
      have HN2 := Lib.hid hN2
      obtain ⟨A2, d2, rfl⟩ := owned_slice ho2
      have hVL := HVL.out
      rw [← HV.out] at hVL
      clear ho2 hb2 hN2
      go_wp2_with (at_builtin; refine wpList_append_own _ rfl _ _ 38 rfl w.heap.size 37 i0 _ 1 24 Try.underlying38 hi hz0 hz1 hz2 rfl (by decide) _ V vs rfl ?q6 ⟨w2.heap.size, 0, none⟩ 1 1 [.slice A2 N2 d2] rfl rfl ?q1 ?q0 ?q2 ?q3 ?q4 ?_)
      case q6 => exact owns_alloc (owns_next HO.out HB2.out) _
      case q1 => exact news_alloc w2 [.slice A2 N2 d2] 37
      case q0 =>
        intro u hu
        obtain rfl : u = .slice A2 N2 d2 := (by simpa using hu)
        rfl
      case q2 => unfold maxLen; omega
      case q3 => omega
      case q4 => have h1 := HB2.out.size; have h2 := HB.out.size; simp; omega
      intro v3 w3 ho3 hg3 hl3
      have HO3 := Lib.hid ho3
      have HG3 := Lib.hid hg3
      clear ho3 hg3 hl3
      have F3 : Hid (Fr (fun b => (Value.slice A1 V c1).ownBlock = some b) w2 w3) := ((Fr.refl _ w2).alloc _).grown HG3.out fun b h => .inl h
      have LV : Hid ((vs ++ [Value.slice A2 N2 d2]).length = V + 1) := by unfold Hid; rw [HV.out]; simp
      have BD3 : Hid (Bods w3 w.heap.size (vs ++ [.slice A2 N2 d2]) (dn ++ [bd])) := by
        have h1 := (HBD.out.kept HB2.out).push (by rw [← HN2.out]; exact HO2.out) HB.out.size fun i u g hu hg => HBD.out.lt hu hg
        refine h1.fr F3.out fun i u g hu hg hh => ?_
        obtain ⟨x, _, ho⟩ := h1.at_ hu
        exact head_ne (owns_next HO.out HB2.out) ho g hh hg
      have B3 : Hid (Below w.heap.size w w3) := HB.out.trans ((HB2.out.mono HB.out.size).trans (F3.out.below (Nat.le_trans HB.out.size HB2.out.size) fun b hb => owns_base HO.out hb))
      go_wp2_with fail
      go_roundw
      case rel => exact ⟨vs ++ [.slice A2 N2 d2], dn ++ [bd], kk, by go_num, HKN.out, hkM, HRow.out, by rw [LV.out]; exact HO3.out, BD3.out, B3.out⟩
      case measure => simp [RowKit.intOf]; omega
end Go.Proofs.Ytgohnidndjbjiaa
