/-
  Layer 17: Get and gangerref17.Get alike, at any bytes and any place; Own at the rows that All hands out.
-/
import Derived.Test.YtbgdhmacpgnfeaaCrateO
import Derived.Test.YtbgdhmacpgnfeaaOwn
namespace Go.Proofs.Ytbgdhmacpgnfeaa
open Go Go.RowKit Go.Lib
set_option linter.unusedVariables false

def getX (bs : List UInt8) (k : Int) : List UInt8 := if k < 0 ∨ (bs.length : Int) < k then [] else if isB (bs.drop k.toNat) = true then bodyB (bs.drop k.toNat) else []
def getN (bs : List UInt8) (k : Int) : Int := if k < 0 ∨ (bs.length : Int) < k then 0 else if isB (bs.drop k.toNat) = true then k + lenB (bs.drop k.toNat) + 7 else 0
def getE (bs : List UInt8) (k : Int) : Int := if k < 0 ∨ (bs.length : Int) < k then 2 else if isB (bs.drop k.toNat) = true then 0 else noB (bs.drop k.toNat)
def GetU (w : World) (bs : List UInt8) (k : Int) (e : Ending) (w' : World) : Prop :=
  ∃ v', e = .returned (.tuple #[v', .int .i64 (getN bs k), .int .i64 (getE bs k)]) ∧ w'.ownsRow w.heap.size 5 1 v' (getX bs k).length (bts (getX bs k)) ∧ Below w.heap.size w w'
theorem getU_out {w w' : World} {bs : List UInt8} {k : Int} {e : Ending} (h : k < 0 ∨ (bs.length : Int) < k) (he : e = .returned (.tuple #[.slice none 0 0, .int .i64 0, .int .i64 2])) (hw : w' = w) : GetU w bs k e w' := by
  subst hw
  exact ⟨.slice none 0 0, by unfold getN getE; rw [if_pos h, if_pos h]; exact he, by unfold getX; rw [if_pos h]; exact World.ownsRow_nil _ _ _ _, Below.refl _ _⟩
theorem getU_in {w w' : World} {bs : List UInt8} {k : Nat} {e : Ending} (hk : k ≤ bs.length) (h : GetTo w k (bs.drop k) e w') : GetU w bs k e w' := by
  have h0 : ¬ ((k : Int) < 0 ∨ (bs.length : Int) < k) := by omega
  rcases h with ⟨h1, he, hb⟩ | ⟨h1, v', he, ho, hb⟩
  · refine ⟨.slice none 0 0, ?_, ?_, hb⟩
    · unfold getN getE; rw [if_neg h0, if_neg h0, Int.toNat_natCast, h1]; exact he
    · unfold getX; rw [if_neg h0, Int.toNat_natCast, h1]; exact World.ownsRow_nil _ _ _ _
  · refine ⟨v', ?_, ?_, hb⟩
    · unfold getN getE; rw [if_neg h0, if_neg h0, Int.toNat_natCast, h1]; exact he
    · unfold getX; rw [if_neg h0, Int.toNat_natCast, h1]
      show w'.ownsRow w.heap.size _ 1 v' (bodyB (bs.drop k)).length (bts (bodyB (bs.drop k)))
      rw [bodyB_len h1]; exact ho
theorem get_uni {w : World} {K : Nat → Prop} {A : Option Addr} {n c : Nat} {bs : List UInt8} (h : Rd w K (.slice A n c) (bts bs)) (hl : n = bs.length) (k : Int) (hn : bs.length ≤ 1000000) :
    Calls Try.prog 19 #[.slice A n c, .int .i64 k] w (GetU w bs k) := by
  by_cases h0 : k < 0 ∨ (bs.length : Int) < k
  · exact (get_out w k (by rw [hl]; exact h0)).mono fun e w' ⟨he, hw⟩ => getU_out h0 he hw
  · obtain ⟨k', rfl⟩ := Int.eq_ofNat_of_zero_le (a := k) (by omega)
    exact (get_any h k' (by omega) (by omega)).mono fun e w' he => getU_in (by omega) he
theorem refGet_uni {w : World} {K : Nat → Prop} {A : Option Addr} {n c : Nat} {bs : List UInt8} (h : Rd w K (.slice A n c) (bts bs)) (hl : n = bs.length) (k : Int) (hn : bs.length ≤ 1000000) :
    Calls Try.prog 20 #[.slice A n c, .int .i64 k] w (GetU w bs k) := by
  by_cases h0 : k < 0 ∨ (bs.length : Int) < k
  · exact (refGet_out w k (by rw [hl]; exact h0)).mono fun e w' ⟨he, hw⟩ => getU_out h0 he hw
  · obtain ⟨k', rfl⟩ := Int.eq_ofNat_of_zero_le (a := k) (by omega)
    exact (refGet_any h k' (by omega) hn).mono fun e w' he => getU_in (by omega) he
theorem zip_get (vs : List Value) (xs : List (List UInt8)) (i n : Nat) (v : Value) (h : (List.zipWith (fun v x => (v, x.length)) vs xs)[i]? = some (v, n)) : vs[i]? = some v ∧ ∃ x : List UInt8, xs[i]? = some x ∧ n = x.length := by
  rw [List.getElem?_zipWith] at h
  cases hv : vs[i]? with
  | none => rw [hv] at h; cases xs[i]? <;> cases h
  | some u =>
    cases hx : xs[i]? with
    | none => rw [hv, hx] at h; cases h
    | some x =>
      rw [hv, hx] at h
      obtain ⟨rfl, rfl⟩ : u = v ∧ x.length = n := by simpa using h
      exact ⟨rfl, x, rfl, rfl⟩
theorem own_nil (w : World) (c : Nat) : Calls Try.prog 18 #[.slice none 0 c] w fun e w' => e = .returned (.bool true) ∧ w' = w := by
  go_enter Try.func18, Try.ntmps18
  go_wp2_with fail
  refine wp_loop_rounds 1 ?_
  rw [rounds_succ]
  go_wp2_with fail
  refine wp_loop_rounds 1 ?_
  rw [rounds_succ]
  go_wp2_with fail
  refine wp_loop_rounds 1 ?_
  rw [rounds_succ]
  go_wp2_with fail
  go_returns
  exact ⟨rfl, rfl⟩
/-- Own at the rows that All hands out. -/
theorem own_bods {w : World} {base : Nat} {v : Value} {vs : List Value} {xs : List (List UInt8)} (ho : w.ownsRow base 22 1 v vs.length vs) (hb : Bods w base vs xs) (hx : ∀ x ∈ xs, x.length ≤ 8000) (hn : vs.length ≤ 40) (hbase : base ≤ w.heap.size) :
    Calls Try.prog 18 #[v] w fun e w' => e = .returned (.bool true) ∧ Below base w w' := by
  have hl := hb.len
  rcases ho with ⟨h1, ⟨rfl, h0⟩ | ⟨g, cap, cur, rfl, hg, hcur, hnc, hcm, hsz, htk⟩⟩
  · exact (own_nil w 0).mono fun e w' ⟨he, hw⟩ => ⟨he, by subst hw; exact Below.refl _ _⟩
  · have hzl : (List.zipWith (fun v (x : List UInt8) => (v, x.length)) vs xs).length = vs.length := by rw [List.length_zipWith]; omega
    have hat : ∀ (i : Nat) (u : Value), vs[i]? = some u → cur[i]? = some u := fun i u hu => by
      have hi := (List.getElem?_eq_some_iff.1 hu).1
      rw [← htk, Nat.mul_one, List.getElem?_take_of_lt hi] at hu
      simpa using hu
    have ho : w.ownsRow base 22 1 (.slice (some ⟨g, 0, none⟩) vs.length cap) vs.length vs := ⟨h1, .inr ⟨g, cap, cur, rfl, hg, hcur, hnc, hcm, hsz, htk⟩⟩
    have A : OwnArg base (List.zipWith (fun v (x : List UInt8) => (v, x.length)) vs xs) g w := by
      refine ⟨⟨cur, hcur, fun i u n h => hat i u (zip_get vs xs i n u h).1⟩, ?_, ?_, ?_, by omega, ?_, hbase⟩
      · rintro i j ⟨u1, n1⟩ ⟨u2, n2⟩ hij h1 h2
        obtain ⟨a1, _⟩ := zip_get vs xs i n1 u1 h1
        obtain ⟨a2, _⟩ := zip_get vs xs j n2 u2 h2
        rcases Option.eq_none_or_eq_some u1.ownBlock with h | ⟨k, h⟩
        · exact .inl h
        · exact .inr fun e => hb.apart i j u1 u2 k hij a1 a2 h (by rw [← e]; exact h)
      · intro i u n h
        obtain ⟨a1, x, hx1, rfl⟩ := zip_get vs xs i n u h
        exact .inr (head_ne ho (hb.own i u x a1 hx1) g rfl)
      · intro i u n h
        obtain ⟨a1, x, hx1, rfl⟩ := zip_get vs xs i n u h
        exact ⟨_, by rw [← bts_cellsB x]; exact hb.own i u x a1 hx1⟩
      · intro i u n h
        obtain ⟨a1, x, hx1, rfl⟩ := zip_get vs xs i n u h
        have := hx x (List.mem_of_getElem? hx1); omega
    have := own_cap base g cap _ w A
    rw [hzl] at this
    exact this
theorem rowsB_short : ∀ (m : Nat) (r : List UInt8), r.length ≤ m → ∀ x ∈ rowsB r, x.length ≤ 8000
  | 0, r, hm, x, hx => by
    obtain rfl : r = [] := List.eq_nil_of_length_eq_zero (by omega)
    rw [rowsB_no isB_nil] at hx; simp at hx
  | m + 1, r, hm, x, hx => by
    cases h : isB r with
    | false => rw [rowsB_no h] at hx; simp at hx
    | true =>
      rw [rowsB_yes h] at hx
      rcases List.mem_cons.1 hx with rfl | hx
      · rw [bodyB_len h]; exact isB_short h
      · have := isB_len h
        exact rowsB_short m _ (by rw [List.length_drop]; omega) x hx
end Go.Proofs.Ytbgdhmacpgnfeaa
