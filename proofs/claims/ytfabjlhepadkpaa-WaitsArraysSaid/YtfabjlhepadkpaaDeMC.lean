/-
  Dependencies in the memory: rows of needs; depend.Check, gangerref08.Check.
  depend.Check, gangerref08.Check.
-/
import Derived.Test.YtfabjlhepadkpaaDePQS
import Derived.Test.YtfabjlhepadkpaaSuA
namespace Go.Proofs.Ytfabjlhepadkpaa
set_option linter.unusedVariables false

section
open Go Go.RowKit Go.Lib
set_option maxRecDepth 100000 in
theorem idxU_any (v : Value) (js : List Nat) (x : Nat) (w : World) (h : URow w v js) (hn : js.length ≤ 1048576) :
    Calls Try.prog 72 #[v, .int .u32 (x : Nat)] w fun e w' => (∃ r : Int, e = .returned (.int .i64 r) ∧ (0 ≤ r ↔ x ∈ js)) ∧ w' = w := by
  obtain ⟨a, c, rfl⟩ := h.slice
  have H := Lib.hid h
  obtain ⟨N, hN⟩ : ∃ N, N = js.length := ⟨_, rfl⟩
  have HN := Lib.hid hN
  rw [← hN] at hn ⊢
  clear h hN
  go_enter Try.func72, Try.ntmps72
  go_wp2_with fail
  go_loopw [8] (fun iv wr => ∃ i : Nat, iv = .int .i64 i ∧ i ≤ N ∧ wr = w ∧ Hid (∀ j (hj : j < js.length), j < i → js[j] ≠ x)) (fun iv _ => N - (RowKit.intOf iv).toNat)
  case atStart => exact ⟨0, rfl, Nat.zero_le _, rfl, fun j hj h => by omega⟩
  case round =>
    obtain ⟨i, rfl, hi, rfl, HP⟩ := hrel
    by_cases hlt : i < N
    · have d1 : decide (i < N) = true := decide_eq_true hlt
      have d2 : decide ((i : Int) < (N : Int)) = true := decide_eq_true (by omega)
      have hik : i < js.length := by rw [← HN.out]; exact hlt
      have hH := H.out
      obtain ⟨bb, off, e, hc⟩ := RowG.at hH hik
      subst e
      have x0 := hc wr (Below.refl _ _) 0 _ rfl
      obtain ⟨y, hy⟩ : ∃ y, y = js[i] := ⟨_, rfl⟩
      rw [← hy] at x0
      simp only [Nat.mul_one, Nat.add_zero] at x0
      have hii : (i : Int) < (N : Int) := by omega
      have HY := Lib.hid hy
      clear hc hH hy
      by_cases he : x = y
      · have q1 : ((x : Int) == (y : Int)) = true := by simp [he]
        have q2 : (x == y) = true := by simp [he]
        have hmem : x ∈ js := by rw [he, HY.out]; exact List.getElem_mem hik
        have HMEM := Lib.hid hmem
        clear hmem he
        go_wp2_with fail
        go_ret
        exact ⟨⟨_, rfl, ⟨fun _ => HMEM.out, fun _ => by omega⟩⟩, rfl⟩
      · have q1 : ((x : Int) == (y : Int)) = false := by simp; omega
        have q2 : (x == y) = false := by simp; exact he
        have HF : Hid (∀ j (hj : j < js.length), j < i + 1 → js[j] ≠ x) := fun j hj h => by
          by_cases e : j = i
          · subst e; rw [← HY.out]; exact fun h => he h.symm
          · exact HP.out j hj (by omega)
        clear HP
        go_wp2_with fail
        go_roundw
        case rel => exact ⟨i + 1, by go_num, hlt, trivial, HF.out⟩
        case measure => simp [RowKit.intOf]; omega
    · have d1 : decide (i < N) = false := decide_eq_false hlt
      have d2 : decide ((i : Int) < (N : Int)) = false := decide_eq_false (by omega)
      have HF : Hid (x ∉ js) := fun hm => by
        obtain ⟨j, hj, e⟩ := List.getElem_of_mem hm
        exact HP.out j hj (by have := HN.out; omega) e
      go_wp2_with fail
      go_ret
      exact ⟨⟨_, rfl, ⟨fun h => by omega, fun h => absurd h HF.out⟩⟩, rfl⟩
theorem contU_any (v : Value) (js : List Nat) (x : Nat) (w : World) (h : URow w v js) (hn : js.length ≤ 1048576) :
    Calls Try.prog 64 #[v, .int .u32 (x : Nat)] w fun e w' => e = .returned (.bool (decide (x ∈ js))) ∧ w' = w := by
  have C := Lib.hid (idxU_any v js x w h hn)
  obtain ⟨a, c, rfl⟩ := h.slice
  clear h
  obtain ⟨β, hβ⟩ : ∃ β, β = decide (x ∈ js) := ⟨_, rfl⟩
  have HB := Lib.hid hβ
  rw [← hβ]
  clear hβ
  go_enter Try.func64, Try.ntmps64
  go_wp2_with fail
  refine C.out.mono ?_; rintro e w1 ⟨⟨r, rfl, hr⟩, rfl⟩
  have hd : decide (0 ≤ r) = β := by rw [HB.out]; exact decide_eq_decide.2 hr
  have hd' : decide (r ≥ 0) = β := hd
  clear hr C
  go_wp2_with fail
  go_ret
  exact ⟨by simp, rfl⟩
/-! Needs. -/
/-- A need in the memory: its kind, its jobs' slice, its jobs. -/
abbrev NdM := Int × Value × List Nat
def ndV (p : NdM) : List Value := [.int .i64 p.1, p.2.1]
theorem ndV_len (p : NdM) : (ndV p).length = 2 := rfl
def toNd (p : NdM) : Nd := (p.1, p.2.2)
/-- A row of needs, read. -/
structure NRw (w : World) (v : Value) (l : List NdM) : Prop where
  row : RowG 2 ndV w v l
  jobs : ∀ p ∈ l, URow w p.2.1 p.2.2
  len : l.length ≤ 1048576
  lens : ∀ p ∈ l, p.2.2.length ≤ 1048576
  small : ∀ p ∈ l, ∀ j ∈ p.2.2, j < 4294967296
theorem NRw.kept {w w' : World} {v : Value} {l : List NdM} (h : NRw w v l) (hb : Below w.heap.size w w') : NRw w' v l :=
  ⟨h.row.kept hb, fun p hp => (h.jobs p hp).kept hb, h.len, h.lens, h.small⟩
theorem NRw.at {w w' : World} {a : Option Addr} {n c : Nat} {l : List NdM} (h : NRw w (.slice a n c) l) (hb : Below w.heap.size w w') {k : Nat} (hk : k < l.length) :
    ∃ b off, a = some ⟨b, off, none⟩ ∧ w'.cell? ⟨b, off + k * 2, none⟩ = some (.int .i64 l[k].1) ∧ w'.cell? ⟨b, off + k * 2 + 1, none⟩ = some l[k].2.1 ∧ URow w' l[k].2.1 l[k].2.2 ∧ l[k].2.2.length ≤ 1048576 := by
  obtain ⟨b, off, e, hc⟩ := RowG.at h.row hk
  have h0 := hc w' hb 0 _ rfl
  have h1 := hc w' hb 1 _ rfl
  exact ⟨b, off, e, h0, h1, (h.jobs _ (List.getElem_mem hk)).kept hb, h.lens _ (List.getElem_mem hk)⟩
def okNb (k : Int) (js : List Nat) : Bool := decide (okN (k, js))
set_option maxRecDepth 100000 in
set_option maxHeartbeats 2000000 in
theorem isNeed_any (k : Int) (v : Value) (js : List Nat) (w : World) (h : URow w v js) (hn : js.length ≤ 1048576) :
    Calls Try.prog 55 #[.agg #[.int .i64 k, v]] w fun e w' => e = .returned (.bool (okNb k js)) ∧ Below w.heap.size w w' := by
  obtain ⟨a, c, rfl⟩ := h.slice
  obtain ⟨X, hX⟩ : ∃ X, X = w.alloc (.cells #[.int .i64 k, .slice a js.length c] 58) := ⟨_, rfl⟩
  have hb : Below w.heap.size w X := by rw [hX]; exact (Below.refl _ _).alloc (Nat.le_refl _) _
  have C := Lib.hid (contU_any (.slice a js.length c) js 0 X (h.kept hb) hn)
  have HB := Lib.hid hb
  obtain ⟨N, hN⟩ : ∃ N, N = js.length := ⟨_, rfl⟩
  have HN := Lib.hid hN
  obtain ⟨ρ, hρ⟩ : ∃ β, β = okNb k js := ⟨_, rfl⟩
  have HR := Lib.hid hρ
  obtain ⟨β, hβ⟩ : ∃ β, β = decide (0 ∈ js) := ⟨_, rfl⟩
  have HZ := Lib.hid hβ
  rw [← hβ] at C
  rw [← hN] at C hX
  rw [← hN] at hn ⊢
  rw [← hρ]
  have HXX := Lib.hid hX
  clear h hN hρ hβ hb hX
  unfold okNb okN at HR
  by_cases h5 : k = 5
  · subst h5
    cases hq : ((N : Int) == 0)
    · have hq2 : (N == 0) = false := by simp at hq ⊢; omega
      go_enter Try.func55, Try.ntmps55
      go_wp2_with fail
      go_ret
      refine ⟨?_, by go_grown⟩
      have : ρ = false := by
        rw [HR.out]
        have hN0 : ¬ js.length = 0 := by rw [← HN.out]; simp at hq2; exact hq2
        simp [hN0]
      simp [this]
    · have hq2 : (N == 0) = true := by simp at hq ⊢; omega
      go_enter Try.func55, Try.ntmps55
      go_wp2_with fail
      go_ret
      refine ⟨?_, by go_grown⟩
      have : ρ = true := by
        rw [HR.out]
        have hN0 : js.length = 0 := by rw [← HN.out]; simpa using hq2
        simp [hN0]
      simp [this]
  · by_cases h14 : 1 ≤ k ∧ k ≤ 4
    · by_cases n1 : 1 ≤ N
      · have g1 : decide ((N : Int) ≥ 1) = true := decide_eq_true (by omega)
        have g1' : decide (1 ≤ (N : Int)) = true := decide_eq_true (by omega)
        have g1'' : decide (1 ≤ N) = true := decide_eq_true n1
        by_cases n2 : N ≤ 20
        · have g2 : decide ((N : Int) ≤ 20) = true := decide_eq_true (by omega)
          have g2' : decide (N ≤ 20) = true := decide_eq_true n2
          have HE : Hid (ρ = !β) := by
            unfold Hid
            rw [HR.out, HZ.out]
            have := HN.out
            have e1 : 1 ≤ js.length := by omega
            have e2 : js.length ≤ 20 := by omega
            simp only [h14.1, h14.2, e1, e2, h5]
            by_cases h0 : 0 ∈ js <;> simp [h0]
          have hbx : Blk X w.heap.size #[.int .i64 k, .slice a N c] 58 := by rw [HXX.out]; exact Blk.new w _ _
          have y0 := hbx.cell 0
          have y1 := hbx.cell 1
          simp at y0 y1
          have hk : k = 1 ∨ k = 2 ∨ k = 3 ∨ k = 4 := by omega
          clear h14 h5 hbx
          rcases hk with rfl | rfl | rfl | rfl
          all_goals
            go_enter Try.func55, Try.ntmps55
            go_upto_region 1 with fail
            rw [← HXX.out]
            go_wp2_with fail
            refine C.out.mono ?_; rintro e w1 ⟨rfl, hw⟩
            replace hw := hw.symm; subst hw
            go_wp2_with fail
            go_ret
            exact ⟨by rw [HE.out]; rfl, HB.out⟩
        · have g2 : decide ((N : Int) ≤ 20) = false := decide_eq_false (by omega)
          have g2' : decide (N ≤ 20) = false := decide_eq_false n2
          have HE : Hid (ρ = false) := by
            unfold Hid
            rw [HR.out]
            have := HN.out
            apply decide_eq_false
            rintro (⟨_, _, h3, h4, _⟩ | ⟨h3, h4⟩) <;> dsimp only at * <;> omega
          have hk : k = 1 ∨ k = 2 ∨ k = 3 ∨ k = 4 := by omega
          clear h14 h5
          rcases hk with rfl | rfl | rfl | rfl
          all_goals
            go_enter Try.func55, Try.ntmps55
            go_wp2_with fail
            go_ret
            exact ⟨by rw [HE.out]; rfl, by go_grown⟩
      · have g1 : decide ((N : Int) ≥ 1) = false := decide_eq_false (by omega)
        have g1' : decide (1 ≤ (N : Int)) = false := decide_eq_false (by omega)
        have g1'' : decide (1 ≤ N) = false := decide_eq_false n1
        have HE : Hid (ρ = false) := by
          unfold Hid
          rw [HR.out]
          have := HN.out
          apply decide_eq_false
          rintro (⟨_, _, h3, h4, _⟩ | ⟨h3, h4⟩) <;> dsimp only at * <;> omega
        have hk : k = 1 ∨ k = 2 ∨ k = 3 ∨ k = 4 := by omega
        clear h14 h5
        rcases hk with rfl | rfl | rfl | rfl
        all_goals
          go_enter Try.func55, Try.ntmps55
          go_wp2_with fail
          go_ret
          exact ⟨by rw [HE.out]; rfl, by go_grown⟩
    · have e1 : (k == 1) = false := by simp; omega
      have e2 : (k == 2) = false := by simp; omega
      have e3 : (k == 3) = false := by simp; omega
      have e4 : (k == 4) = false := by simp; omega
      have e5 : (k == 5) = false := by simp; omega
      have HE : Hid (ρ = false) := by
        unfold Hid
        rw [HR.out]
        apply decide_eq_false
        rintro (⟨_, _, h3, h4, _⟩ | ⟨h3, h4⟩) <;> dsimp only at * <;> omega
      clear h14 h5
      go_enter Try.func55, Try.ntmps55
      go_wp2_with fail
      go_ret
      exact ⟨by rw [HE.out]; rfl, by go_grown⟩
end

section
open Go Go.RowKit Go.Lib
def ndsOf (l : List NdM) : List Nd := l.map toNd
theorem ndsOf_len (l : List NdM) : (ndsOf l).length = l.length := List.length_map _
theorem okD_of {any : Bool} {l : List NdM} (h1 : l.length ≤ 20) (h2 : any = true → 2 ≤ l.length) (h3 : ∀ p ∈ l, okN (toNd p)) : okD any (ndsOf l) :=
  ⟨by rw [ndsOf_len]; exact h1, by rw [ndsOf_len]; exact h2, fun n hn => by obtain ⟨p, hp, rfl⟩ := List.mem_map.1 hn; exact h3 p hp⟩
theorem okD_mem {any : Bool} {l : List NdM} (h : okD any (ndsOf l)) {p : NdM} (hp : p ∈ l) : okN (toNd p) := h.2.2 _ (List.mem_map.2 ⟨p, hp, rfl⟩)
set_option maxRecDepth 100000 in
set_option maxHeartbeats 4000000 in
theorem check_any (any : Bool) (v : Value) (l : List NdM) (w : World) (h : NRw w v l) :
    Calls Try.prog 45 #[.agg #[.bool any, v]] w fun e w' => e = .returned (.int .i64 (chkD any (ndsOf l))) ∧ Below w.heap.size w w' := by
  obtain ⟨a, c, rfl⟩ := h.row.slice
  obtain ⟨r, hr⟩ : ∃ r, r = chkD any (ndsOf l) := ⟨_, rfl⟩
  have HR := Lib.hid hr
  rw [← hr]
  obtain ⟨N, hN⟩ : ∃ N, N = l.length := ⟨_, rfl⟩
  have HN := Lib.hid hN
  have HL := Lib.hid h
  have hlen := h.len
  rw [← hN] at hlen ⊢
  obtain ⟨gx, hgx⟩ : ∃ g, g = w.heap.size := ⟨_, rfl⟩
  obtain ⟨X, hX⟩ : ∃ X, X = w.alloc (.cells #[.bool any, .slice a N c] 35) := ⟨_, rfl⟩
  have hbX : Below w.heap.size w X := by rw [hX]; exact (Below.refl _ _).alloc (Nat.le_refl _) _
  have hbk : Blk X gx #[.bool any, .slice a N c] 35 := by rw [hX, hgx]; exact Blk.new w _ _
  have HBX := Lib.hid hbX
  have y0 := hbk.cell 0
  have y1 := hbk.cell 1
  simp at y0 y1
  have HXX := Lib.hid hX
  have HGX := Lib.hid hgx
  clear h hr hN hbX hbk hX hgx
  by_cases h20 : 20 < N
  · have g1 : decide ((N : Int) > 20) = true := decide_eq_true (by omega)
    have g1' : decide (20 < (N : Int)) = true := decide_eq_true (by omega)
    have g1'' : decide (20 < N) = true := decide_eq_true h20
    have HE : Hid (r = 2) := by
      unfold Hid; rw [HR.out]; unfold chkD; rw [if_neg]
      rintro ⟨h1, _⟩
      rw [ndsOf_len, ← HN.out] at h1; omega
    go_enter Try.func45, Try.ntmps45
    go_upto_region 1 with fail
    rw [← HGX.out, ← HXX.out]
    go_wp2_with fail
    go_ret
    exact ⟨by rw [HE.out]; rfl, HBX.out⟩
  · have g1 : decide ((N : Int) > 20) = false := decide_eq_false (by omega)
    have g1' : decide (20 < (N : Int)) = false := decide_eq_false (by omega)
    have g1'' : decide (20 < N) = false := decide_eq_false h20
    by_cases hany : any = true ∧ N < 2
    · obtain ⟨rfl, h2⟩ := hany
      have g2 : decide ((N : Int) < 2) = true := decide_eq_true (by omega)
      have g2' : decide (N < 2) = true := decide_eq_true h2
      have HE : Hid (r = 2) := by
        unfold Hid; rw [HR.out]; unfold chkD; rw [if_neg]
        rintro ⟨_, h1, _⟩
        have := h1 rfl
        rw [ndsOf_len, ← HN.out] at this; omega
      go_enter Try.func45, Try.ntmps45
      go_upto_region 1 with fail
      rw [← HGX.out, ← HXX.out]
      go_wp2_with fail
      go_ret
      exact ⟨by rw [HE.out]; rfl, HBX.out⟩
    · have HA2 : Hid (any = true → 2 ≤ N) := fun e => by
        have : ¬ N < 2 := fun h2 => hany ⟨e, h2⟩
        omega
      have HE : Hid ((∀ q (hq : q < l.length), okN (toNd l[q])) → r = 0) := fun hh => by
        rw [HR.out]; unfold chkD; rw [if_pos]
        exact okD_of (by rw [← HN.out]; omega) (by rw [← HN.out]; exact HA2.out) fun p hp => by
          obtain ⟨q, hq, rfl⟩ := List.getElem_of_mem hp
          exact hh q hq
      have HF : Hid (∀ q (hq : q < l.length), ¬ okN (toNd l[q]) → r = 2) := fun q hq hh => by
        rw [HR.out]; unfold chkD; rw [if_neg]
        exact fun h => hh (okD_mem h (List.getElem_mem hq))
      have main : ∀ β, β = any → Calls Try.prog 45 #[.agg #[.bool β, .slice a N c]] w fun e w' => e = .returned (.int .i64 r) ∧ Below w.heap.size w w' := by
        intro β hβ
        cases β with
        | true =>
          have hN2 := HA2.out hβ.symm
          have g2 : decide ((N : Int) < 2) = false := decide_eq_false (by omega)
          have g2' : decide (N < 2) = false := decide_eq_false (by omega)
          rw [← hβ] at y0 HXX
          clear hany hβ HR
          go_enter Try.func45, Try.ntmps45
          go_upto_region 1 with fail
          rw [← HGX.out, ← HXX.out]
          go_wp2_with fail
          go_loopw [22] (fun iv wr => ∃ i : Nat, i ≤ N ∧ iv = .int .i64 (i : Nat) ∧ Hid (∀ q (hq : q < l.length), q < i → okN (toNd l[q])) ∧ Hid (Below X.heap.size X wr)) (fun iv _ => N - (RowKit.intOf iv).toNat)
          case atStart => exact ⟨0, Nat.zero_le _, rfl, fun q _ h => by omega, Below.refl _ _⟩
          case round =>
            obtain ⟨i, hi, rfl, HO, HB⟩ := hrel
            by_cases hlt : i < N
            · have d1 : decide ((i : Int) < (N : Int)) = true := decide_eq_true (by omega)
              have d1' : decide (i < N) = true := decide_eq_true hlt
              have hii : (i : Int) < (N : Int) := by omega
              have hik : i < l.length := by rw [← HN.out]; exact hlt
              have HBw := Lib.hid (below_next HB.out HBX.out)
              obtain ⟨bb, off, e, x0, x1, hu, hul⟩ := NRw.at HL.out HBw.out hik
              subst e
              have HQ : Hid (okNb l[i].1 l[i].2.2 = true → ∀ q (hq : q < l.length), q < i + 1 → okN (toNd l[q])) := fun hh q hq h2 => by
                by_cases e : q = i
                · subst e; exact of_decide_eq_true hh
                · exact HO.out q hq (by omega)
              have HZ : Hid (okNb l[i].1 l[i].2.2 = false → r = 2) := fun hh => HF.out i hik (of_decide_eq_false hh)
              obtain ⟨p, hp⟩ : ∃ p, p = l[i] := ⟨_, rfl⟩
              rw [← hp] at x0 x1 hu hul HQ HZ
              obtain ⟨k, pv, js⟩ := p
              dsimp only at x0 x1 hu hul HQ HZ
              obtain ⟨W, hW⟩ : ∃ W, W = wr.alloc (.cells #[.int .i64 k, pv] 58) := ⟨_, rfl⟩
              have hbW : Below wr.heap.size wr W := by rw [hW]; exact (Below.refl _ _).alloc (Nat.le_refl _) _
              have hbn : Blk W wr.heap.size #[.int .i64 k, pv] 58 := by rw [hW]; exact Blk.new _ _ _
              have C := Lib.hid (isNeed_any k pv js W (hu.kept hbW) hul)
              have z0 := hbn.cell 0
              have z1 := hbn.cell 1
              simp at z0 z1
              have HBW := Lib.hid (below_next hbW HB.out)
              obtain ⟨pa, pc, rfl⟩ := hu.slice
              obtain ⟨β, hβ⟩ : ∃ β, β = okNb k js := ⟨_, rfl⟩
              rw [← hβ] at C HQ HZ
              obtain ⟨M, hM⟩ : ∃ M, M = js.length := ⟨_, rfl⟩
              rw [← hM] at x1 C z1 hW
              clear hu hul hp hbW hbn hβ hM HO
              go_upto_region 6 with fail
              rw [← hW]
              clear hW x0 x1
              go_wp2_with fail
              refine C.out.mono ?_; rintro e w5 ⟨rfl, b5⟩
              have HB5 := Lib.hid (below_next b5 HBW.out)
              clear b5 C z0 z1
              cases β with
              | true =>
                go_wp2_with fail
                go_roundw
                case rel => exact ⟨i + 1, hlt, by go_num, HQ.out trivial, HB5.out⟩
                case measure => simp [RowKit.intOf]; omega
              | false =>
                have HB6 := Lib.hid (below_next HB5.out HBX.out)
                go_wp2_with fail
                go_ret
                exact ⟨by rw [HZ.out trivial]; rfl, HB6.out⟩
            · have d1 : decide ((i : Int) < (N : Int)) = false := decide_eq_false (by omega)
              have d1' : decide (i < N) = false := decide_eq_false hlt
              have HRR : Hid (r = 0) := HE.out fun q hq => HO.out q hq (by have := HN.out; omega)
              have HB6 := Lib.hid (below_next HB.out HBX.out)
              go_wp2_with fail
              go_ret
              exact ⟨by rw [HRR.out]; rfl, HB6.out⟩
        | false =>
          rw [← hβ] at y0 HXX
          clear hany hβ HR
          go_enter Try.func45, Try.ntmps45
          go_upto_region 1 with fail
          rw [← HGX.out, ← HXX.out]
          go_wp2_with fail
          go_loopw [22] (fun iv wr => ∃ i : Nat, i ≤ N ∧ iv = .int .i64 (i : Nat) ∧ Hid (∀ q (hq : q < l.length), q < i → okN (toNd l[q])) ∧ Hid (Below X.heap.size X wr)) (fun iv _ => N - (RowKit.intOf iv).toNat)
          case atStart => exact ⟨0, Nat.zero_le _, rfl, fun q _ h => by omega, Below.refl _ _⟩
          case round =>
            obtain ⟨i, hi, rfl, HO, HB⟩ := hrel
            by_cases hlt : i < N
            · have d1 : decide ((i : Int) < (N : Int)) = true := decide_eq_true (by omega)
              have d1' : decide (i < N) = true := decide_eq_true hlt
              have hii : (i : Int) < (N : Int) := by omega
              have hik : i < l.length := by rw [← HN.out]; exact hlt
              have HBw := Lib.hid (below_next HB.out HBX.out)
              obtain ⟨bb, off, e, x0, x1, hu, hul⟩ := NRw.at HL.out HBw.out hik
              subst e
              have HQ : Hid (okNb l[i].1 l[i].2.2 = true → ∀ q (hq : q < l.length), q < i + 1 → okN (toNd l[q])) := fun hh q hq h2 => by
                by_cases e : q = i
                · subst e; exact of_decide_eq_true hh
                · exact HO.out q hq (by omega)
              have HZ : Hid (okNb l[i].1 l[i].2.2 = false → r = 2) := fun hh => HF.out i hik (of_decide_eq_false hh)
              obtain ⟨p, hp⟩ : ∃ p, p = l[i] := ⟨_, rfl⟩
              rw [← hp] at x0 x1 hu hul HQ HZ
              obtain ⟨k, pv, js⟩ := p
              dsimp only at x0 x1 hu hul HQ HZ
              obtain ⟨W, hW⟩ : ∃ W, W = wr.alloc (.cells #[.int .i64 k, pv] 58) := ⟨_, rfl⟩
              have hbW : Below wr.heap.size wr W := by rw [hW]; exact (Below.refl _ _).alloc (Nat.le_refl _) _
              have hbn : Blk W wr.heap.size #[.int .i64 k, pv] 58 := by rw [hW]; exact Blk.new _ _ _
              have C := Lib.hid (isNeed_any k pv js W (hu.kept hbW) hul)
              have z0 := hbn.cell 0
              have z1 := hbn.cell 1
              simp at z0 z1
              have HBW := Lib.hid (below_next hbW HB.out)
              obtain ⟨pa, pc, rfl⟩ := hu.slice
              obtain ⟨β, hβ⟩ : ∃ β, β = okNb k js := ⟨_, rfl⟩
              rw [← hβ] at C HQ HZ
              obtain ⟨M, hM⟩ : ∃ M, M = js.length := ⟨_, rfl⟩
              rw [← hM] at x1 C z1 hW
              clear hu hul hp hbW hbn hβ hM HO
              go_upto_region 6 with fail
              rw [← hW]
              clear hW x0 x1
              go_wp2_with fail
              refine C.out.mono ?_; rintro e w5 ⟨rfl, b5⟩
              have HB5 := Lib.hid (below_next b5 HBW.out)
              clear b5 C z0 z1
              cases β with
              | true =>
                go_wp2_with fail
                go_roundw
                case rel => exact ⟨i + 1, hlt, by go_num, HQ.out trivial, HB5.out⟩
                case measure => simp [RowKit.intOf]; omega
              | false =>
                have HB6 := Lib.hid (below_next HB5.out HBX.out)
                go_wp2_with fail
                go_ret
                exact ⟨by rw [HZ.out trivial]; rfl, HB6.out⟩
            · have d1 : decide ((i : Int) < (N : Int)) = false := decide_eq_false (by omega)
              have d1' : decide (i < N) = false := decide_eq_false hlt
              have HRR : Hid (r = 0) := HE.out fun q hq => HO.out q hq (by have := HN.out; omega)
              have HB6 := Lib.hid (below_next HB.out HBX.out)
              go_wp2_with fail
              go_ret
              exact ⟨by rw [HRR.out]; rfl, HB6.out⟩
      exact main any rfl
end

end Go.Proofs.Ytfabjlhepadkpaa
