/-
  waits.isSingle, waits.wheres.
  PLAIN: what a dependency says by those jobs alone that it names, and by all of them, is the same.
  waits.say, Say.
  waits.Say, saying, Ready, Never.
-/
import Derived.Test.YtfabjlhepadkpaaWtAE
import Derived.Test.YtfabjlhepadkpaaDeJJ
import Derived.Test.YtfabjlhepadkpaaDeKZ
import Derived.Test.YtfabjlhepadkpaaSuHI
import Derived.Test.YtfabjlhepadkpaaOwnG
namespace Go.Proofs.Ytfabjlhepadkpaa
set_option linter.unusedVariables false

section
open Go Go.RowKit Go.Lib
def isFive (p : NdM) : Bool := p.1 == 5
theorem five_any (k : Int) (v : Value) (w : World) :
    Calls Try.prog 54 #[.agg #[.int .i64 k, v]] w fun e w' => e = .returned (.bool (k == 5)) ∧ Below w.heap.size w w' := by
  obtain ⟨r, hr⟩ : ∃ r, r = (k == 5) := ⟨_, rfl⟩
  have q := hr.symm
  rw [← hr]
  clear hr
  go_enter Try.func54, Try.ntmps54
  go_wp2_with fail
  go_ret
  exact ⟨by first | rfl | rw [q], by go_grown⟩
set_option maxRecDepth 100000 in
set_option maxHeartbeats 2000000 in
theorem idxFive_any (v : Value) (l : List NdM) (w : World) (h : NRw w v l) :
    Calls Try.prog 63 #[v, .func (.func 54) #[] #[]] w fun e w' => e = .returned (.int .i64 (idxG isFive l)) ∧ Below w.heap.size w w' := by
  obtain ⟨a, c, rfl⟩ := h.row.slice
  obtain ⟨r, hr⟩ : ∃ r, r = idxG isFive l := ⟨_, rfl⟩
  have HE : Hid ((∀ q (hq : q < l.length), isFive l[q] = false) → r = -1) := fun hh => by rw [hr]; exact idxG_none hh
  have HF : Hid (∀ k (hk : k < l.length), (∀ q (hq : q < l.length), q < k → isFive l[q] = false) → isFive l[k] = true → r = k) := fun k hk h1 h2 => by rw [hr]; exact idxG_at hk h1 h2
  rw [← hr]
  obtain ⟨N, hN⟩ : ∃ N, N = l.length := ⟨_, rfl⟩
  have HN := Lib.hid hN
  have HL := Lib.hid h
  have hlen := h.len
  rw [← hN] at hlen ⊢
  clear h hN hr
  go_enter Try.func63, Try.ntmps63
  go_wp2_with fail
  go_loopw [8] (fun iv wr => ∃ i : Nat, i ≤ N ∧ iv = .int .i64 (i : Nat) ∧ Hid (∀ q (hq : q < l.length), q < i → isFive l[q] = false) ∧ Hid (Below w.heap.size w wr)) (fun iv _ => N - (RowKit.intOf iv).toNat)
  case atStart => exact ⟨0, Nat.zero_le _, rfl, fun q _ h => by omega, Below.refl _ _⟩
  case round =>
    obtain ⟨i, hi, rfl, HO, HB⟩ := hrel
    by_cases hlt : i < N
    · have d1 : decide ((i : Int) < (N : Int)) = true := decide_eq_true (by omega)
      have d1' : decide (i < N) = true := decide_eq_true hlt
      have hii : (i : Int) < (N : Int) := by omega
      have hik : i < l.length := by rw [← HN.out]; exact hlt
      obtain ⟨bb, off, e, x0, x1, _, _⟩ := NRw.at HL.out HB.out hik
      subst e
      have HQ : Hid (isFive l[i] = false → ∀ q (hq : q < l.length), q < i + 1 → isFive l[q] = false) := fun hh q hq h2 => by
        by_cases e : q = i
        · subst e; exact hh
        · exact HO.out q hq (by omega)
      have HZ : Hid (isFive l[i] = true → r = i) := fun hh => HF.out i hik HO.out hh
      obtain ⟨o, ho⟩ : ∃ o, o = l[i] := ⟨_, rfl⟩
      rw [← ho] at x0 x1 HQ HZ
      obtain ⟨k, pv, js⟩ := o
      unfold isFive at HQ HZ
      dsimp only at x0 x1 HQ HZ
      have C := Lib.hid (five_any k pv wr)
      clear ho
      obtain ⟨β, hβ⟩ : ∃ β, β = (k == 5) := ⟨_, rfl⟩
      rw [← hβ] at C HQ HZ
      have HQ2 : Hid (β = false → ∀ q (hq : q < l.length), q < i + 1 → isFive l[q] = false) := HQ.out
      clear hβ HO HQ
      cases β with
      | true =>
        go_wp2_with fail
        refine C.out.mono ?_; rintro e w5 ⟨rfl, b5⟩
        have HB5 := Lib.hid (below_next b5 HB.out)
        clear b5 C
        go_wp2_with fail
        go_ret
        exact ⟨by rw [HZ.out trivial]; rfl, HB5.out⟩
      | false =>
        go_wp2_with fail
        refine C.out.mono ?_; rintro e w5 ⟨rfl, b5⟩
        have HB5 := Lib.hid (below_next b5 HB.out)
        clear b5 C
        go_wp2_with fail
        go_roundw
        case rel => exact ⟨i + 1, hlt, by go_num, HQ2.out trivial, HB5.out⟩
        case measure => simp [RowKit.intOf]; omega
    · have d1 : decide ((i : Int) < (N : Int)) = false := decide_eq_false (by omega)
      have d1' : decide (i < N) = false := decide_eq_false hlt
      have HRR : Hid (r = -1) := HE.out fun q hq => HO.out q hq (by have := HN.out; omega)
      go_wp2_with fail
      go_ret
      exact ⟨by rw [HRR.out]; rfl, HB.out⟩
theorem hasFive_any (v : Value) (l : List NdM) (w : World) (h : NRw w v l) :
    Calls Try.prog 53 #[v, .func (.func 54) #[] #[]] w fun e w' => e = .returned (.bool (l.any isFive)) ∧ Below w.heap.size w w' := by
  have HI := Lib.hid (idxFive_any v l w h)
  obtain ⟨a, c, rfl⟩ := h.row.slice
  have E := idxG_any isFive l
  generalize idxG isFive l = r at *
  generalize (l.any isFive) = f at *
  generalize l.length = N at *
  clear h
  have HE := Lib.hid E
  clear E
  go_enter Try.func53, Try.ntmps53
  go_wp2_with fail
  refine HI.out.mono ?_; rintro e w1 ⟨rfl, b1⟩
  go_wp2_with fail
  go_ret
  rw [← HE.out]
  exact ⟨rfl, b1⟩
theorem single_any (any : Bool) (v : Value) (l : List NdM) (w : World) (h : NRw w v l) :
    Calls Try.prog 41 #[.agg #[.bool any, v]] w fun e w' => e = .returned (.bool (l.any isFive)) ∧ Below w.heap.size w w' := by
  obtain ⟨a, c, rfl⟩ := h.row.slice
  obtain ⟨gx, hgx⟩ : ∃ g, g = w.heap.size := ⟨_, rfl⟩
  obtain ⟨X, hX⟩ : ∃ X, X = w.alloc (.cells #[.bool any, .slice a l.length c] 35) := ⟨_, rfl⟩
  have hbX : Below w.heap.size w X := by rw [hX]; exact (Below.refl _ _).alloc (Nat.le_refl _) _
  have hbk : Blk X gx #[.bool any, .slice a l.length c] 35 := by rw [hX, hgx]; exact Blk.new w _ _
  have y1 := hbk.cell 1
  simp at y1
  have C := Lib.hid (hasFive_any (.slice a l.length c) l X (h.kept hbX))
  have HBX := Lib.hid hbX
  have HGX := Lib.hid hgx
  generalize l.any isFive = β at *
  generalize l.length = N at *
  have HXX := Lib.hid hX
  clear hX hgx hbX hbk h
  go_enter Try.func41, Try.ntmps41
  go_upto_region 1 with fail
  rw [← HGX.out, ← HXX.out]
  go_wp2_with fail
  refine C.out.mono ?_; rintro e w1 ⟨rfl, b1⟩
  have HB1 := Lib.hid (below_next b1 HBX.out)
  clear b1 C
  go_wp2_with fail
  go_ret
  exact ⟨rfl, HB1.out⟩
theorem src_wh {w : World} {b : Nat} {ty : TypeId} {x : Wh} (h : Blk w b (whV x).toArray ty) : Src w 2 (.slice (some ⟨b, 0, none⟩) 1 1) 1 (whV x) := by
  refine ⟨rfl, .inr ⟨_, 1, rfl, fun j u hu => ?_⟩⟩
  rw [Addr.add_lit, Nat.zero_add, h.cell, ← Array.getElem?_toList]
  exact hu
theorem chg_below {OB : Nat → Prop} {U : Option Nat} {w w3 wr : World} (h : Chg OB w3 wr) (h3 : Below w.heap.size w w3) (hOB : OB = fun k => w.heap.size ≤ k ∧ U ≠ some k) : Below w.heap.size w wr :=
  h3.trans (h.to_below h3.size (fun k hk e => by rw [hOB] at e; omega))
theorem app_ob {OB : Nat → Prop} {U : Option Nat} {b n3 n : Nat} {v v' : Value} (hat : v'.ownBlock = v.ownBlock ∨ v'.ownBlock = some n) (h : ∀ g, v.ownBlock = some g → OB g) (hOB : OB = fun k => b ≤ k ∧ U ≠ some k) {m : Nat} (hU : ∀ g, U = some g → m ≤ g ∧ g < n3) (h1 : n3 ≤ n) (h2 : b ≤ n) : ∀ g, v'.ownBlock = some g → OB g := fun g hg => by
  rcases hat with e | e
  · exact h g (by rw [← e]; exact hg)
  · rw [e] at hg; injection hg with hg; subst hg
    rw [hOB]; exact ⟨h2, fun hu => by have := (hU _ hu).2; omega⟩
/-! How those are on which one depends. -/
def howAt (l : List Jb) (id : Nat) : Int := match l[id - 1]? with | some j => howJ j.how | none => 0
def whOne (l : List Jb) (id : Nat) : List Wh := if id ≤ l.length then [(id, howAt l id)] else []
def whP (l : List Jb) (os : List Nat) : List Wh := os.flatMap (whOne l)
theorem whP_take (l : List Jb) (os : List Nat) {i : Nat} (h : i < os.length) : whP l (os.take (i + 1)) = whP l (os.take i) ++ whOne l os[i] := by
  unfold whP; rw [List.take_add_one, List.getElem?_eq_getElem h, List.flatMap_append]
  simp only [Option.toList, List.flatMap_cons, List.flatMap_nil, List.append_nil]
theorem whP_len (l : List Jb) (os : List Nat) (i : Nat) : (whP l (os.take i)).length ≤ i := by
  induction i with
  | zero => simp [whP]
  | succ i ih =>
    by_cases h : i < os.length
    · rw [whP_take l os h, List.length_append]
      have : (whOne l os[i]).length ≤ 1 := by unfold whOne; split <;> simp
      omega
    · rw [List.take_of_length_le (by omega)] at ih ⊢; omega
theorem strict_ge : ∀ (xs : List Nat) (b : Nat), xs.Pairwise (· < ·) → (∀ x ∈ xs, b ≤ x) → ∀ i (h : i < xs.length), b + i ≤ xs[i]
  | [], _, _, _, i, h => absurd h (by simp)
  | x :: xs, b, hp, hb, i, h => by
    obtain ⟨h1, h2⟩ := List.pairwise_cons.1 hp
    cases i with
    | zero => exact hb x List.mem_cons_self
    | succ i =>
      have hx := hb x List.mem_cons_self
      have := strict_ge xs (x + 1) h2 (fun y hy => h1 y hy) i (by simpa using h)
      simp only [List.getElem_cons_succ]
      omega
theorem strict_len {xs : List Nat} {B : Nat} (hp : xs.Pairwise (· < ·)) (hb : ∀ x ∈ xs, x < B) : xs.length ≤ B := by
  rcases Nat.eq_zero_or_pos xs.length with h | h
  · omega
  · have := strict_ge xs 0 hp (fun _ _ => Nat.zero_le _) (xs.length - 1) (by omega)
    have h2 := hb _ (List.getElem_mem (show xs.length - 1 < xs.length by omega))
    omega
theorem okN_pos {n : Nd} (h : okN n) : ∀ j ∈ n.2, 1 ≤ j := fun j hj => by
  rcases h with ⟨_, _, _, _, h0⟩ | ⟨_, h0⟩
  · rcases Nat.eq_zero_or_pos j with rfl | h
    · exact absurd hj h0
    · exact h
  · rw [List.eq_nil_of_length_eq_zero h0] at hj; cases hj
theorem JobsTo.pos {any : Bool} {l : List NdM} {os : List Nat} (h : JobsTo any l os) : ∀ x ∈ os, 1 ≤ x := fun x hx => by
  obtain ⟨hok, hm⟩ := (h.2 x).1 hx
  obtain ⟨p, hp, hj⟩ := List.mem_flatMap.1 hm
  exact okN_pos (okD_mem hok hp) x hj
theorem JobsTo.small {any : Bool} {w : World} {v : Value} {l : List NdM} {os : List Nat} (h : JobsTo any l os) (hr : NRw w v l) : ∀ x ∈ os, x < 4294967296 := fun x hx => by
  obtain ⟨hok, hm⟩ := (h.2 x).1 hx
  obtain ⟨p, hp, hj⟩ := List.mem_flatMap.1 hm
  exact hr.small p hp x hj
set_option maxRecDepth 100000 in
set_option maxHeartbeats 4000000 in
theorem wheres_any (v : Value) (l : List Jb) (any : Bool) (dv : Value) (nd : List NdM) (w : World) (h : JRw w v l) (hd : NRw w dv nd) :
    Calls Try.prog 40 #[v, .agg #[.bool any, dv]] w fun e w' => (∃ v' os, e = .returned v' ∧ WOwn w' w.heap.size v' (whP l os) ∧ JobsTo any nd os ∧ os.length ≤ 4294967296) ∧ Below w.heap.size w w' := by
  obtain ⟨i0, hi0, hz0, hz1, hz2⟩ := info_parts Try.infoWh
  obtain ⟨a, c, rfl⟩ := h.row.slice
  obtain ⟨da, dc, rfl⟩ := hd.row.slice
  have SU : SortU 1048576 := sort_all.mono (by decide)
  obtain ⟨gx, hgx⟩ : ∃ g, g = w.heap.size := ⟨_, rfl⟩
  obtain ⟨X, hX⟩ : ∃ X, X = w.alloc (.cells #[.bool any, .slice da nd.length dc] 35) := ⟨_, rfl⟩
  have hbX : Below w.heap.size w X := by rw [hX]; exact (Below.refl _ _).alloc (Nat.le_refl _) _
  have hbk : Blk X gx #[.bool any, .slice da nd.length dc] 35 := by rw [hX, hgx]; exact Blk.new w _ _
  obtain ⟨Y, hY⟩ : ∃ Y, Y = X.alloc (.cells #[] 68) := ⟨_, rfl⟩
  have hbY : Below X.heap.size X Y := by rw [hY]; exact (Below.refl _ _).alloc (Nat.le_refl _) _
  have hbYw := below_next hbY hbX
  have ho0 : WOwn Y w.heap.size (.slice (some ⟨X.heap.size, 0, none⟩) 0 0) (whP l ([].take 0)) := by
    rw [hY]; exact World.ownsRow_made X #[] 0 hbX.size (Nat.zero_le _) (by simp)
  have J := Lib.hid (jobs_any SU any (.slice da nd.length dc) nd Y (hd.kept hbYw))
  have y0 : Y.cell? ⟨gx, 0, none⟩ = some (.bool any) := cell_next hbY (by rw [hbk.cell]; rfl)
  have y1 : Y.cell? ⟨gx, 1, none⟩ = some (.slice da nd.length dc) := cell_next hbY (by rw [hbk.cell]; rfl)
  have HBY := Lib.hid hbYw
  have HL := Lib.hid h
  have HD := Lib.hid hd
  have HXX := Lib.hid hX
  have HGX := Lib.hid hgx
  have HO0 := Lib.hid ho0
  have HXS : Hid (w.heap.size ≤ X.heap.size ∧ X.heap.size < Y.heap.size) := ⟨hbX.size, by rw [hY]; simp⟩
  obtain ⟨N, hN⟩ : ∃ N, N = l.length := ⟨_, rfl⟩
  have HN := Lib.hid hN
  have hlen := h.len
  rw [← hN] at hlen ⊢
  clear h hd hX hgx hbX hbk hbY hbYw ho0 hN
  go_enter Try.func40, Try.ntmps40
  go_upto_region 1 with fail
  rw [← HGX.out, ← HXX.out]
  go_upto_region 2 with fail
  rw [← hY]
  clear hY
  go_wp2_with fail
  refine J.out.mono ?_; rintro e w3 ⟨⟨uv, os, rfl, hu3, hj3⟩, b3⟩
  have HB3 := Lib.hid (below_next b3 HBY.out)
  obtain ⟨U, hU⟩ : ∃ U, U = uv.ownBlock := ⟨_, rfl⟩
  have HUB : Hid (∀ g, U = some g → Y.heap.size ≤ g ∧ g < w3.heap.size) := fun g hg => own_ge hu3 (by rw [← hU]; exact hg)
  have HUE : Hid (uv.ownBlock = U) := hU.symm
  obtain ⟨OB, hOB⟩ : ∃ OB : Nat → Prop, OB = fun k => w.heap.size ≤ k ∧ U ≠ some k := ⟨_, rfl⟩
  have HOB := Lib.hid hOB
  have HO3 : Hid (w3.ownsRow w.heap.size 68 2 (.slice (some ⟨X.heap.size, 0, none⟩) 0 0) (whP l (os.take 0)).length ((whP l (os.take 0)).flatMap whV)) := own_older HO0.out b3
  have HX0 : Hid (∀ g, (Value.slice (some ⟨X.heap.size, 0, none⟩) 0 0).ownBlock = some g → OB g) := fun g hg => by
    rw [hOB]
    have e : some X.heap.size = some g := hg
    injection e with e; subst e
    exact ⟨HXS.out.1, fun h => by have := (HUB.out _ h).1; have := HXS.out.2; omega⟩
  have HJ3 := Lib.hid hj3
  have HU3 : Hid (w3.ownsRow Y.heap.size 23 1 uv os.length (uL os)) := hu3
  have HP3 := Lib.hid (JobsTo.pos hj3)
  have HS3 := Lib.hid (JobsTo.small hj3 HD.out)
  have hos : os.length ≤ 4294967296 := strict_len hj3.1 HS3.out
  have HHO := Lib.hid hos
  obtain ⟨ua, uc, rfl⟩ := own_slice hu3
  obtain ⟨M, hM⟩ : ∃ M, M = os.length := ⟨_, rfl⟩
  have HM := Lib.hid hM
  rw [← hM] at HU3 HUE hos ⊢
  clear hM b3 hj3 hu3 J y0 y1 hU hOB
  go_wp2_with fail
  go_loopw [5, 12] (fun sv iv wr => ∃ i : Nat, i ≤ M ∧ iv = .int .i64 (i : Nat) ∧ Hid (wr.ownsRow w.heap.size 68 2 sv (whP l (os.take i)).length ((whP l (os.take i)).flatMap whV)) ∧ Hid (∀ g, sv.ownBlock = some g → OB g) ∧ Hid (Chg OB w3 wr)) (fun _ iv _ => M - (RowKit.intOf iv).toNat)
  case atStart => exact ⟨0, Nat.zero_le _, rfl, HO3.out, HX0.out, Chg.refl _ _⟩
  case round =>
    obtain ⟨i, hi, rfl, HO, HSB, HB⟩ := hrel
    have HBw : Hid (Below w.heap.size w wr) := chg_below HB.out HB3.out HOB.out
    have HUW : Hid (wr.ownsRow Y.heap.size 23 1 (.slice ua M uc) M (uL os)) := own_chg HU3.out HB.out fun k hk h => by rw [HOB.out] at h; exact h.2 (HUE.out ▸ hk)
    by_cases hlt : i < M
    · have d1 : decide ((i : Int) < (M : Int)) = true := decide_eq_true (by omega)
      have d1' : decide (i < M) = true := decide_eq_true hlt
      have hii : (i : Int) < (M : Int) := by omega
      have hik : i < os.length := by rw [← HM.out]; exact hlt
      have hHU := HUW.out
      rw [HM.out] at hHU
      obtain ⟨ub, uo, e, hc⟩ := RowG.at (urow_of_own hHU) hik
      subst e
      have x0 := hc wr (Below.refl _ _) 0 _ rfl
      simp only [Nat.mul_one, Nat.add_zero] at x0
      have HT : Hid (whP l (os.take (i + 1)) = whP l (os.take i) ++ whOne l os[i]) := whP_take l os hik
      have hpos := HP3.out _ (List.getElem_mem hik)
      have hsm := HS3.out _ (List.getElem_mem hik)
      obtain ⟨id, hid⟩ : ∃ x, x = os[i] := ⟨_, rfl⟩
      rw [← hid] at x0 HT hpos hsm
      clear hid hc hHU
      have HLN : Hid ((whP l (os.take i)).length ≤ i) := whP_len l os i
      obtain ⟨L, hL⟩ : ∃ L, L = (whP l (os.take i)).length := ⟨_, rfl⟩
      have HLL := Lib.hid hL
      have hLi : L ≤ i := by rw [hL]; exact HLN.out
      rw [← hL] at HO
      clear hL HLN
      by_cases hin : id ≤ N
      · have d2 : decide ((id : Int) ≤ (N : Int)) = true := decide_eq_true (by omega)
        have d2' : decide (id ≤ N) = true := decide_eq_true hin
        have HW1 : Hid (whOne l id = [(id, howAt l id)]) := by unfold Hid whOne; rw [if_pos (by rw [← HN.out]; exact hin)]
        obtain ⟨k, hk⟩ : ∃ k, k = id - 1 := ⟨_, rfl⟩
        have hkN : k < N := by omega
        have hkl : k < l.length := by rw [← HN.out]; exact hkN
        have hk1 : IntKind.u32.wrap ((id : Int) - 1) = (k : Int) := by
          have : (id : Int) - 1 = (k : Int) := by omega
          rw [this]; exact Int.emod_eq_of_lt (by omega) (by show _ < (4294967296 : Int); omega)
        have hkN2 : (k : Int) < (N : Int) := by omega
        have hkd : decide ((k : Int) < (N : Int)) = true := decide_eq_true hkN2
        obtain ⟨bb, off, e, hrg⟩ := JRw.at HL.out HBw.out hkl
        subst e
        have HHA : Hid (howAt l id = howJ l[k].how) := by unfold Hid howAt; rw [← hk, List.getElem?_eq_getElem hkl]
        obtain ⟨j, hj⟩ : ∃ j, j = l[k] := ⟨_, rfl⟩
        rw [← hj] at hrg HHA
        have C := Lib.hid (how_any j wr)
        obtain ⟨hv, hhv⟩ : ∃ x, x = howJ j.how := ⟨_, rfl⟩
        rw [← hhv] at C HHA
        clear hj hhv hk
        go_upto_region 6 with fail
        go_wp2_with (first | (refine ld_jb rfl _ rfl _ _ rfl _ hrg ?_))
        refine C.out.mono ?_; rintro e w5 ⟨rfl, b5⟩
        have HO5 := Lib.hid (own_older HO.out b5)
        have HOK1 : Hid (whP l (os.take (i + 1)) = whP l (os.take i) ++ [(id, hv)]) := by unfold Hid; rw [HT.out, HW1.out, HHA.out]
        have HC5 : Hid (Chg OB w3 w5) := HB.out.more b5
        have HBS : Hid (w.heap.size ≤ w5.heap.size) := Nat.le_trans HBw.out.size b5.size
        clear b5 HT HW1 HHA C HO hrg
        go_wp2_with (first | (at_builtin; refine wpList_app rfl _ _ 66 rfl w.heap.size 68 i0 _ 2 16 Try.underlying66 hi0 hz0 hz1 hz2 rfl (by decide) _ L ((whP l (os.take i)).flatMap whV) rfl (HO5.out.alloc _) _ 1 (whV (id, hv)) rfl (src_wh (x := (id, hv)) (Blk.new _ _ _)) (by intro u hu; exact whV_one [(id, hv)] u (by simpa using hu)) (by unfold maxLen; omega) (by omega) (by have := HBS.out; simp; omega) ?_; intro v8 w8 hown8 hgrow8 hat8; have HC8 : Hid (Chg OB w3 w8) := (HC5.out.more ((Below.refl _ _).alloc (Nat.le_refl _) _)).trans (Chg.of_grown hgrow8 HSB.out); have HS8 : Hid (∀ g, v8.ownBlock = some g → OB g) := app_ob hat8 HSB.out HOB.out HUB.out (by have := HC5.out.size; simp; omega) (by have := HBS.out; simp; omega); obtain ⟨a8, c8, rfl⟩ := own_slice hown8; have HO8 := Lib.hid hown8; clear hown8 hgrow8 hat8))
        go_wp2_with fail
        go_roundw
        case rel =>
          refine ⟨i + 1, hlt, by go_num, ?_, HS8.out, HC8.out⟩
          unfold Hid
          have h8 := HO8.out
          rw [HOK1.out, List.length_append, List.flatMap_append, ← HLL.out]
          simpa using h8
        case measure => simp [RowKit.intOf]; omega
      · have d2 : decide ((id : Int) ≤ (N : Int)) = false := decide_eq_false (by omega)
        have d2' : decide (id ≤ N) = false := decide_eq_false hin
        have HW1 : Hid (whP l (os.take (i + 1)) = whP l (os.take i)) := by
          unfold Hid; rw [HT.out]; unfold whOne; rw [if_neg (by rw [← HN.out]; exact hin), List.append_nil]
        clear HT
        go_wp2_with fail
        go_roundw
        case rel =>
          refine ⟨i + 1, hlt, by go_num, ?_, HSB.out, HB.out⟩
          unfold Hid
          rw [HW1.out, ← HLL.out]; exact HO.out
        case measure => simp [RowKit.intOf]; omega
    · have d1 : decide ((i : Int) < (M : Int)) = false := decide_eq_false (by omega)
      have d1' : decide (i < M) = false := decide_eq_false hlt
      have HOE : Hid (WOwn wr w.heap.size u5 (whP l os)) := by
        have h := HO.out
        rw [List.take_of_length_le (by have := HM.out; omega)] at h
        exact h
      clear HO HSB
      go_wp2_with fail
      go_ret
      exact ⟨⟨_, os, rfl, HOE.out, HJ3.out, HHO.out⟩, HBw.out⟩
end

section
open Go Go.RowKit Go.Lib
def allW (l : List Jb) : List Wh := l.map fun j => (j.id, howJ j.how)
theorem allW_len (l : List Jb) : (allW l).length = l.length := List.length_map _
theorem allW_at {l : List Jb} {i : Nat} (h : i < (allW l).length) : (allW l)[i] = ((l[i]'(by rw [← allW_len]; exact h)).id, howJ (l[i]'(by rw [← allW_len]; exact h)).how) := by
  exact List.getElem_map _
theorem howJ_le (h : Int) : 0 ≤ howJ h ∧ howJ h ≤ 4 := by unfold howJ; repeat' split
                                                          all_goals omega
theorem inR_howJ (h : Int) : inR (howJ h) = howJ h := by
  have := howJ_le h
  unfold inR; split <;> omega
theorem howAt_in (l : List Jb) (id : Nat) : inR (howAt l id) = howAt l id := by
  unfold howAt; split
  · exact inR_howJ _
  · rfl
theorem find_skip {α : Type} (p : α → Bool) : ∀ (xs : List α) (k : Nat) (hk : k < xs.length), (∀ i (h : i < xs.length), i < k → p xs[i] = false) → p xs[k] = true → xs.find? p = some xs[k]
  | [], k, hk, _, _ => absurd hk (by simp)
  | x :: xs, 0, _, _, h => by
    have h : p x = true := h
    simp [h]
  | x :: xs, k + 1, hk, h1, h2 => by
    have h0 : p x = false := h1 0 (by simp) (by omega)
    rw [List.find?_cons, h0]
    have hk' : k < xs.length := by simpa using hk
    exact find_skip p xs k hk' (fun i h hi => h1 (i + 1) (by simpa using h) (by omega)) h2
theorem howL_all {l : List Jb} (hok : okJs l = true) {id : Nat} (h1 : 1 ≤ id) : howL (allW l) id = howAt l id := by
  have hm := okJs_iff.1 hok
  unfold howL howAt
  by_cases hk : id - 1 < l.length
  · have hk2 : id - 1 < (allW l).length := by unfold allW; simpa using hk
    have e : (allW l).find? (fun p => p.1 == id) = some (allW l)[id - 1] := by
      refine find_skip _ _ _ hk2 (fun i h hi => ?_) ?_
      · rw [allW_at h]
        have := (hm i (by rw [← allW_len]; exact h)).1
        simp; omega
      · rw [allW_at hk2]
        have := (hm _ hk).1
        simp; omega
    rw [e, List.getElem?_eq_getElem hk, allW_at hk2]
    exact inR_howJ _
  · have e : (allW l).find? (fun p => p.1 == id) = none := by
      rw [List.find?_eq_none]
      intro p hp
      obtain ⟨j, hj, rfl⟩ := List.mem_map.1 hp
      obtain ⟨i, hi, rfl⟩ := List.getElem_of_mem hj
      have := (hm i hi).1
      simp; omega
    rw [e, List.getElem?_eq_none (by omega)]
theorem howL_some {l : List Jb} {id : Nat} : ∀ (os : List Nat), os.Pairwise (· < ·) → id ∈ os → 1 ≤ id → howL (whP l os) id = howAt l id
  | [], _, h, _ => by cases h
  | x :: os, hp, hm, h1 => by
    obtain ⟨hp1, hp2⟩ := List.pairwise_cons.1 hp
    have hcons : whP l (x :: os) = whOne l x ++ whP l os := by unfold whP; rw [List.flatMap_cons]
    rcases List.mem_cons.1 hm with rfl | hm
    · by_cases hl : id ≤ l.length
      · unfold howL
        rw [hcons]; unfold whOne; rw [if_pos hl]
        simp only [List.singleton_append, List.find?_cons, beq_self_eq_true]
        exact howAt_in l id
      · have hno : (whP l (id :: os)).find? (fun p => p.1 == id) = none := by
          rw [List.find?_eq_none]
          intro p hq
          obtain ⟨y, hy, hz⟩ := List.mem_flatMap.1 hq
          unfold whOne at hz
          split at hz
          · rw [List.mem_singleton] at hz; subst hz
            rcases List.mem_cons.1 hy with rfl | hy
            · omega
            · have := hp1 y hy; simp; omega
          · cases hz
        unfold howL; rw [hno]
        unfold howAt; rw [List.getElem?_eq_none (by omega)]
    · have hx := hp1 id hm
      have ih := howL_some (l := l) os hp2 hm h1
      rw [← ih]
      unfold howL
      rw [hcons, List.find?_append]
      have : (whOne l x).find? (fun p => p.1 == id) = none := by
        rw [List.find?_eq_none]
        intro p hq
        unfold whOne at hq
        split at hq
        · rw [List.mem_singleton] at hq; subst hq; simp; omega
        · cases hq
      rw [this, Option.none_or]
theorem say_same {l : List Jb} (hok : okJs l = true) {any : Bool} {nd : List NdM} {os : List Nat} (hj : JobsTo any nd os) (al : Bool) : sayB any (nd.any isFive && al) (whP l os) (ndsOf nd) = sayB any al (allW l) (ndsOf nd) := by
  unfold sayB
  by_cases hd : okD any (ndsOf nd)
  · rw [if_pos hd, if_pos hd]
    have hmap : (ndsOf nd).map (sayN (nd.any isFive && al) (whP l os)) = (ndsOf nd).map (sayN al (allW l)) := by
      apply List.map_congr_left
      intro n hn
      obtain ⟨p, hp, rfl⟩ := List.mem_map.1 hn
      unfold sayN
      by_cases h5 : (toNd p).1 = 5
      · rw [if_pos h5, if_pos h5]
        have : nd.any isFive = true := List.any_eq_true.2 ⟨p, hp, by unfold isFive; exact beq_iff_eq.2 h5⟩
        rw [this, Bool.true_and]
      · rw [if_neg h5, if_neg h5]
        have : sayJs (whP l os) (toNd p).1 (toNd p).2 = sayJs (allW l) (toNd p).1 (toNd p).2 := by
          unfold sayJs
          apply List.map_congr_left
          intro j hjm
          have h1 : 1 ≤ j := okN_pos (okD_mem hd hp) j hjm
          have hos : j ∈ os := (hj.2 j).2 ⟨hd, List.mem_flatMap.2 ⟨p, hp, hjm⟩⟩
          rw [howL_some os hj.1 hos h1, howL_all hok h1]
        rw [this]
    unfold sayD
    rw [hmap]
  · rw [if_neg hd, if_neg hd]
/-- What is said of a job that waits. -/
def sayJ (l : List Jb) (j : Jb) (now : Int) : Int :=
  if howJ j.how = 1 then
    (if sayB j.any (aloneJ l j) (allW l) (ndsOf j.nd) = 2 ∧ (j.how = 2 ∨ j.beg > now ∨ roomJ l j = false) then 1 else sayB j.any (aloneJ l j) (allW l) (ndsOf j.nd))
  else 0
def SayJ (l : List Jb) (id : Nat) (now : Int) : Int := match findJ l id with | some j => sayJ l j now | none => 0
end

section
open Go Go.RowKit Go.Lib
theorem whP_few (l : List Jb) {os : List Nat} (hp : os.Pairwise (· < ·)) (h1 : ∀ x ∈ os, 1 ≤ x) : (whP l os).length ≤ l.length := by
  have e : (whP l os).length = (os.filter (fun x => decide (x ≤ l.length))).length := by
    unfold whP
    induction os with
    | nil => rfl
    | cons x os ih =>
      obtain ⟨_, hp2⟩ := List.pairwise_cons.1 hp
      have ih := ih hp2 (fun y hy => h1 y (List.mem_cons_of_mem _ hy))
      rw [List.flatMap_cons, List.length_append, ih, List.filter_cons]
      unfold whOne
      by_cases h : x ≤ l.length
      · rw [if_pos h, if_pos (by simpa using h)]; simp only [List.length_cons, List.length_nil]; omega
      · rw [if_neg h, if_neg (by simpa using h)]; simp only [List.length_nil]; omega
  rw [e]
  obtain ⟨F, hF⟩ : ∃ F, F = os.filter (fun x => decide (x ≤ l.length)) := ⟨_, rfl⟩
  have hFp : F.Pairwise (· < ·) := by rw [hF]; exact hp.filter _
  have hFm : ∀ x ∈ F, 1 ≤ x ∧ x ≤ l.length := fun x hx => by
    rw [hF] at hx
    have := List.mem_filter.1 hx
    exact ⟨h1 x this.1, of_decide_eq_true this.2⟩
  rw [← hF]
  rcases Nat.eq_zero_or_pos F.length with h | h
  · omega
  · have := strict_ge F 1 hFp (fun x hx => (hFm x hx).1) (F.length - 1) (by omega)
    have h2 := (hFm _ (List.getElem_mem (show F.length - 1 < F.length by omega))).2
    omega
theorem range_next {w w' : World} {b o : Nat} {cs : List Value} (hb : Below w.heap.size w w') (h : w.rangeAt b o cs) : w'.rangeAt b o cs := fun j u hu => cell_next hb (h j u hu)
set_option maxRecDepth 100000 in
set_option maxHeartbeats 4000000 in
theorem say14_any (v : Value) (l : List Jb) (j : Jb) (now : Int) (w : World) (h : JRw w v l) (hok : okJs l = true) (hj : j ∈ l) :
    Calls Try.prog 33 #[v, .agg (jbC j), .int .i64 now] w fun e w' => e = .returned (.int .i64 (sayJ l j now)) ∧ Below w.heap.size w w' := by
  have hnd := h.nds j hj
  have hone := h.one hj
  obtain ⟨da, dc, edv⟩ := hnd.row.slice
  obtain ⟨LD, hLD⟩ : ∃ L, L = j.nd.length := ⟨_, rfl⟩
  rw [← hLD] at edv
  obtain ⟨a, c, rfl⟩ := h.row.slice
  obtain ⟨gx, hgx⟩ : ∃ g, g = w.heap.size := ⟨_, rfl⟩
  obtain ⟨X, hX⟩ : ∃ X, X = w.alloc (.cells (jbC j) 41) := ⟨_, rfl⟩
  have hbX : Below w.heap.size w X := by rw [hX]; exact (Below.refl _ _).alloc (Nat.le_refl _) _
  have hbj : Blk X gx (jbC j) 41 := by rw [hX, hgx]; exact Blk.new w _ _
  have HBJ := Lib.hid hbj
  have HRN := Lib.hid (range_blk hbj)
  have C := Lib.hid (how_any j X)
  have HBX := Lib.hid hbX
  have HGX := Lib.hid hgx
  have HXX := Lib.hid hX
  obtain ⟨r, hr⟩ : ∃ r, r = sayJ l j now := ⟨_, rfl⟩
  rw [← hr]
  unfold sayJ at hr
  have HR := Lib.hid hr
  obtain ⟨N, hN⟩ : ∃ N, N = l.length := ⟨_, rfl⟩
  obtain ⟨R, hR⟩ : ∃ R, R = sayB j.any (aloneJ l j) (allW l) (ndsOf j.nd) := ⟨_, rfl⟩
  obtain ⟨rm, hrm⟩ : ∃ b, b = roomJ l j := ⟨_, rfl⟩
  rw [← hR, ← hrm] at HR
  obtain ⟨al, hal⟩ : ∃ b, b = aloneJ l j := ⟨_, rfl⟩
  obtain ⟨sg, hsg⟩ : ∃ b, b = j.nd.any isFive := ⟨_, rfl⟩
  have WH : Hid (∀ w1, Below w.heap.size w w1 → Calls Try.prog 40 #[.slice a N c, .agg #[.bool j.any, .slice da LD dc]] w1 fun e w' => (∃ v' os, e = .returned v' ∧ RowG 2 whV w' v' (whP l os) ∧ Hid ((whP l os).length ≤ 1048576 ∧ ∀ al, sayB j.any (sg && al) (whP l os) (ndsOf j.nd) = sayB j.any al (allW l) (ndsOf j.nd))) ∧ Below w1.heap.size w1 w') := fun w1 hb => by
    rw [hN, ← edv]
    refine (wheres_any _ l j.any j.dv j.nd w1 (h.kept hb) (hnd.kept hb)).mono ?_
    rintro e w' ⟨⟨v', os, rfl, ho, hjt, _⟩, hb'⟩
    exact ⟨⟨v', os, rfl, rowG_of_own whV_len ho, Nat.le_trans (whP_few l hjt.1 hjt.pos) h.len, fun al => by rw [hsg]; exact say_same hok hjt al⟩, hb'⟩
  have SG : Hid (∀ w1, Below w.heap.size w w1 → Calls Try.prog 41 #[.agg #[.bool j.any, .slice da LD dc]] w1 fun e w' => e = .returned (.bool sg) ∧ Below w1.heap.size w1 w') := fun w1 hb => by
    rw [hsg, ← edv]; exact single_any j.any j.dv j.nd w1 (hnd.kept hb)
  have AL : Hid (∀ w1, Below w.heap.size w w1 → Calls Try.prog 30 #[.slice a N c, .agg (jbC j)] w1 fun e w' => e = .returned (.bool al) ∧ Below w1.heap.size w1 w') := fun w1 hb => by
    rw [hN, hal]; exact alone_any _ l j w1 (h.kept hb)
  have RM : Hid (∀ w1, Below w.heap.size w w1 → Calls Try.prog 32 #[.slice a N c, .agg (jbC j)] w1 fun e w' => e = .returned (.bool rm) ∧ Below w1.heap.size w1 w') := fun w1 hb => by
    rw [hN, hrm]; exact room_any _ l j w1 (h.kept hb)
  have DS : Hid (∀ w1 lv os b, Below w.heap.size w w1 → RowG 2 whV w1 lv (whP l os) → Hid ((whP l os).length ≤ 1048576 ∧ ∀ al, sayB j.any (sg && al) (whP l os) (ndsOf j.nd) = sayB j.any al (allW l) (ndsOf j.nd)) → b = (sg && al) → Calls Try.prog 39 #[.agg #[.bool j.any, .slice da LD dc], lv, .bool b] w1 fun e w' => e = .returned (.int .i64 R) ∧ Below w1.heap.size w1 w') := fun w1 lv os b hb hrow hp hbb => by
    have e : R = sayB j.any b (whP l os) (ndsOf j.nd) := by rw [hR, hbb, hp.out.2 al, hal]
    rw [e, ← edv]
    exact say_any j.any j.dv j.nd lv (whP l os) b w1 (hnd.kept hb) hrow hp.out.1
  rw [← hN]
  have EDV := Lib.hid edv
  clear h hok hX hgx hbX hr hN hR hrm hal hsg hnd hbj hLD
  obtain ⟨hv, hhv⟩ : ∃ x, x = howJ j.how := ⟨_, rfl⟩
  rw [← hhv] at C HR
  clear hhv
  by_cases h1 : hv = 1
  · have q1 : (hv != 1) = false := by simp [h1]
    have HR2 : Hid (r = if R = 2 ∧ (j.how = 2 ∨ j.beg > now ∨ rm = false) then 1 else R) := by unfold Hid; rw [HR.out, if_pos h1]
    clear HR h1
    go_enter Try.func33, Try.ntmps33
    go_upto_region 1 with fail
    rw [← HGX.out, ← HXX.out]
    go_wp2_with (first | (refine ld_jb rfl _ rfl _ _ rfl _ HRN.out ?_))
    refine C.out.mono ?_; rintro e w1 ⟨rfl, b1⟩
    have HB1 := Lib.hid (below_next b1 HBX.out)
    have hJ1 := HBJ.out.kept b1
    have z11 : w1.cell? ⟨gx, 11, none⟩ = some (.bool j.any) := blk_jb hJ1 11
    have z12 : w1.cell? ⟨gx, 12, none⟩ = some (.slice da LD dc) := by rw [← edv]; exact blk_jb hJ1 12
    obtain ⟨W, hW⟩ : ∃ W, W = w1.alloc (.cells #[.bool j.any, .slice da LD dc] 35) := ⟨_, rfl⟩
    obtain ⟨gd, hgd⟩ : ∃ g, g = w1.heap.size := ⟨_, rfl⟩
    have hbW : Below w1.heap.size w1 W := by rw [hW]; exact (Below.refl _ _).alloc (Nat.le_refl _) _
    have hbn : Blk W gd #[.bool j.any, .slice da LD dc] 35 := by rw [hW, hgd]; exact Blk.new _ _ _
    have z0 : W.cell? ⟨gd, 0, none⟩ = some (.bool j.any) := by rw [hbn.cell]; rfl
    have z1 : W.cell? ⟨gd, 1, none⟩ = some (.slice da LD dc) := by rw [hbn.cell]; rfl
    have HBW := Lib.hid (below_next hbW HB1.out)
    have HRW := Lib.hid (range_next hbW (range_next b1 HRN.out))
    go_upto_region 4 with fail
    rw [← hW, ← hgd]
    clear hW hgd b1 C hJ1 z11 z12 hbW hbn
    cases sg with
    | false =>
      refine wp_region_held_drew (S := fun w' => w'.cell? ⟨gd, 0, none⟩ = some (.bool j.any) ∧ w'.cell? ⟨gd, 1, none⟩ = some (.slice da LD dc) ∧ w'.rangeAt gx 0 (jbV j) ∧ Below w.heap.size w w') (by kernel_rfl) (by
        first
          | exact ⟨z0, z1, HRW.out, HBW.out.drew⟩
        ) (fun hHeld => ?_)
      refine wpAnyH_take (i := 0) (oi := { dst := some 15, op := Op.load 35 (Operand.tmp 7), type := 35, pos := "waits.go:94", after := #[], guard := none }) (v := ?_) rfl (by kernel_rfl) (by kernel_rfl) (by kernel_rfl) (fun _ _ _ h => h) (Or.inl ⟨by kernel_rfl, ?_⟩) (by assumption) ?_
      rotate_left
      · (intro w hSw; (try dsimp only at hSw); go_simp; try with_reducible rfl)
      try simp only [Act.put, List.setIfInBounds_toArray, List.set_cons_zero, List.set_cons_succ]
      refine wpAnyH_take (i := 1) (oi := { dst := some 16, op := Op.move (Operand.tmp 0), type := 22, pos := "waits.go:94", after := #[], guard := none }) (v := ?_) rfl (by kernel_rfl) (by kernel_rfl) (by kernel_rfl) (fun _ _ _ h => h) (Or.inl ⟨by kernel_rfl, ?_⟩) (by assumption) ?_
      rotate_left
      · (intro w hSw; (try dsimp only at hSw); go_simp; try with_reducible rfl)
      try simp only [Act.put, List.setIfInBounds_toArray, List.set_cons_zero, List.set_cons_succ]
      refine wpAnyH_take (i := 2) (oi := { dst := some 17, op := Op.load 35 (Operand.tmp 7), type := 35, pos := "waits.go:94", after := #[], guard := none }) (v := ?_) rfl (by kernel_rfl) (by kernel_rfl) (by kernel_rfl) (fun _ _ _ h => h) (Or.inl ⟨by kernel_rfl, ?_⟩) (by assumption) ?_
      rotate_left
      · (intro w hSw; (try dsimp only at hSw); go_simp; try with_reducible rfl)
      try simp only [Act.put, List.setIfInBounds_toArray, List.set_cons_zero, List.set_cons_succ]
      refine wpAnyH_take (i := 4) (oi := { dst := some 19, op := Op.load 35 (Operand.tmp 7), type := 35, pos := "waits.go:94", after := #[], guard := none }) (v := ?_) rfl (by kernel_rfl) (by kernel_rfl) (by kernel_rfl) (fun _ _ _ h => h) (Or.inl ⟨by kernel_rfl, ?_⟩) (by assumption) ?_
      rotate_left
      · (intro w hSw; (try dsimp only at hSw); go_simp; try with_reducible rfl)
      try simp only [Act.put, List.setIfInBounds_toArray, List.set_cons_zero, List.set_cons_succ]
      refine wpAnyH_ready (rs := [3]) (by kernel_rfl) (by simp) ?_
      refine AllReadyH.cons (o := { dst := some 18, op := Op.call { callee := Callee.value (Operand.func 40), args := #[Operand.tmp 16, Operand.tmp 17], argTypes := #[22, 35] }, type := 66, pos := "waits.go:94", after := #[{ on := 1, ground := Ground.data }, { on := 2, ground := Ground.data }], guard := none }) rfl (fun K hK => ?_) AllReadyH.nil
      go_simp
      (with_reducible refine (WH.out _ hHeld.2.2.2).mono ?_)
      rintro e w5 ⟨⟨lv, os, rfl, hrow, hhp⟩, b5⟩
      obtain ⟨la, lc, rfl⟩ := hrow.slice
      obtain ⟨LW, hLW⟩ : ∃ L, L = (whP l os).length := ⟨_, rfl⟩
      rw [← hLW] at hrow ⊢
      clear hLW
      try go_wp2_with fail
      refine hK.out _ _ ?_ (fun hHeld => ?_)
      · first
          | (rcases hHeld with ⟨g0, g1, g2, g3⟩; exact ⟨cell_next b5 g0, cell_next b5 g1, range_next b5 g2, below_next b5 g3⟩)
      clear hK K
      try simp only [Act.put, List.setIfInBounds_toArray, List.set_cons_zero, List.set_cons_succ]
      refine wpAnyH_ready (rs := [5]) (by kernel_rfl) (by simp) ?_
      refine AllReadyH.cons (o := { dst := some 20, op := Op.call { callee := Callee.value (Operand.func 41), args := #[Operand.tmp 19], argTypes := #[35] }, type := 4, pos := "waits.go:94", after := #[{ on := 4, ground := Ground.data }, { on := 3, ground := Ground.chain }], guard := none }) rfl (fun K hK => ?_) AllReadyH.nil
      go_simp
      (with_reducible refine (SG.out _ hHeld.2.2.2).mono ?_)
      rintro e w5 ⟨rfl, b5⟩
      replace hrow := hrow.kept b5
      try go_wp2_with fail
      refine hK.out _ _ ?_ (fun hHeld => ?_)
      · first
          | (rcases hHeld with ⟨g0, g1, g2, g3⟩; exact ⟨cell_next b5 g0, cell_next b5 g1, range_next b5 g2, below_next b5 g3⟩)
      clear hK K
      try simp only [Act.put, List.setIfInBounds_toArray, List.set_cons_zero, List.set_cons_succ]
      refine wpAnyH_take (i := 6) (oi := { dst := some 21, op := Op.move (Operand.tmp 20), type := 4, pos := "waits.go:94", after := #[{ on := 5, ground := Ground.data }, { on := 5, ground := Ground.chain }], guard := none }) (v := ?_) rfl (by kernel_rfl) (by kernel_rfl) (by kernel_rfl) (fun _ _ _ h => h) (Or.inl ⟨by kernel_rfl, ?_⟩) (by assumption) ?_
      rotate_left
      · (intro w hSw; (try dsimp only at hSw); go_simp; try with_reducible rfl)
      try simp only [Act.put, List.setIfInBounds_toArray, List.set_cons_zero, List.set_cons_succ]
      refine wpAnyH_take (i := 7) (oi := { dst := some 22, op := Op.move (Operand.tmp 0), type := 22, pos := "waits.go:94", after := #[{ on := 6, ground := Ground.guard }], guard := some (6, true) }) (v := undef) rfl (by kernel_rfl) (by kernel_rfl) (by kernel_rfl) (fun _ _ _ h => h) (Or.inr ⟨by kernel_rfl, rfl⟩) (by assumption) ?_
      try simp only [Act.put, List.setIfInBounds_toArray, List.set_cons_zero, List.set_cons_succ]
      refine wpAnyH_take (i := 8) (oi := { dst := some 23, op := Op.load 41 (Operand.tmp 4), type := 41, pos := "waits.go:94", after := #[{ on := 6, ground := Ground.guard }], guard := some (6, true) }) (v := undef) rfl (by kernel_rfl) (by kernel_rfl) (by kernel_rfl) (fun _ _ _ h => h) (Or.inr ⟨by kernel_rfl, rfl⟩) (by assumption) ?_
      try simp only [Act.put, List.setIfInBounds_toArray, List.set_cons_zero, List.set_cons_succ]
      refine wpAnyH_take (i := 9) (oi := { dst := some 24, op := Op.call { callee := Callee.value (Operand.func 30), args := #[Operand.tmp 22, Operand.tmp 23], argTypes := #[22, 41] }, type := 4, pos := "waits.go:94", after := #[{ on := 7, ground := Ground.data }, { on := 8, ground := Ground.data }, { on := 6, ground := Ground.chain }, { on := 6, ground := Ground.guard }], guard := some (6, true) }) (v := undef) rfl (by kernel_rfl) (by kernel_rfl) (by kernel_rfl) (fun _ _ _ h => h) (Or.inr ⟨by kernel_rfl, rfl⟩) (by assumption) ?_
      try simp only [Act.put, List.setIfInBounds_toArray, List.set_cons_zero, List.set_cons_succ]
      refine wpAnyH_take (i := 10) (oi := { dst := some 25, op := Op.pick (Operand.tmp 21) (Operand.tmp 24) (Operand.const (Value.bool false)), type := 4, pos := "waits.go:94", after := #[{ on := 6, ground := Ground.data }, { on := 9, ground := Ground.data }], guard := none }) (v := ?_) rfl (by kernel_rfl) (by kernel_rfl) (by kernel_rfl) (fun _ _ _ h => h) (Or.inl ⟨by kernel_rfl, ?_⟩) (by assumption) ?_
      rotate_left
      · (intro w hSw; (try dsimp only at hSw); go_simp; try with_reducible rfl)
      try simp only [Act.put, List.setIfInBounds_toArray, List.set_cons_zero, List.set_cons_succ]
      refine wpAnyH_ready (rs := [11]) (by kernel_rfl) (by simp) ?_
      refine AllReadyH.cons (o := { dst := some 26, op := Op.call { callee := Callee.value (Operand.func 39), args := #[Operand.tmp 15, Operand.tmp 18, Operand.tmp 25], argTypes := #[35, 66, 4] }, type := 3, pos := "waits.go:94", after := #[{ on := 0, ground := Ground.data }, { on := 3, ground := Ground.data }, { on := 10, ground := Ground.data }, { on := 9, ground := Ground.chain }], guard := none }) rfl (fun K hK => ?_) AllReadyH.nil
      go_simp
      (with_reducible refine (DS.out _ _ os false hHeld.2.2.2 hrow hhp rfl).mono ?_)
      rintro e w5 ⟨rfl, b5⟩
      try go_wp2_with fail
      refine hK.out _ _ ?_ (fun hHeld => ?_)
      · first
          | (rcases hHeld with ⟨g0, g1, g2, g3⟩; exact ⟨cell_next b5 g0, cell_next b5 g1, range_next b5 g2, below_next b5 g3⟩)
      clear hK K
      try simp only [Act.put, List.setIfInBounds_toArray, List.set_cons_zero, List.set_cons_succ]
      refine wpAnyH_take (i := 12) (oi := { dst := some 8, op := Op.assign (Operand.tmp 26), type := 3, pos := "waits.go:94", after := #[{ on := 11, ground := Ground.data }, { on := 11, ground := Ground.chain }, { on := 0, ground := Ground.phase }, { on := 1, ground := Ground.phase }, { on := 2, ground := Ground.phase }, { on := 3, ground := Ground.phase }, { on := 4, ground := Ground.phase }, { on := 5, ground := Ground.phase }, { on := 6, ground := Ground.phase }, { on := 7, ground := Ground.phase }, { on := 8, ground := Ground.phase }, { on := 9, ground := Ground.phase }, { on := 10, ground := Ground.phase }, { on := 11, ground := Ground.phase }], guard := none }) (v := ?_) rfl (by kernel_rfl) (by kernel_rfl) (by kernel_rfl) (fun _ _ _ h => h) (Or.inl ⟨by kernel_rfl, ?_⟩) (by assumption) ?_
      rotate_left
      · (intro w hSw; (try dsimp only at hSw); go_simp; try with_reducible rfl)
      try simp only [Act.put, List.setIfInBounds_toArray, List.set_cons_zero, List.set_cons_succ]
      refine wpAnyH_done (by kernel_rfl) ?_ _
      have x19 : w5.cell? ⟨gx, 19, none⟩ = some (.int .i64 j.how) := by have := hHeld.2.2.1 19 _ rfl; rwa [Nat.zero_add] at this
      have x14 : w5.cell? ⟨gx, 14, none⟩ = some (.int .i64 j.beg) := by have := hHeld.2.2.1 14 _ rfl; rwa [Nat.zero_add] at this
      have HJ5 := Lib.hid hHeld.2.2.1
      have HB5 := Lib.hid hHeld.2.2.2
      have RM5 := Lib.hid (RM.out w5 HB5.out)
      obtain ⟨jh, hjh⟩ : ∃ x, x = j.how := ⟨_, rfl⟩
      obtain ⟨jb, hjb⟩ : ∃ x, x = j.beg := ⟨_, rfl⟩
      rw [← hjh, ← hjb] at HR2
      rw [← hjh] at x19
      rw [← hjb] at x14
      clear b5 hHeld hrow hhp z0 z1 hjh hjb WH SG DS AL RM HBW HRW
      by_cases c1 : R = 2
      · have d1 : (R == 2) = true := by simp [c1]
        by_cases c2 : jh = 2
        · have d2 : (jh == 2) = true := by simp [c2]
          have HE : Hid (r = 1) := by unfold Hid; rw [HR2.out, if_pos ⟨c1, .inl c2⟩]
          clear c1 c2
          go_wp2_with fail
          go_ret
          exact ⟨by rw [HE.out]; rfl, HB5.out⟩
        · have d2 : (jh == 2) = false := by simp [c2]
          by_cases c3 : jb > now
          · have d3 : decide (jb > now) = true := decide_eq_true c3
            have d3' : decide (now < jb) = true := decide_eq_true c3
            have HE : Hid (r = 1) := by unfold Hid; rw [HR2.out, if_pos ⟨c1, .inr (.inl c3)⟩]
            clear c1 c2 c3
            go_wp2_with fail
            go_ret
            exact ⟨by rw [HE.out]; rfl, HB5.out⟩
          · have d3 : decide (jb > now) = false := decide_eq_false c3
            have d3' : decide (now < jb) = false := decide_eq_false c3
            cases rm with
            | false =>
              have HE : Hid (r = 1) := by unfold Hid; rw [HR2.out, if_pos ⟨c1, .inr (.inr rfl)⟩]
              clear c1 c2 c3
              go_wp2_with (first | (refine ld_jbg (by rfl) _ rfl _ _ rfl _ HJ5.out ?_))
              refine RM5.out.mono ?_; rintro e w6 ⟨rfl, b6⟩
              have HB6 := Lib.hid (below_next b6 HB5.out)
              clear b6 RM5
              go_wp2_with fail
              go_ret
              exact ⟨by rw [HE.out]; rfl, HB6.out⟩
            | true =>
              have HE : Hid (r = R) := by unfold Hid; rw [HR2.out, if_neg (by rintro ⟨_, h | h | h⟩; exact c2 h; exact c3 h; cases h)]
              clear c1 c2 c3
              go_wp2_with (first | (refine ld_jbg (by rfl) _ rfl _ _ rfl _ HJ5.out ?_))
              refine RM5.out.mono ?_; rintro e w6 ⟨rfl, b6⟩
              have HB6 := Lib.hid (below_next b6 HB5.out)
              clear b6 RM5
              go_wp2_with fail
              go_ret
              exact ⟨by rw [HE.out]; rfl, HB6.out⟩
      · have d1 : (R == 2) = false := by simp [c1]
        have HE : Hid (r = R) := by unfold Hid; rw [HR2.out, if_neg (fun h => c1 h.1)]
        clear c1
        go_wp2_with fail
        go_ret
        exact ⟨by rw [HE.out]; rfl, HB5.out⟩
    | true =>
      refine wp_region_held_drew (S := fun w' => w'.cell? ⟨gd, 0, none⟩ = some (.bool j.any) ∧ w'.cell? ⟨gd, 1, none⟩ = some (.slice da LD dc) ∧ w'.rangeAt gx 0 (jbV j) ∧ Below w.heap.size w w') (by kernel_rfl) (by
        first
          | exact ⟨z0, z1, HRW.out, HBW.out.drew⟩
        ) (fun hHeld => ?_)
      refine wpAnyH_take (i := 0) (oi := { dst := some 15, op := Op.load 35 (Operand.tmp 7), type := 35, pos := "waits.go:94", after := #[], guard := none }) (v := ?_) rfl (by kernel_rfl) (by kernel_rfl) (by kernel_rfl) (fun _ _ _ h => h) (Or.inl ⟨by kernel_rfl, ?_⟩) (by assumption) ?_
      rotate_left
      · (intro w hSw; (try dsimp only at hSw); go_simp; try with_reducible rfl)
      try simp only [Act.put, List.setIfInBounds_toArray, List.set_cons_zero, List.set_cons_succ]
      refine wpAnyH_take (i := 1) (oi := { dst := some 16, op := Op.move (Operand.tmp 0), type := 22, pos := "waits.go:94", after := #[], guard := none }) (v := ?_) rfl (by kernel_rfl) (by kernel_rfl) (by kernel_rfl) (fun _ _ _ h => h) (Or.inl ⟨by kernel_rfl, ?_⟩) (by assumption) ?_
      rotate_left
      · (intro w hSw; (try dsimp only at hSw); go_simp; try with_reducible rfl)
      try simp only [Act.put, List.setIfInBounds_toArray, List.set_cons_zero, List.set_cons_succ]
      refine wpAnyH_take (i := 2) (oi := { dst := some 17, op := Op.load 35 (Operand.tmp 7), type := 35, pos := "waits.go:94", after := #[], guard := none }) (v := ?_) rfl (by kernel_rfl) (by kernel_rfl) (by kernel_rfl) (fun _ _ _ h => h) (Or.inl ⟨by kernel_rfl, ?_⟩) (by assumption) ?_
      rotate_left
      · (intro w hSw; (try dsimp only at hSw); go_simp; try with_reducible rfl)
      try simp only [Act.put, List.setIfInBounds_toArray, List.set_cons_zero, List.set_cons_succ]
      refine wpAnyH_take (i := 4) (oi := { dst := some 19, op := Op.load 35 (Operand.tmp 7), type := 35, pos := "waits.go:94", after := #[], guard := none }) (v := ?_) rfl (by kernel_rfl) (by kernel_rfl) (by kernel_rfl) (fun _ _ _ h => h) (Or.inl ⟨by kernel_rfl, ?_⟩) (by assumption) ?_
      rotate_left
      · (intro w hSw; (try dsimp only at hSw); go_simp; try with_reducible rfl)
      try simp only [Act.put, List.setIfInBounds_toArray, List.set_cons_zero, List.set_cons_succ]
      refine wpAnyH_ready (rs := [3]) (by kernel_rfl) (by simp) ?_
      refine AllReadyH.cons (o := { dst := some 18, op := Op.call { callee := Callee.value (Operand.func 40), args := #[Operand.tmp 16, Operand.tmp 17], argTypes := #[22, 35] }, type := 66, pos := "waits.go:94", after := #[{ on := 1, ground := Ground.data }, { on := 2, ground := Ground.data }], guard := none }) rfl (fun K hK => ?_) AllReadyH.nil
      go_simp
      (with_reducible refine (WH.out _ hHeld.2.2.2).mono ?_)
      rintro e w5 ⟨⟨lv, os, rfl, hrow, hhp⟩, b5⟩
      obtain ⟨la, lc, rfl⟩ := hrow.slice
      obtain ⟨LW, hLW⟩ : ∃ L, L = (whP l os).length := ⟨_, rfl⟩
      rw [← hLW] at hrow ⊢
      clear hLW
      try go_wp2_with fail
      refine hK.out _ _ ?_ (fun hHeld => ?_)
      · first
          | (rcases hHeld with ⟨g0, g1, g2, g3⟩; exact ⟨cell_next b5 g0, cell_next b5 g1, range_next b5 g2, below_next b5 g3⟩)
      clear hK K
      try simp only [Act.put, List.setIfInBounds_toArray, List.set_cons_zero, List.set_cons_succ]
      refine wpAnyH_ready (rs := [5]) (by kernel_rfl) (by simp) ?_
      refine AllReadyH.cons (o := { dst := some 20, op := Op.call { callee := Callee.value (Operand.func 41), args := #[Operand.tmp 19], argTypes := #[35] }, type := 4, pos := "waits.go:94", after := #[{ on := 4, ground := Ground.data }, { on := 3, ground := Ground.chain }], guard := none }) rfl (fun K hK => ?_) AllReadyH.nil
      go_simp
      (with_reducible refine (SG.out _ hHeld.2.2.2).mono ?_)
      rintro e w5 ⟨rfl, b5⟩
      replace hrow := hrow.kept b5
      try go_wp2_with fail
      refine hK.out _ _ ?_ (fun hHeld => ?_)
      · first
          | (rcases hHeld with ⟨g0, g1, g2, g3⟩; exact ⟨cell_next b5 g0, cell_next b5 g1, range_next b5 g2, below_next b5 g3⟩)
      clear hK K
      try simp only [Act.put, List.setIfInBounds_toArray, List.set_cons_zero, List.set_cons_succ]
      refine wpAnyH_take (i := 6) (oi := { dst := some 21, op := Op.move (Operand.tmp 20), type := 4, pos := "waits.go:94", after := #[{ on := 5, ground := Ground.data }, { on := 5, ground := Ground.chain }], guard := none }) (v := ?_) rfl (by kernel_rfl) (by kernel_rfl) (by kernel_rfl) (fun _ _ _ h => h) (Or.inl ⟨by kernel_rfl, ?_⟩) (by assumption) ?_
      rotate_left
      · (intro w hSw; (try dsimp only at hSw); go_simp; try with_reducible rfl)
      try simp only [Act.put, List.setIfInBounds_toArray, List.set_cons_zero, List.set_cons_succ]
      refine wpAnyH_take (i := 7) (oi := { dst := some 22, op := Op.move (Operand.tmp 0), type := 22, pos := "waits.go:94", after := #[{ on := 6, ground := Ground.guard }], guard := some (6, true) }) (v := ?_) rfl (by kernel_rfl) (by kernel_rfl) (by kernel_rfl) (fun _ _ _ h => h) (Or.inl ⟨by kernel_rfl, ?_⟩) (by assumption) ?_
      rotate_left
      · (intro w hSw; (try dsimp only at hSw); go_simp; try with_reducible rfl)
      try simp only [Act.put, List.setIfInBounds_toArray, List.set_cons_zero, List.set_cons_succ]
      refine wpAnyH_take (i := 8) (oi := { dst := some 23, op := Op.load 41 (Operand.tmp 4), type := 41, pos := "waits.go:94", after := #[{ on := 6, ground := Ground.guard }], guard := some (6, true) }) (v := .agg (jbC j)) rfl (by kernel_rfl) (by kernel_rfl) (by kernel_rfl) (fun _ _ _ h => h) (yieldsIf_load_mid (by kernel_rfl) _ _ rfl _ _ rfl (jbV j) _ (fun w hSw => hSw.2.2.1) Try.underlying41 rfl Try.sizeJb) (by assumption) ?_
      try simp only [Act.put, List.setIfInBounds_toArray, List.set_cons_zero, List.set_cons_succ]
      refine wpAnyH_ready (rs := [9]) (by kernel_rfl) (by simp) ?_
      refine AllReadyH.cons (o := { dst := some 24, op := Op.call { callee := Callee.value (Operand.func 30), args := #[Operand.tmp 22, Operand.tmp 23], argTypes := #[22, 41] }, type := 4, pos := "waits.go:94", after := #[{ on := 7, ground := Ground.data }, { on := 8, ground := Ground.data }, { on := 6, ground := Ground.chain }, { on := 6, ground := Ground.guard }], guard := some (6, true) }) rfl (fun K hK => ?_) AllReadyH.nil
      go_simp
      (with_reducible refine (AL.out _ hHeld.2.2.2).mono ?_)
      rintro e w5 ⟨rfl, b5⟩
      replace hrow := hrow.kept b5
      try go_wp2_with fail
      refine hK.out _ _ ?_ (fun hHeld => ?_)
      · first
          | (rcases hHeld with ⟨g0, g1, g2, g3⟩; exact ⟨cell_next b5 g0, cell_next b5 g1, range_next b5 g2, below_next b5 g3⟩)
      clear hK K
      try simp only [Act.put, List.setIfInBounds_toArray, List.set_cons_zero, List.set_cons_succ]
      refine wpAnyH_take (i := 10) (oi := { dst := some 25, op := Op.pick (Operand.tmp 21) (Operand.tmp 24) (Operand.const (Value.bool false)), type := 4, pos := "waits.go:94", after := #[{ on := 6, ground := Ground.data }, { on := 9, ground := Ground.data }], guard := none }) (v := ?_) rfl (by kernel_rfl) (by kernel_rfl) (by kernel_rfl) (fun _ _ _ h => h) (Or.inl ⟨by kernel_rfl, ?_⟩) (by assumption) ?_
      rotate_left
      · (intro w hSw; (try dsimp only at hSw); go_simp; try with_reducible rfl)
      try simp only [Act.put, List.setIfInBounds_toArray, List.set_cons_zero, List.set_cons_succ]
      refine wpAnyH_ready (rs := [11]) (by kernel_rfl) (by simp) ?_
      refine AllReadyH.cons (o := { dst := some 26, op := Op.call { callee := Callee.value (Operand.func 39), args := #[Operand.tmp 15, Operand.tmp 18, Operand.tmp 25], argTypes := #[35, 66, 4] }, type := 3, pos := "waits.go:94", after := #[{ on := 0, ground := Ground.data }, { on := 3, ground := Ground.data }, { on := 10, ground := Ground.data }, { on := 9, ground := Ground.chain }], guard := none }) rfl (fun K hK => ?_) AllReadyH.nil
      go_simp
      (with_reducible refine (DS.out _ _ os al hHeld.2.2.2 hrow hhp rfl).mono ?_)
      rintro e w5 ⟨rfl, b5⟩
      try go_wp2_with fail
      refine hK.out _ _ ?_ (fun hHeld => ?_)
      · first
          | (rcases hHeld with ⟨g0, g1, g2, g3⟩; exact ⟨cell_next b5 g0, cell_next b5 g1, range_next b5 g2, below_next b5 g3⟩)
      clear hK K
      try simp only [Act.put, List.setIfInBounds_toArray, List.set_cons_zero, List.set_cons_succ]
      refine wpAnyH_take (i := 12) (oi := { dst := some 8, op := Op.assign (Operand.tmp 26), type := 3, pos := "waits.go:94", after := #[{ on := 11, ground := Ground.data }, { on := 11, ground := Ground.chain }, { on := 0, ground := Ground.phase }, { on := 1, ground := Ground.phase }, { on := 2, ground := Ground.phase }, { on := 3, ground := Ground.phase }, { on := 4, ground := Ground.phase }, { on := 5, ground := Ground.phase }, { on := 6, ground := Ground.phase }, { on := 7, ground := Ground.phase }, { on := 8, ground := Ground.phase }, { on := 9, ground := Ground.phase }, { on := 10, ground := Ground.phase }, { on := 11, ground := Ground.phase }], guard := none }) (v := ?_) rfl (by kernel_rfl) (by kernel_rfl) (by kernel_rfl) (fun _ _ _ h => h) (Or.inl ⟨by kernel_rfl, ?_⟩) (by assumption) ?_
      rotate_left
      · (intro w hSw; (try dsimp only at hSw); go_simp; try with_reducible rfl)
      try simp only [Act.put, List.setIfInBounds_toArray, List.set_cons_zero, List.set_cons_succ]
      refine wpAnyH_done (by kernel_rfl) ?_ _
      have x19 : w5.cell? ⟨gx, 19, none⟩ = some (.int .i64 j.how) := by have := hHeld.2.2.1 19 _ rfl; rwa [Nat.zero_add] at this
      have x14 : w5.cell? ⟨gx, 14, none⟩ = some (.int .i64 j.beg) := by have := hHeld.2.2.1 14 _ rfl; rwa [Nat.zero_add] at this
      have HJ5 := Lib.hid hHeld.2.2.1
      have HB5 := Lib.hid hHeld.2.2.2
      have RM5 := Lib.hid (RM.out w5 HB5.out)
      obtain ⟨jh, hjh⟩ : ∃ x, x = j.how := ⟨_, rfl⟩
      obtain ⟨jb, hjb⟩ : ∃ x, x = j.beg := ⟨_, rfl⟩
      rw [← hjh, ← hjb] at HR2
      rw [← hjh] at x19
      rw [← hjb] at x14
      clear b5 hHeld hrow hhp z0 z1 hjh hjb WH SG DS AL RM HBW HRW
      by_cases c1 : R = 2
      · have d1 : (R == 2) = true := by simp [c1]
        by_cases c2 : jh = 2
        · have d2 : (jh == 2) = true := by simp [c2]
          have HE : Hid (r = 1) := by unfold Hid; rw [HR2.out, if_pos ⟨c1, .inl c2⟩]
          clear c1 c2
          go_wp2_with fail
          go_ret
          exact ⟨by rw [HE.out]; rfl, HB5.out⟩
        · have d2 : (jh == 2) = false := by simp [c2]
          by_cases c3 : jb > now
          · have d3 : decide (jb > now) = true := decide_eq_true c3
            have d3' : decide (now < jb) = true := decide_eq_true c3
            have HE : Hid (r = 1) := by unfold Hid; rw [HR2.out, if_pos ⟨c1, .inr (.inl c3)⟩]
            clear c1 c2 c3
            go_wp2_with fail
            go_ret
            exact ⟨by rw [HE.out]; rfl, HB5.out⟩
          · have d3 : decide (jb > now) = false := decide_eq_false c3
            have d3' : decide (now < jb) = false := decide_eq_false c3
            cases rm with
            | false =>
              have HE : Hid (r = 1) := by unfold Hid; rw [HR2.out, if_pos ⟨c1, .inr (.inr rfl)⟩]
              clear c1 c2 c3
              go_wp2_with (first | (refine ld_jbg (by rfl) _ rfl _ _ rfl _ HJ5.out ?_))
              refine RM5.out.mono ?_; rintro e w6 ⟨rfl, b6⟩
              have HB6 := Lib.hid (below_next b6 HB5.out)
              clear b6 RM5
              go_wp2_with fail
              go_ret
              exact ⟨by rw [HE.out]; rfl, HB6.out⟩
            | true =>
              have HE : Hid (r = R) := by unfold Hid; rw [HR2.out, if_neg (by rintro ⟨_, h | h | h⟩; exact c2 h; exact c3 h; cases h)]
              clear c1 c2 c3
              go_wp2_with (first | (refine ld_jbg (by rfl) _ rfl _ _ rfl _ HJ5.out ?_))
              refine RM5.out.mono ?_; rintro e w6 ⟨rfl, b6⟩
              have HB6 := Lib.hid (below_next b6 HB5.out)
              clear b6 RM5
              go_wp2_with fail
              go_ret
              exact ⟨by rw [HE.out]; rfl, HB6.out⟩
      · have d1 : (R == 2) = false := by simp [c1]
        have HE : Hid (r = R) := by unfold Hid; rw [HR2.out, if_neg (fun h => c1 h.1)]
        clear c1
        go_wp2_with fail
        go_ret
        exact ⟨by rw [HE.out]; rfl, HB5.out⟩
  · have q1 : (hv != 1) = true := by simp [h1]
    have HR2 : Hid (r = 0) := by unfold Hid; rw [HR.out, if_neg h1]
    clear HR h1
    go_enter Try.func33, Try.ntmps33
    go_upto_region 1 with fail
    rw [← HGX.out, ← HXX.out]
    go_wp2_with (first | (refine ld_jb rfl _ rfl _ _ rfl _ HRN.out ?_))
    refine C.out.mono ?_; rintro e w1 ⟨rfl, b1⟩
    have HB1 := Lib.hid (below_next b1 HBX.out)
    go_wp2_with fail
    go_ret
    exact ⟨by rw [HR2.out]; rfl, HB1.out⟩
end

section
open Go Go.RowKit Go.Lib
set_option maxRecDepth 100000 in
set_option maxHeartbeats 2000000 in
theorem Say14_any (v : Value) (l : List Jb) (id : Nat) (now : Int) (w : World) (h : JRw w v l) (hid : id < 4294967296) :
    Calls Try.prog 20 #[v, .int .u32 (id : Nat), .int .i64 now] w fun e w' => e = .returned (.int .i64 (SayJ l id now)) ∧ Below w.heap.size w w' := by
  have F := Lib.hid (find_any v l id w h hid)
  have HL := Lib.hid h
  obtain ⟨a, c, rfl⟩ := h.row.slice
  obtain ⟨N, hN⟩ : ∃ N, N = l.length := ⟨_, rfl⟩
  rw [← hN] at F ⊢
  have HN := Lib.hid hN
  clear h hN
  go_enter Try.func20, Try.ntmps20
  go_wp2_with fail
  refine F.out.mono ?_; rintro e w1 ⟨hf, b1⟩
  obtain ⟨W, hW⟩ : ∃ W, ∀ j, W j = w1.alloc (.cells (jbC j) 41) := ⟨fun j => w1.alloc (.cells (jbC j) 41), fun _ => rfl⟩
  rcases hf with ⟨hf, rfl⟩ | ⟨j, hf, rfl⟩
  · have HE : Hid (SayJ l id now = 0) := by unfold Hid SayJ; rw [hf]
    have HB : Hid (Below w.heap.size w (W zJb)) := by unfold Hid; rw [hW]; exact below_next ((Below.refl _ _).alloc (Nat.le_refl _) _) b1
    go_upto_region 2 with (first | (refine st_jb rfl _ _ rfl _ _ rfl rfl zJb rfl rfl zJb_s ?_))
    rw [← hW]
    clear hW b1 hf F
    go_wp2_with fail
    go_ret
    exact ⟨by rw [HE.out]; rfl, HB.out⟩
  · have hone := findJ_one HL.out hf
    obtain ⟨hok, _, hk, hkj⟩ := findJ_mem hf
    have hmem : j ∈ l := by rw [← hkj]; exact List.getElem_mem hk
    have HE : Hid (SayJ l id now = sayJ l j now) := by unfold Hid SayJ; rw [hf]
    have hbW : Below w1.heap.size w1 (W j) := by rw [hW]; exact (Below.refl _ _).alloc (Nat.le_refl _) _
    have hbn : Blk (W j) w1.heap.size (jbC j) 41 := by rw [hW]; exact Blk.new _ _ _
    have HB := Lib.hid (below_next hbW b1)
    have HRN := Lib.hid (range_blk hbn)
    have C := Lib.hid (say14_any (.slice a l.length c) l j now (W j) (HL.out.kept HB.out) hok hmem)
    rw [← HN.out] at C
    go_upto_region 2 with (first | (refine st_jb rfl _ _ rfl _ _ rfl rfl j rfl rfl hone ?_))
    rw [← hW]
    clear hW b1 hf F hbW hbn hk hkj hmem
    go_wp2_with (first | (refine ld_jb rfl _ rfl _ _ rfl _ HRN.out ?_))
    refine C.out.mono ?_; rintro e w2 ⟨rfl, b2⟩
    have HB2 := Lib.hid (below_next b2 HB.out)
    clear b2 C
    go_wp2_with fail
    go_ret
    exact ⟨by rw [HE.out]; rfl, HB2.out⟩
/-! All of which it says something. -/
def saysL (l m : List Jb) (now what : Int) : List Nat := (m.filter fun j => decide (sayJ l j now = what)).map (·.id)
def listJ (l : List Jb) (now what : Int) : List Nat := if okJs l = true then saysL l l now what else []
theorem saysL_take (l : List Jb) (now what : Int) {i : Nat} (h : i < l.length) : saysL l (l.take (i + 1)) now what = saysL l (l.take i) now what ++ if sayJ l l[i] now = what then [l[i].id] else [] := by
  unfold saysL
  rw [List.take_add_one, List.getElem?_eq_getElem h, List.filter_append, List.map_append]
  congr 1
  by_cases hs : sayJ l l[i] now = what
  · rw [if_pos hs]; simp [hs]
  · rw [if_neg hs]; simp [hs]
theorem saysL_len (l : List Jb) (now what : Int) (i : Nat) : (saysL l (l.take i) now what).length ≤ i := by
  unfold saysL; rw [List.length_map]
  exact Nat.le_trans (List.length_filter_le _ _) (by rw [List.length_take]; omega)
theorem src_u8 {w : World} {g : Nat} {x : Nat} {t : TypeId} (h : Blk w g (uV x).toArray t) : Src w 1 (.slice (some ⟨g, 0, none⟩) 1 1) 1 (uV x) := by
  refine ⟨rfl, .inr ⟨_, 1, rfl, fun j u hu => ?_⟩⟩
  rw [Addr.add_lit, Nat.zero_add, h.cell, ← Array.getElem?_toList]
  exact hu
theorem uV_one8 (x : Nat) : ∀ u ∈ uV x, u.oneCell' = true := fun u hu => by
  unfold uV at hu; rw [List.mem_singleton] at hu; rw [hu]; rfl
theorem Try.infoU32 : (Try.prog.info? 23).map (fun i => (i.zero, i.size, i.bytes)) = some (some (.int .u32 0), 1, 4) := by kernel_rfl
set_option maxRecDepth 100000 in
set_option maxHeartbeats 4000000 in
theorem saying_any (v : Value) (l : List Jb) (now what : Int) (w : World) (h : JRw w v l) :
    Calls Try.prog 35 #[v, .int .i64 now, .int .i64 what] w fun e w' => (∃ v', e = .returned v' ∧ UOwn w' w.heap.size v' (listJ l now what)) ∧ Below w.heap.size w w' := by
  obtain ⟨i0, hi0, hz0, hz1, hz2⟩ := info_parts Try.infoU32
  have CK := Lib.hid (wcheck_any v l w h)
  have HL := Lib.hid h
  have hlen := h.len
  obtain ⟨a, c, rfl⟩ := h.row.slice
  obtain ⟨N, hN⟩ : ∃ N, N = l.length := ⟨_, rfl⟩
  rw [← hN] at CK hlen ⊢
  have HN := Lib.hid hN
  clear h hN
  cases hck : okJs l
  · have q1 : (chkJ l != 0) = true := by rw [notJs_chk hck]; rfl
    have HE : Hid (listJ l now what = []) := by unfold Hid listJ; rw [hck, if_neg (by simp)]
    generalize chkJ l = C0 at *
    go_enter Try.func35, Try.ntmps35
    go_wp2_with fail
    refine CK.out.mono ?_; rintro e w1 ⟨rfl, b1⟩
    go_wp2_with fail
    go_ret
    refine ⟨⟨_, rfl, ?_⟩, b1⟩
    rw [HE.out]; exact World.ownsRow_nil _ _ _ _
  · have q1 : (chkJ l != 0) = false := by rw [okJs_chk hck]; rfl
    have HE : Hid (listJ l now what = saysL l l now what) := by unfold Hid listJ; rw [hck, if_pos rfl]
    have HCK := Lib.hid hck
    generalize chkJ l = C0 at *
    go_enter Try.func35, Try.ntmps35
    go_wp2_with fail
    refine CK.out.mono ?_; rintro e w1 ⟨rfl, b1⟩
    obtain ⟨W, hW⟩ : ∃ W, W = w1.alloc (.cells #[] 23) := ⟨_, rfl⟩
    have hbW : Below w1.heap.size w1 W := by rw [hW]; exact (Below.refl _ _).alloc (Nat.le_refl _) _
    have HBW := Lib.hid (below_next hbW b1)
    have HO0 : Hid (W.ownsRow w.heap.size 23 1 (.slice (some ⟨w1.heap.size, 0, none⟩) 0 0) (saysL l (l.take 0) now what).length (uL (saysL l (l.take 0) now what))) := by
      unfold Hid; rw [hW]; exact World.ownsRow_made w1 #[] 0 b1.size (Nat.zero_le _) (by simp)
    go_upto_region 4 with fail
    rw [← hW]
    clear hW b1 hbW CK hck
    go_wp2_with fail
    go_loopw [7, 16] (fun sv iv wr => ∃ i : Nat, i ≤ N ∧ iv = .int .i64 (i : Nat) ∧ Hid (wr.ownsRow w.heap.size 23 1 sv (saysL l (l.take i) now what).length (uL (saysL l (l.take i) now what))) ∧ Hid (Below w.heap.size w wr)) (fun _ iv _ => N - (RowKit.intOf iv).toNat)
    case atStart => exact ⟨0, Nat.zero_le _, rfl, HO0.out, HBW.out⟩
    case round =>
      obtain ⟨i, hi, rfl, HO, HB⟩ := hrel
      by_cases hlt : i < N
      · have d1 : decide ((i : Int) < (N : Int)) = true := decide_eq_true (by omega)
        have d1' : decide (i < N) = true := decide_eq_true hlt
        have hii : (i : Int) < (N : Int) := by omega
        have hik : i < l.length := by rw [← HN.out]; exact hlt
        obtain ⟨bb, off, e, hrg⟩ := JRw.at HL.out HB.out hik
        subst e
        have hone := HL.out.one (List.getElem_mem hik)
        have hmem := List.getElem_mem hik
        have HT : Hid (saysL l (l.take (i + 1)) now what = saysL l (l.take i) now what ++ if sayJ l l[i] now = what then [l[i].id] else []) := saysL_take l now what hik
        have HLN : Hid ((saysL l (l.take i) now what).length ≤ i) := saysL_len l now what i
        obtain ⟨L, hL⟩ : ∃ L, L = (saysL l (l.take i) now what).length := ⟨_, rfl⟩
        have HLL := Lib.hid hL
        have hLi : L ≤ i := by rw [hL]; exact HLN.out
        rw [← hL] at HO
        clear hL HLN
        obtain ⟨j, hj⟩ : ∃ j, j = l[i] := ⟨_, rfl⟩
        rw [← hj] at hrg hone hmem HT
        obtain ⟨W, hW⟩ : ∃ W, W = wr.alloc (.cells (jbC j) 41) := ⟨_, rfl⟩
        have hbW : Below wr.heap.size wr W := by rw [hW]; exact (Below.refl _ _).alloc (Nat.le_refl _) _
        have hbn : Blk W wr.heap.size (jbC j) 41 := by rw [hW]; exact Blk.new _ _ _
        have z0 : W.cell? ⟨wr.heap.size, 0, none⟩ = some (.int .u32 (j.id : Nat)) := blk_jb hbn 0
        have HBW := Lib.hid (below_next hbW HB.out)
        have HOW := Lib.hid (own_older HO.out hbW)
        have C := Lib.hid (say14_any (.slice (some ⟨bb, off, none⟩) l.length c) l j now W (HL.out.kept HBW.out) HCK.out hmem)
        rw [← HN.out] at C
        have HRN := Lib.hid (range_blk hbn)
        obtain ⟨S, hS⟩ : ∃ S, S = sayJ l j now := ⟨_, rfl⟩
        rw [← hS] at C HT
        obtain ⟨id, hid⟩ : ∃ x, x = j.id := ⟨_, rfl⟩
        rw [← hid] at z0 HT
        clear hbW hbn hj hS hmem HO hid
        go_upto_region 7 with (first | (refine ld_jb rfl _ rfl _ _ rfl _ hrg ?_) | (refine st_jb rfl _ _ rfl _ _ rfl rfl j rfl rfl hone ?_))
        rw [← hW]
        clear hW hrg
        by_cases hs : S = what
        · have d2 : (S == what) = true := by simp [hs]
          have HT2 : Hid (saysL l (l.take (i + 1)) now what = saysL l (l.take i) now what ++ [id]) := by unfold Hid; rw [HT.out, if_pos hs]
          clear HT hs
          go_wp2_with (first | (refine ld_jb rfl _ rfl _ _ rfl _ HRN.out ?_))
          refine C.out.mono ?_; rintro e w5 ⟨rfl, b5⟩
          have z5 := cell_next b5 z0
          have HO5 := Lib.hid (own_older HOW.out b5)
          have HB5 := Lib.hid (below_next b5 HBW.out)
          clear b5 C z0 HOW
          go_wp2_with (first | (at_builtin; refine wpList_app rfl _ _ 45 rfl w.heap.size 23 i0 _ 1 4 Try.underlying45 hi0 hz0 hz1 hz2 rfl (by decide) _ L (uL (saysL l (l.take i) now what)) rfl (HO5.out.alloc _) _ 1 (uV id) rfl (src_u8 (x := id) (Blk.new _ _ _)) (uV_one8 id) (by unfold maxLen; omega) (by omega) (by have := HB5.out.size; simp; omega) ?_; intro v8 w8 hown8 hgrow8 hat8; have HB8 := Lib.hid ((HB5.out.alloc HB5.out.size _).grown hgrow8 (by have := HB5.out.size; simp; omega) (fun j hj => (own_ge HO5.out hj).1)); obtain ⟨a8, c8, rfl⟩ := own_slice hown8; have HO8 := Lib.hid hown8; clear hown8 hgrow8 hat8))
          go_wp2_with fail
          go_roundw
          case rel =>
            refine ⟨i + 1, hlt, by go_num, ?_, HB8.out⟩
            unfold Hid
            have h8 := HO8.out
            rw [HT2.out, List.length_append, ← HLL.out]
            unfold uL at h8 ⊢
            rw [List.flatMap_append]
            simpa using h8
          case measure => simp [RowKit.intOf]; omega
        · have d2 : (S == what) = false := by simp [hs]
          have HT2 : Hid (saysL l (l.take (i + 1)) now what = saysL l (l.take i) now what) := by unfold Hid; rw [HT.out, if_neg hs, List.append_nil]
          clear HT hs
          go_wp2_with (first | (refine ld_jb rfl _ rfl _ _ rfl _ HRN.out ?_))
          refine C.out.mono ?_; rintro e w5 ⟨rfl, b5⟩
          have HO5 := Lib.hid (own_older HOW.out b5)
          have HB5 := Lib.hid (below_next b5 HBW.out)
          clear b5 C z0 HOW
          go_wp2_with fail
          go_roundw
          case rel =>
            refine ⟨i + 1, hlt, by go_num, ?_, HB5.out⟩
            unfold Hid
            rw [HT2.out, ← HLL.out]; exact HO5.out
          case measure => simp [RowKit.intOf]; omega
      · have d1 : decide ((i : Int) < (N : Int)) = false := decide_eq_false (by omega)
        have d1' : decide (i < N) = false := decide_eq_false hlt
        have HOE : Hid (UOwn wr w.heap.size u7 (listJ l now what)) := by
          have h := HO.out
          rw [List.take_of_length_le (by have := HN.out; omega)] at h
          unfold Hid; rw [HE.out]; exact h
        clear HO
        go_wp2_with fail
        go_ret
        exact ⟨⟨_, rfl, HOE.out⟩, HB.out⟩
theorem ready_any (v : Value) (l : List Jb) (now : Int) (w : World) (h : JRw w v l) :
    Calls Try.prog 22 #[v, .int .i64 now] w fun e w' => (∃ v', e = .returned v' ∧ UOwn w' w.heap.size v' (listJ l now 2)) ∧ Below w.heap.size w w' := by
  have C := Lib.hid (saying_any v l now 2 w h)
  obtain ⟨a, c, rfl⟩ := h.row.slice
  generalize l.length = N at *
  clear h
  go_enter Try.func22, Try.ntmps22
  go_wp2_with fail
  refine C.out.mono ?_; rintro e w1 ⟨⟨v', rfl, ho⟩, b1⟩
  go_wp2_with fail
  go_ret
  exact ⟨⟨_, rfl, ho⟩, b1⟩
theorem never_any (v : Value) (l : List Jb) (w : World) (h : JRw w v l) :
    Calls Try.prog 23 #[v] w fun e w' => (∃ v', e = .returned v' ∧ UOwn w' w.heap.size v' (listJ l 0 3)) ∧ Below w.heap.size w w' := by
  have C := Lib.hid (saying_any v l 0 3 w h)
  obtain ⟨a, c, rfl⟩ := h.row.slice
  generalize l.length = N at *
  clear h
  go_enter Try.func23, Try.ntmps23
  go_wp2_with fail
  refine C.out.mono ?_; rintro e w1 ⟨⟨v', rfl, ho⟩, b1⟩
  go_wp2_with fail
  go_ret
  exact ⟨⟨_, rfl, ho⟩, b1⟩
end

end Go.Proofs.Ytfabjlhepadkpaa
