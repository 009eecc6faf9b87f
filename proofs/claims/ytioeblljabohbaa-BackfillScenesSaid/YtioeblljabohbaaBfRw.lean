/-
  gangerref15.when.
-/
import Derived.Test.YtioeblljabohbaaBfRef
import Derived.Test.YtioeblljabohbaaBfJj
namespace Go.Proofs.Ytioeblljabohbaa
open Go Go.RowKit Go.Lib Go.Sort
set_option linter.unusedVariables false

/-- Ever fewer ends lie ahead. -/
def mW (c : Sc) (T : Int) : Nat := if T < 0 then 0 else 1 + (endsB c.hl).countP fun x => decide (T.toNat < x)
theorem mW_some (c : Sc) (t : Nat) : mW c (t : Int) = 1 + (endsB c.hl).countP fun x => decide (t < x) := by
  unfold mW; rw [if_neg (by omega)]; simp only [Int.toNat_natCast]
theorem mW_next {c : Sc} {t : Nat} {r : Option Nat} (h : IsNext (endsB c.hl) t r) : mW c (optI r) < mW c (t : Int) := by
  rw [mW_some]
  cases r with
  | none =>
    have : mW c (optI none) = 0 := by unfold mW; rw [show optI none = -1 from rfl, if_pos (by decide)]
    omega
  | some y =>
    have e : mW c (optI (some y)) = _ := mW_some c y
    have := h.fewer
    omega
theorem next_le {B : List Nat} {t M : Nat} {r : Option Nat} (h : IsNext B t r) (hB : ∀ x ∈ B, x ≤ M) : ∀ y, r = some y → y ≤ M := by
  intro y e
  rcases h with ⟨h1, _⟩ | ⟨z, h1, h2, _⟩
  · rw [h1] at e; cases e
  · rw [h1] at e; injection e with e; rw [← e]; exact hB z h2
/-- What is looked for from a tick on. -/
def earlyO (c : Sc) (q len : Nat) : Option Nat → Int × Int × Int
  | some t => earlyE c q t len
  | none => (0, 0, 5)
theorem earlyO_next {c : Sc} {q t len : Nat} {r : Option Nat} (h : IsNext (endsB c.hl) t r) (hf : firstB c q t (t + len) = none) : earlyO c q len (some t) = earlyO c q len r := by
  show earlyE c q t len = _
  unfold earlyE
  rw [earlyC_step h, hf]
  cases r with
  | none => rfl
  | some y => rfl
theorem earlyO_hit {c : Sc} {q t len s : Nat} (hf : firstB c q t (t + len) = some s) : earlyO c q len (some t) = ((t : Int), (s : Int), 0) := by
  show earlyE c q t len = _
  obtain ⟨r, hr⟩ : ∃ r, IsNext (endsB c.hl) t r := ⟨_, (show IsNext (endsB c.hl) t _ from by
    have h := find_next (endsC_sorted c) t
    rcases h with ⟨h1, h2⟩ | ⟨y, h1, h2, h3, h4⟩
    · exact .inl ⟨h1, fun x hx => h2 x ((endsC_mem c x).2 hx)⟩
    · exact .inr ⟨y, h1, (endsC_mem c y).1 h2, h3, fun x hx => h4 x ((endsC_mem c x).2 hx)⟩)⟩
  unfold earlyE
  rw [earlyC_step hr, hf]
theorem first_at {c : Sc} {q a b i : Nat} (hi : i < 2 ^ (c.n - q)) (hf : freeB c (i * 2 ^ q) q a b = true) (hno : ∀ j, j < i → freeB c (j * 2 ^ q) q a b = false) : firstB c q a b = some (i * 2 ^ q) := by
  unfold firstB
  rw [leastP_some.2 ⟨hi, hf, hno⟩]; rfl
theorem first_no {c : Sc} {q a b : Nat} (hno : ∀ j, j < 2 ^ (c.n - q) → freeB c (j * 2 ^ q) q a b = false) : firstB c q a b = none := by
  unfold firstB
  rw [leastP_none.2 hno]; rfl
set_option maxRecDepth 100000 in
set_option maxHeartbeats 4000000 in
theorem refWhen_any (vf vh : Value) (c : Sc) (q a len : Nat) (w : World) (hc : ScOk c) (hr : SRow w vf vh c) (hq : q ≤ c.n) (ha : a ≤ 1099511627776) (hl : len ≤ 1099511627776) :
    Calls Try.prog 41 #[.agg #[.int .i64 (c.n : Nat), vf, vh], .int .i64 (q : Nat), .int .i64 (a : Nat), .int .i64 (len : Nat)] w fun e w' => e = .returned (.tuple #[.int .i64 (earlyE c q a len).1, .int .i64 (earlyE c q a len).2.1, .int .i64 (earlyE c q a len).2.2]) ∧ Below w.heap.size w w' := by
  have SZ : Hid (∀ (m : Nat) (w' : World), m ≤ 10 → Calls Try.prog 37 #[.int .i64 (m : Int)] w' fun e w'' => e = .returned (.int .i64 ((2 ^ m : Nat) : Int)) ∧ w'' = w') := fun m w' hm => rSize_any m hm w'
  have hn10 := hc.n10
  obtain ⟨Z, hZ⟩ : ∃ Z, Z = 2 ^ q := ⟨_, rfl⟩
  obtain ⟨Y, hY⟩ : ∃ Y, Y = 2 ^ c.n := ⟨_, rfl⟩
  obtain ⟨B, hB⟩ : ∃ B, B = 2 ^ (c.n - q) := ⟨_, rfl⟩
  have hZ1 : 1 ≤ Z := by rw [hZ]; exact two_pos q
  have hY2 : Y ≤ 1024 := by rw [hY]; exact pow_1024 hn10
  have hBZ : Hid (B * Z = Y) := by unfold Hid; rw [hB, hZ, hY, ← Nat.pow_add]; congr 1; omega
  have SQ : Hid (∀ w', Calls Try.prog 37 #[.int .i64 (q : Int)] w' fun e w'' => e = .returned (.int .i64 (Z : Int)) ∧ w'' = w') := fun w' => by rw [hZ]; exact SZ.out q w' (by omega)
  have SN : Hid (∀ w', Calls Try.prog 37 #[.int .i64 (c.n : Int)] w' fun e w'' => e = .returned (.int .i64 (Y : Int)) ∧ w'' = w') := fun w' => by rw [hY]; exact SZ.out c.n w' hn10
  have OP : Hid (∀ (i t : Nat) (w1 : World), i * Z ≤ 4096 → Below w.heap.size w w1 → Calls Try.prog 39 #[.agg #[.int .i64 (c.n : Nat), vf, vh], .agg #[.int .i64 ((i * Z : Nat) : Int), .int .i64 (q : Nat)], .int .i64 (t : Nat), .int .i64 ((t + len : Nat) : Int)] w1 fun e w' => e = .returned (.bool (freeB c (i * Z) q t (t + len))) ∧ Below w1.heap.size w1 w') := fun i t w1 hi hb =>
    refOpen_any vf vh c (i * Z) q t (t + len) w1 (hr.kept hb) (by omega) hi (fl_len hc) (by have := hc.len; omega) (fun h hh => by
      have h1 := (hc.he h hh).1
      have h2 := pow_1024 hn10
      have h3 := two_pos h.2.1
      obtain ⟨g1, g2, g3⟩ := h1
      exact ⟨by omega, by omega⟩)
  have LT : Hid (∀ (t : Nat) (w1 : World), Below w.heap.size w w1 → Calls Try.prog 57 #[.agg #[.int .i64 (c.n : Nat), vf, vh], .int .i64 (t : Nat)] w1 fun e w' => ∃ r, e = .returned (.int .i64 (optI r)) ∧ IsNext (endsB c.hl) t r ∧ Below w1.heap.size w1 w') := fun t w1 hb =>
    refLater_any c.n t vf vh c.hl w1 (by obtain ⟨a, c', e⟩ := hr.f.slice; rw [e]; rfl) (hr.h.kept hb) (by have := hc.len; omega)
  have h1 : vf.oneCell' = true := by obtain ⟨a, c', e⟩ := hr.f.slice; rw [e]; rfl
  have h2 : vh.oneCell' = true := by obtain ⟨a, c', e⟩ := hr.h.slice; rw [e]; rfl
  have HEN : Hid (∀ x ∈ endsB c.hl, x ≤ 4398046511104) := fun x hx => by
    obtain ⟨y, hy, rfl⟩ := List.mem_map.1 hx
    exact (hc.he y hy).2.2
  have FA : Hid (∀ i t, i < B → freeB c (i * Z) q t (t + len) = true → (∀ j, j < i → freeB c (j * Z) q t (t + len) = false) → earlyO c q len (some t) = ((t : Int), ((i * Z : Nat) : Int), 0)) := fun i t hi hf hno => by
    rw [hZ] at hf hno ⊢
    exact earlyO_hit (first_at (by rw [← hB]; exact hi) hf hno)
  have FN : Hid (∀ t r, (∀ j, j < B → freeB c (j * Z) q t (t + len) = false) → IsNext (endsB c.hl) t r → earlyO c q len (some t) = earlyO c q len r) := fun t r hno hr => by
    rw [hZ, hB] at hno
    exact earlyO_next hr (first_no hno)
  obtain ⟨n, hn⟩ : ∃ n, n = c.n := ⟨_, rfl⟩
  rw [← hn] at OP SN LT hn10 ⊢
  have HEO : Hid (earlyE c q a len = earlyO c q len (some a)) := rfl
  obtain ⟨W, hW⟩ : ∃ W, W = w.alloc (.cells #[.int .i64 (n : Nat), vf, vh] 25) := ⟨_, rfl⟩
  obtain ⟨gS, hgS⟩ : ∃ g, g = w.heap.size := ⟨_, rfl⟩
  have HBW : Hid (Below w.heap.size w W) := by unfold Hid; rw [hW]; exact (Below.refl _ _).alloc (Nat.le_refl _) _
  have HS : Hid (Blk W gS #[.int .i64 (n : Nat), vf, vh] 25) := by unfold Hid; rw [hW, hgS]; exact Blk.new w _ _
  obtain ⟨EE, hEE⟩ : ∃ x, x = earlyE c q a len := ⟨_, rfl⟩
  rw [← hEE] at HEO ⊢
  clear hc hr hq SZ hZ hY hB hn hEE
  go_enter Try.func41, Try.ntmps41
  go_upto_region 1 with fail
  rw [← hgS, ← hW]
  clear hgS hW
  go_wp2_with fail
  refine (SQ.out _).mono ?_; rintro e w1 ⟨rfl, hw1⟩
  replace hw1 := hw1.symm
  subst hw1
  go_wp2_with fail
  go_loopw [12] (fun tv wr => ∃ o : Option Nat, tv = .int .i64 (optI o) ∧ Hid (EE = earlyO c q len o) ∧ Hid (∀ t, o = some t → t ≤ 4398046511104) ∧ Hid (Below W.heap.size W wr)) (fun tv _ => mW c (RowKit.intOf tv))
  case atStart => exact ⟨some a, rfl, HEO, fun t e => by (injection e with e; omega), Below.refl _ _⟩
  case round =>
    obtain ⟨o, rfl, HE, HT, HB⟩ := hrel
    have HBr : Hid (Below w.heap.size w wr) := below_next HB.out HBW.out
    cases o with
    | none =>
      rw [show optI none = -1 from rfl]
      have HEE : Hid (EE = (0, 0, 5)) := HE.out
      clear HE
      go_wp2_with fail
      go_ret3
      exact ⟨by (rw [HEE.out]; rfl), HBr.out⟩
    | some t =>
      rw [show optI (some t) = (t : Int) from rfl]
      have htb := HT.out t rfl
      have d1 : decide ((t : Int) ≥ 0) = true := decide_eq_true (by omega)
      have d2 : decide ((0 : Int) ≤ (t : Int)) = true := decide_eq_true (by omega)
      obtain ⟨wQ, hwQ⟩ : ∃ x, x = wr := ⟨_, rfl⟩
      subst hwQ
      go_upto_region 5 with fail
      go_loopw [13] (fun wv wr => ∃ i : Nat, i ≤ B ∧ wv = .int .i64 ((i * Z : Nat) : Int) ∧ Hid (∀ j, j < i → freeB c (j * Z) q t (t + len) = false) ∧ Hid (Below W.heap.size W wr)) (fun wv _ => Y - (RowKit.intOf wv).toNat)
      case atStart => exact ⟨0, Nat.zero_le _, by simp, fun j hj => absurd hj (Nat.not_lt_zero _), HB⟩
      case round =>
        clear HB HBr
        obtain ⟨i, hi, rfl, HN, HB⟩ := hrel
        have HBr : Hid (Below w.heap.size w wr) := below_next HB.out HBW.out
        have s0 := (HS.out.kept HB.out).cell 0
        have s1 := (HS.out.kept HB.out).cell 1
        have s2 := (HS.out.kept HB.out).cell 2
        simp at s0 s1 s2
        have hle : i * Z ≤ Y := by have := Nat.mul_le_mul_right Z hi; have := hBZ.out; omega
        have HOP := Lib.hid (OP.out i t wr (by omega) HBr.out)
        have HFA := Lib.hid (FA.out i t)
        have HFN := Lib.hid (FN.out t)
        by_cases hlt : i < B
        · have hX2 : i * Z + Z ≤ Y := by
            have h1 := Nat.mul_le_mul_right Z (show i + 1 ≤ B from hlt)
            rw [Nat.succ_mul] at h1
            have := hBZ.out
            omega
          have hmul : Hid ((i + 1) * Z = i * Z + Z) := Nat.succ_mul _ _
          have HHIT : Hid (freeB c (i * Z) q t (t + len) = true → EE = ((t : Int), ((i * Z : Nat) : Int), 0)) := fun hf => HE.out.trans (HFA.out hlt hf HN.out)
          have HNX : Hid (freeB c (i * Z) q t (t + len) = false → ∀ j, j < i + 1 → freeB c (j * Z) q t (t + len) = false) := fun hf j hj => by
            rcases Nat.lt_or_ge j i with h1 | h1
            · exact HN.out j h1
            · obtain rfl : j = i := by omega
              exact hf
          obtain ⟨F, hF⟩ : ∃ F, F = freeB c (i * Z) q t (t + len) := ⟨_, rfl⟩
          rw [← hF] at HOP HHIT HNX
          obtain ⟨X, hX⟩ : ∃ X, X = i * Z := ⟨_, rfl⟩
          rw [← hX] at HOP HHIT hmul hX2 hle ⊢
          obtain ⟨E, hE⟩ : ∃ E, E = t + len := ⟨_, rfl⟩
          rw [← hE] at HOP
          have hEi : (t : Int) + (len : Int) = (E : Int) := by omega
          have hEb : E ≤ 5497558138880 := by omega
          have k1 : decide (X < Y) = true := decide_eq_true (by omega)
          have k2 : decide ((X : Int) < (Y : Int)) = true := decide_eq_true (by omega)
          clear hF hX hE HN HFA HFN
          go_wp2_with fail
          refine (SN.out _).mono ?_; rintro e w2 ⟨rfl, hw2⟩
          replace hw2 := hw2.symm
          subst hw2
          go_wp2_with fail
          refine HOP.out.mono ?_; rintro e w3 ⟨rfl, b3⟩
          have HB3 := Lib.hid (below_next b3 HB.out)
          have HB3w := Lib.hid (below_next b3 HBr.out)
          clear b3 HOP s0 s1 s2
          cases F with
          | true =>
            have HEE := Lib.hid (HHIT.out rfl)
            clear HHIT HNX
            go_wp2_with fail
            go_ret3
            exact ⟨by (rw [HEE.out]; rfl), HB3w.out⟩
          | false =>
            have HNY := Lib.hid (HNX.out rfl)
            clear HHIT HNX
            go_wp2_with fail
            go_roundw
            case rel => exact ⟨i + 1, hlt, by (rw [hmul.out]; push_cast; rfl), HNY, HB3⟩
            case measure => simp [RowKit.intOf]; omega
        · have HFIN : Hid (∀ r, IsNext (endsB c.hl) t r → EE = earlyO c q len r) := fun r hr => HE.out.trans (HFN.out r (fun j hj => HN.out j (by omega)) hr)
          have hiB : i = B := by omega
          have hXY : i * Z = Y := by rw [hiB]; exact hBZ.out
          clear hiB
          obtain ⟨X, hX⟩ : ∃ X, X = i * Z := ⟨_, rfl⟩
          rw [← hX] at hXY ⊢
          have k1 : decide (X < Y) = false := decide_eq_false (by omega)
          have k2 : decide ((X : Int) < (Y : Int)) = false := decide_eq_false (by omega)
          have HXY : Hid (X = Y) := hXY
          clear hX hXY hle HOP HFA HFN HN hlt
          go_wp2_with fail
          refine (SN.out _).mono ?_; rintro e w2 ⟨rfl, hw2⟩
          replace hw2 := hw2.symm
          subst hw2
          go_wp2_with fail
          refine (LT.out t _ HBr.out).mono ?_; rintro e w3 ⟨r, rfl, hnx, b3⟩
          have HB3 := Lib.hid (below_next b3 HB.out)
          have HNX := Lib.hid hnx
          clear b3 s0 s1 s2 hnx
          go_wp2_with fail
          go_roundw
          case rel => exact ⟨r, rfl, HFIN.out r HNX.out, next_le HNX.out HEN.out, HB3⟩
          case measure => exact mW_next HNX.out
end Go.Proofs.Ytioeblljabohbaa
