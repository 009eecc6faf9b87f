/-
  ShareOnly: an account that is alone is entitled to all, and has had all, if it has had anything; a child that is the only one has its parent's norm, and no more than its part: so the law returns true for every input, the listed tables of Go's library reading as the program's text lays them.
-/
import Derived.Test.YtbnlmeegepgioaaDoorShOn
import Derived.Test.YtbnlmeegepgioaaDoorShPl
import Derived.Test.YtbnlmeegepgioaaDoorRows
import Derived.Test.YtbnlmeegepgioaaDoorArgs2
import Derived.Test.YtbnlmeegepgioaaDoorLaid
import Derived.Test.YtbnlmeegepgioaaDoorCards
import Derived.Test.YtbnlmeegepgioaaDoorTie
import Derived.MakeChecks
import Derived.SevenTiedAt
namespace Go.Proofs.YtbnlmeegepgioaaDoor.shareOnly
open Go.ChangeShapes Go.WideShapes Go.ChangeAt Go.RowKit
set_option linter.unusedVariables false

theorem own : ownKnob Tryd.prog.godebug = none := by kernel_rfl

open Go Go.RowKit Go.Lib in
set_option maxRecDepth 100000 in
set_option maxHeartbeats 8000000 in
theorem walk (own child shares : Int) (w : World) (hE : U8W w) (h0 : (Lit.int .u32 own).wf = true) (h1 : (Lit.int .u32 child).wf = true) (h2 : (Lit.int .u16 shares).wf = true) :
    Calls Tryd.prog 9 #[.int .u32 own, .int .u32 child, .int .u16 shares] w fun e w' => e = .returned (.bool true) ∧ Below w.heap.size w w' := by
  have ho : 0 ≤ own ∧ own ≤ 4294967295 := by simpa [Lit.wf, IntKind.min, IntKind.max, IntKind.bits, IntKind.signed] using h0
  have hc : 0 ≤ child ∧ child ≤ 4294967295 := by simpa [Lit.wf, IntKind.min, IntKind.max, IntKind.bits, IntKind.signed] using h1
  have hs : 0 ≤ shares ∧ shares ≤ 65535 := by simpa [Lit.wf, IntKind.min, IntKind.max, IntKind.bits, IntKind.signed] using h2
  obtain ⟨o, rfl⟩ := Int.eq_ofNat_of_zero_le ho.1
  obtain ⟨c, rfl⟩ := Int.eq_ofNat_of_zero_le hc.1
  obtain ⟨s, rfl⟩ := Int.eq_ofNat_of_zero_le hs.1
  have ho9 : o ≤ 4294967295 := by omega
  have hc9 : c ≤ 4294967295 := by omega
  have hs9 : s ≤ 65535 := by omega
  obtain ⟨i0, hi, hz0, hz1, hz2⟩ := info_parts Tryd.infoAcc
  have K : Hid (∀ w1, Below w.heap.size w w1 → Calls Tryd.prog 11 #[] w1 fun e w' => e = .returned (.bool true) ∧ Below w1.heap.size w1 w') := fun w1 hb => known11_any w1 (hE.next hb)
  have N1 : Hid (∀ w1 v, Below w.heap.size w w1 → AcRow w1 v (oneL s) → Calls Tryd.prog 16 #[v] w1 fun e w' => ∃ r, e = .returned (.tuple #[r, .int .i64 0]) ∧ NOwn w' w1.heap.size r [65536] ∧ Below w1.heap.size w1 w') := fun w1 v hb hv =>
    (norms_any v (oneL s) w1 hv (one_short s) (hE.next hb) (by rw [one_len]; omega)).mono fun e w' h => by have h := res_ok (one_ok hs9) (zeros_ok _) h; rw [one_len, one_norms] at h; exact h
  have F1 : Hid (∀ w1 v vo, Below w.heap.size w w1 → AcRow w1 v (oneL s) → GRow w1 vo [(o : Int)] → Calls Tryd.prog 20 #[v, vo] w1 fun e w' => ∃ r, e = .returned (.tuple #[r, .int .i64 0]) ∧ NOwn w' w1.heap.size r [if 0 < o then 32768 else 65536] ∧ Below w1.heap.size w1 w') := fun w1 v vo hb hv hg =>
    (factors_any v vo (oneL s) [(o : Int)] w1 hv (one_short s) (hE.next hb) hg (by simp) (by rw [one_len]; omega) (fun x hx => by rw [List.mem_singleton] at hx; omega)).mono fun e w' h => by have h := res_ok (one_ok hs9) (own1_ok s o) h; rw [one_len, one_facs s o ho9] at h; exact h
  have N2 : Hid (∀ w1 v, Below w.heap.size w w1 → AcRow w1 v (twoL s) → Calls Tryd.prog 16 #[v] w1 fun e w' => ∃ r, e = .returned (.tuple #[r, .int .i64 0]) ∧ NOwn w' w1.heap.size r [65536, 65536] ∧ Below w1.heap.size w1 w') := fun w1 v hb hv =>
    (norms_any v (twoL s) w1 hv (two_short s) (hE.next hb) (by rw [two_len]; omega)).mono fun e w' h => by have h := res_ok (two_ok hs9) (zeros_ok _) h; rw [two_len, two_norms hs9] at h; exact h
  have P2 : Hid (∀ w1 v vo, Below w.heap.size w w1 → AcRow w1 v (twoL s) → GRow w1 vo [(o : Int), (c : Int)] → Calls Tryd.prog 18 #[v, vo] w1 fun e w' => ∃ r, e = .returned (.tuple #[r, .int .i64 0]) ∧ NOwn w' w1.heap.size r [if 0 < o + c then 65536 else 0, ((65536 * c / (o + c) : Nat) : Int)] ∧ Below w1.heap.size w1 w') := fun w1 v vo hb hv hg =>
    (parts_any v vo (twoL s) [(o : Int), (c : Int)] w1 hv (two_short s) (hE.next hb) hg (by simp) (fun x hx => by simp only [List.mem_cons, List.not_mem_nil, or_false] at hx; omega)).mono fun e w' h => by have h := res_ok (two_ok hs9) (own2_ok s o c) h; rw [two_len, two_parts hs9 o c ho9 hc9] at h; exact h
  have G1 : Hid (∀ (w0 : World) (x : Int), Below w0.heap.size w0 (w0.alloc (.cells #[.int .i64 x] 3)) ∧ GRow (w0.alloc (.cells #[.int .i64 x] 3)) (.slice (some ⟨w0.heap.size, 0, none⟩) 1 1) [x]) := fun w0 x => ⟨(Below.refl _ _).alloc (Nat.le_refl _) _, .inr ⟨w0.heap.size, 0, 1, rfl, fun j hj => by
    obtain rfl : j = 0 := by simp at hj; omega
    exact (Blk.new w0 _ _).cell 0⟩⟩
  have G2 : Hid (∀ (w0 : World) (x y : Int), Below w0.heap.size w0 (w0.alloc (.cells #[.int .i64 x, .int .i64 y] 3)) ∧ GRow (w0.alloc (.cells #[.int .i64 x, .int .i64 y] 3)) (.slice (some ⟨w0.heap.size, 0, none⟩) 2 2) [x, y]) := fun w0 x y => ⟨(Below.refl _ _).alloc (Nat.le_refl _) _, .inr ⟨w0.heap.size, 0, 2, rfl, fun j hj => by
    rcases (by simp at hj; omega : j = 0 ∨ j = 1) with rfl | rfl
    · exact (Blk.new w0 _ _).cell 0
    · exact (Blk.new w0 _ _).cell 1⟩⟩
  clear hE h0 h1 h2 ho hc hs
  go_enter Tryd.func9, Tryd.ntmps9
  go_wp2_with fail
  obtain ⟨w1, hw1⟩ : ∃ w1, w1 = w.alloc (.cells #[.string ⟨#[114]⟩, .string ⟨#[]⟩, .int .i64 (1 + (s : Int))] 37) := ⟨_, rfl⟩
  obtain ⟨g, hg⟩ : ∃ g, g = w.heap.size := ⟨_, rfl⟩
  have HA1 : Hid (Blk w1 g #[.string ⟨#[114]⟩, .string ⟨#[]⟩, .int .i64 (1 + (s : Int))] 37) := by unfold Hid; rw [hw1, hg]; exact Blk.new w _ _
  have B1 : Hid (Below w.heap.size w w1) := by unfold Hid; rw [hw1]; exact (Below.refl _ _).alloc (Nat.le_refl _) _
  rw [← hw1, ← hg]
  have HG := Lib.hid hg
  clear hw1 hg
  have RO : Hid (∀ w', Blk w' g #[.string ⟨#[114]⟩, .string ⟨#[]⟩, .int .i64 (1 + (s : Int))] 37 → AcRow w' (.slice (some ⟨g, 0, none⟩) 1 1) (oneL s)) := fun w' h => rowG_one h fun j u hu => by
    have hu' : [Value.string ⟨#[114]⟩, Value.string ⟨#[]⟩, Value.int .i64 (1 + (s : Int))][j]? = some u := hu
    simpa using hu'
  refine (N1.out _ _ B1.out (RO.out _ HA1.out)).mono ?_; rintro e w2 ⟨rn, rfl, hr, b2⟩
  have B2 := Lib.hid (below_next b2 B1.out)
  have HA2 := Lib.hid (HA1.out.kept b2)
  obtain ⟨gn, cn, hve, _, _, _, _, hcell⟩ := nown_parts hr (by decide)
  subst hve
  have n2 : w2.cell? ⟨gn, 0, none⟩ = some (.int .i64 65536) := hcell 0 (by decide)
  clear hr hcell b2 N1 HA1
  go_wp2_with fail
  obtain ⟨k1, j1⟩ := G1.out w2 (o : Int)
  have B3 := Lib.hid (below_next k1 B2.out)
  have HA3 := Lib.hid (HA2.out.kept k1)
  have n3 := cell_next k1 n2
  refine (F1.out _ _ _ B3.out (RO.out _ HA3.out) j1).mono ?_; rintro e w4 ⟨rf, rfl, hr, b4⟩
  have B4 := Lib.hid (below_next b4 B3.out)
  have HA4 := Lib.hid (HA3.out.kept b4)
  have n4 := cell_next b4 n3
  obtain ⟨gf, cf, hve, _, _, _, _, hcell⟩ := nown_parts hr (by simp)
  subst hve
  have f4 : w4.cell? ⟨gf, 0, none⟩ = some (.int .i64 (if 0 < o then 32768 else 65536)) := hcell 0 (by simp)
  clear hr hcell b4 F1 HA2 HA3 n2 n3 k1 j1 B1 B2 B3
  have HONE : ∀ x y : Value, x.oneCell' = true → y.oneCell' = true → True := fun _ _ _ _ => trivial
  clear HONE
  have tail : Hid (∀ w', Below w4.heap.size w4 w' → (∃ A : Value, True) → True) := fun _ _ _ => trivial
  clear tail
  by_cases h0 : 0 < o
  · have q1 : decide ((o : Int) > 0) = true := decide_eq_true (by omega)
    have q2 : decide (0 < o) = true := decide_eq_true h0
    rw [if_pos h0] at f4
    go_upto_region 9 with fail
    clear n4 f4
    go_wp2_with (at_builtin; refine wpList_app rfl _ _ 22 rfl w.heap.size 37 i0 _ 3 40 Tryd.underlying22 hi hz0 hz1 hz2 rfl (by decide) (.slice (some ⟨g, 0, none⟩) 1 1) 1 [.string ⟨#[114]⟩, .string ⟨#[]⟩, .int .i64 (1 + (s : Int))] rfl (own_of_blk (HA4.out.old _) (by rw [HG.out]; exact Nat.le_refl _) rfl (by decide)) _ 1 [.string ⟨#[99]⟩, .string ⟨#[114]⟩, .int .i64 (1 + (s : Int))] rfl ⟨rfl, .inr ⟨_, 1, rfl, fun j u hu => by rw [Addr.add_lit, Nat.zero_add, Blk.cell (Blk.new _ _ _)]; simpa using hu⟩⟩ (by simp [Value.oneCell']) (by decide) (by decide) (by have := B4.out.size; simp; omega) ?_; intro v5 w5 hown5 hgrow5 _)
    have HR5 : Hid (AcRow w5 v5 (twoL s)) := rowG_of_own (l := twoL s) enc_len hown5
    have B5 : Hid (Below w.heap.size w w5) := (B4.out.alloc B4.out.size (.cells #[.string ⟨#[99]⟩, .string ⟨#[114]⟩, .int .i64 (1 + (s : Int))] 37)).grown hgrow5 (by have := B4.out.size; simp; omega) (fun q hq => by
      have : q = g := by simpa [Value.ownBlock] using hq.symm
      rw [this, HG.out]; exact Nat.le_refl _)
    obtain ⟨va, ca, rfl⟩ := own_slice hown5
    clear hown5 hgrow5 HA4 B4
    refine (N2.out _ _ B5.out HR5.out).mono ?_; rintro e w6 ⟨rn, rfl, hr, b6⟩
    have B6 := Lib.hid (below_next b6 B5.out)
    have HR6 := Lib.hid (HR5.out.kept b6)
    obtain ⟨gm, cm, hve, _, _, _, _, hcell⟩ := nown_parts hr (by decide)
    subst hve
    have n6 : w6.cell? ⟨gm, 1, none⟩ = some (.int .i64 65536) := hcell 1 (by decide)
    clear hr hcell b6 N2 HR5
    go_wp2_with fail
    obtain ⟨k1, j1⟩ := G2.out w6 (o : Int) (c : Int)
    have B7 := Lib.hid (below_next k1 B6.out)
    have HR7 := Lib.hid (HR6.out.kept k1)
    have n7 := cell_next k1 n6
    refine (P2.out _ _ _ B7.out HR7.out j1).mono ?_; rintro e w8 ⟨rp, rfl, hr, b8⟩
    have B8 := Lib.hid (below_next b8 B7.out)
    have n8 := cell_next b8 n7
    obtain ⟨gp, cp, hve, _, _, _, _, hcell⟩ := nown_parts hr (by simp)
    subst hve
    have p0 : w8.cell? ⟨gp, 0, none⟩ = some (.int .i64 (if 0 < o + c then 65536 else 0)) := hcell 0 (by simp)
    have p1 : w8.cell? ⟨gp, 1, none⟩ = some (.int .i64 ((65536 * c / (o + c) : Nat) : Int)) := hcell 1 (by simp)
    clear hr hcell b8 P2 HR6 HR7 n6 n7 k1 j1 G1 G2 RO
    have ha : 0 < o + c := by omega
    rw [if_pos ha] at p0
    obtain ⟨T, hT⟩ : ∃ T, T = o + c := ⟨_, rfl⟩
    obtain ⟨P, hP⟩ : ∃ P, P = 65536 * c := ⟨_, rfl⟩
    obtain ⟨Q, hQ⟩ : ∃ Q, Q = 65536 * c / (o + c) := ⟨_, rfl⟩
    have hQe : Q = P / T := by rw [hQ, hP, hT]
    rw [← hQ] at p1
    have hTi : (o : Int) + (c : Int) = (T : Int) := by omega
    have hPi : (c : Int) * 65536 = (P : Int) := by omega
    have hPb : P ≤ 281474976710656 := by omega
    have hTb : T ≤ 8589934590 := by omega
    have hT0 : (T : Int) ≠ 0 := by omega
    have hT1 : ¬ (T : Int) = 0 := by omega
    have hT2 : ((T : Int) == 0) = false := by rw [beq_eq_false_iff_ne]; omega
    have hQi : (P : Int) / (T : Int) = (Q : Int) := by rw [hQe]; simp
    have hQb : Q ≤ 281474976710656 := by rw [hQe]; exact Nat.le_trans (Nat.div_le_self _ _) hPb
    have hTz : ¬ T = 0 := by omega
    clear hT hP hQ hQe
    go_upto_region 17 with fail
    clear n8
    have e1 : IntKind.i64.wrap (c : Int) = (c : Int) := by rw [IntKind.wrap_i64]; omega
    have e2 : IntKind.i64.wrap (P : Int) = (P : Int) := by rw [IntKind.wrap_i64]; omega
    have e3 : (P : Int).tdiv (T : Int) = (Q : Int) := by rw [Int.tdiv_eq_ediv_of_nonneg (by omega)]; exact hQi
    have e4 : IntKind.i64.wrap (Q : Int) = (Q : Int) := by rw [IntKind.wrap_i64]; omega
    go_region_held3 (fun w' => w'.cell? ⟨gp, 0, none⟩ = some (.int .i64 65536) ∧ w'.cell? ⟨gp, 1, none⟩ = some (.int .i64 (Q : Nat)) ∧ Below w8.heap.size w8 w')
      (first
        | exact ⟨p0, p1, (Below.refl _ w8).drew⟩
        | (rcases ‹_ ∧ _ ∧ Below _ _ _› with ⟨g0, g1, g6⟩; exact ⟨cell_next (by assumption) g0, cell_next (by assumption) g1, below_next (by assumption) g6⟩))
      (first
        | (go_at_call 11; ((with_reducible refine (K.out _ (below_next (by rcases ‹_ ∧ _ ∧ Below _ _ _› with ⟨_, _, g6⟩; exact g6) B8.out)).mono ?_); rintro e w2 ⟨rfl, b2⟩)))
    rcases ‹_ ∧ _ ∧ Below _ _ _› with ⟨_, _, g6⟩
    have B9 := below_next g6 B8.out
    go_wp2_with fail
    go_ret
    exact ⟨rfl, B9⟩

  · obtain rfl : o = 0 := by omega
    rw [if_neg (by omega)] at f4
    go_upto_region 9 with fail
    clear n4 f4
    go_wp2_with (at_builtin; refine wpList_app rfl _ _ 22 rfl w.heap.size 37 i0 _ 3 40 Tryd.underlying22 hi hz0 hz1 hz2 rfl (by decide) (.slice (some ⟨g, 0, none⟩) 1 1) 1 [.string ⟨#[114]⟩, .string ⟨#[]⟩, .int .i64 (1 + (s : Int))] rfl (own_of_blk (HA4.out.old _) (by rw [HG.out]; exact Nat.le_refl _) rfl (by decide)) _ 1 [.string ⟨#[99]⟩, .string ⟨#[114]⟩, .int .i64 (1 + (s : Int))] rfl ⟨rfl, .inr ⟨_, 1, rfl, fun j u hu => by rw [Addr.add_lit, Nat.zero_add, Blk.cell (Blk.new _ _ _)]; simpa using hu⟩⟩ (by simp [Value.oneCell']) (by decide) (by decide) (by have := B4.out.size; simp; omega) ?_; intro v5 w5 hown5 hgrow5 _)
    have HR5 : Hid (AcRow w5 v5 (twoL s)) := rowG_of_own (l := twoL s) enc_len hown5
    have B5 : Hid (Below w.heap.size w w5) := (B4.out.alloc B4.out.size (.cells #[.string ⟨#[99]⟩, .string ⟨#[114]⟩, .int .i64 (1 + (s : Int))] 37)).grown hgrow5 (by have := B4.out.size; simp; omega) (fun q hq => by
      have : q = g := by simpa [Value.ownBlock] using hq.symm
      rw [this, HG.out]; exact Nat.le_refl _)
    obtain ⟨va, ca, rfl⟩ := own_slice hown5
    clear hown5 hgrow5 HA4 B4
    refine (N2.out _ _ B5.out HR5.out).mono ?_; rintro e w6 ⟨rn, rfl, hr, b6⟩
    have B6 := Lib.hid (below_next b6 B5.out)
    have HR6 := Lib.hid (HR5.out.kept b6)
    obtain ⟨gm, cm, hve, _, _, _, _, hcell⟩ := nown_parts hr (by decide)
    subst hve
    have n6 : w6.cell? ⟨gm, 1, none⟩ = some (.int .i64 65536) := hcell 1 (by decide)
    clear hr hcell b6 N2 HR5
    go_wp2_with fail
    obtain ⟨k1, j1⟩ := G2.out w6 ((0 : Nat) : Int) (c : Int)
    have B7 := Lib.hid (below_next k1 B6.out)
    have HR7 := Lib.hid (HR6.out.kept k1)
    have n7 := cell_next k1 n6
    refine (P2.out _ _ _ B7.out HR7.out j1).mono ?_; rintro e w8 ⟨rp, rfl, hr, b8⟩
    have B8 := Lib.hid (below_next b8 B7.out)
    have n8 := cell_next b8 n7
    obtain ⟨gp, cp, hve, _, _, _, _, hcell⟩ := nown_parts hr (by simp)
    subst hve
    have p0 : w8.cell? ⟨gp, 0, none⟩ = some (.int .i64 (if 0 < 0 + c then 65536 else 0)) := hcell 0 (by simp)
    have p1 : w8.cell? ⟨gp, 1, none⟩ = some (.int .i64 ((65536 * c / (0 + c) : Nat) : Int)) := hcell 1 (by simp)
    clear hr hcell b8 P2 HR6 HR7 n6 n7 k1 j1 G1 G2 RO
    by_cases hc0 : 0 < c
    · have ha : 0 < 0 + c := by omega
      rw [if_pos ha] at p0
      obtain ⟨P, hP⟩ : ∃ P, P = 65536 * c := ⟨_, rfl⟩
      obtain ⟨Q, hQ⟩ : ∃ Q, Q = 65536 * c / (0 + c) := ⟨_, rfl⟩
      have hQe : Q = P / c := by rw [hQ, hP, Nat.zero_add]
      rw [← hQ] at p1
      have hPi : (c : Int) * 65536 = (P : Int) := by omega
      have hPb : P ≤ 281474976710656 := by omega
      have hTb : c ≤ 8589934590 := by omega
      have hT0 : (c : Int) ≠ 0 := by omega
      have hT1 : ¬ (c : Int) = 0 := by omega
      have hT2 : ((c : Int) == 0) = false := by rw [beq_eq_false_iff_ne]; omega
      have hQi : (P : Int) / (c : Int) = (Q : Int) := by rw [hQe]; simp
      have hQb : Q ≤ 281474976710656 := by rw [hQe]; exact Nat.le_trans (Nat.div_le_self _ _) hPb
      have hTz : ¬ c = 0 := by omega
      clear hP hQ hQe
      go_upto_region 17 with fail
      clear n8
      have e1 : IntKind.i64.wrap (c : Int) = (c : Int) := by rw [IntKind.wrap_i64]; omega
      have e2 : IntKind.i64.wrap (P : Int) = (P : Int) := by rw [IntKind.wrap_i64]; omega
      have e3 : (P : Int).tdiv (c : Int) = (Q : Int) := by rw [Int.tdiv_eq_ediv_of_nonneg (by omega)]; exact hQi
      have e4 : IntKind.i64.wrap (Q : Int) = (Q : Int) := by rw [IntKind.wrap_i64]; omega
      go_region_held3 (fun w' => w'.cell? ⟨gp, 0, none⟩ = some (.int .i64 65536) ∧ w'.cell? ⟨gp, 1, none⟩ = some (.int .i64 (Q : Nat)) ∧ Below w8.heap.size w8 w')
        (first
          | exact ⟨p0, p1, (Below.refl _ w8).drew⟩
          | (rcases ‹_ ∧ _ ∧ Below _ _ _› with ⟨g0, g1, g6⟩; exact ⟨cell_next (by assumption) g0, cell_next (by assumption) g1, below_next (by assumption) g6⟩))
        (first
          | (go_at_call 11; ((with_reducible refine (K.out _ (below_next (by rcases ‹_ ∧ _ ∧ Below _ _ _› with ⟨_, _, g6⟩; exact g6) B8.out)).mono ?_); rintro e w2 ⟨rfl, b2⟩)))
      rcases ‹_ ∧ _ ∧ Below _ _ _› with ⟨_, _, g6⟩
      have B9 := below_next g6 B8.out
      go_wp2_with fail
      go_ret
      exact ⟨rfl, B9⟩

    · obtain rfl : c = 0 := by omega
      have p0' : w8.cell? ⟨gp, 0, none⟩ = some (.int .i64 0) := p0
      have p1' : w8.cell? ⟨gp, 1, none⟩ = some (.int .i64 0) := p1
      clear p0 p1
      go_wp2_with fail
      refine (K.out _ B8.out).mono ?_; rintro e w9 ⟨rfl, b9⟩
      have B9 := Lib.hid (below_next b9 B8.out)
      clear b9
      go_wp2_with fail
      go_ret
      exact ⟨rfl, B9.out⟩



set_option maxRecDepth 100000 in
theorem lifted (os : Os) (started : os.Started) (H : Type) (enc : TypeId × Value → H) :
    ReturnsInHanded {} Tryd.checked os 9 .any (fun w args => (Rows.shareOnlySpec.pre enc Tryd.prog Tryd.f9 Rows.shareOnlyRow.domain false w args ∧ laidMetH Tryd.prog laid11 w) ∧ sizedMet enc Tryd.prog Tryd.f9 (OpenSpec.ofChange Rows.shareOnlySpec) false w args) (Rows.shareOnlySpec.post enc Tryd.prog Tryd.f9 false true false false) := by
  refine laid_lift (C := Tryd.checked) (X := fun w _ => laidMetH Tryd.prog laid11 w) (fun _ _ _ hh h => h.of_heap hh) own started (by kernel_rfl) Tryd.func9
    (ChangeSpec.witness_shaped (enc := enc) (C := Tryd.checked) (os := os) (X := fun w _ => laidMetH Tryd.prog laid11 w) false (World.laidAll Tryd.prog os laid11) #[.int .u32 0, .int .u32 0, .int .u16 0] 8 (World.laidAll_os _ _ _)
      (World.shaped_of_ZipB (by kernel_rfl) (by kernel_rfl)) (by kernel_rfl) (by kernel_rfl) (by kernel_rfl)
      (by rw [MakeChecks.laidMetH_plain _ _ _ (by kernel_rfl)]; exact laidMet_laidAll _ (by kernel_rfl) (by kernel_rfl))) ?_
  intro W base args ds gs before hval0 hW hsz0 hL hS
  have hE := env11_of hL hS
  have hval : ∀ (j : Nat) t v, Tryd.f9.params[j]? = some t → args[j]? = some v → Value.okWide Tryd.prog W .any base t v := hval0
  have hW' := hW
  obtain ⟨p, q, hA0, hV, rfl, hfz, hnd⟩ := hW
  have hA : DataW.TrodAll enc Tryd.prog W 0 (fun _ => true) true Tryd.f9.params.toList args.toList ds p := hA0
  rw [Tryd.params9] at hA hval
  obtain ⟨v0, vs0, d0, ds0, p0, q0, hargs, rfl, rfl, h0, r0⟩ := trodAll_cons hA
  obtain ⟨v1, vs1, d1, ds1, p1, q1, rfl, rfl, rfl, h1, r1⟩ := trodAll_cons r0
  obtain ⟨v2, vs2, d2, ds2, p2, q2, rfl, rfl, rfl, h2, r2⟩ := trodAll_cons r1
  obtain ⟨rfl, rfl, rfl⟩ := trodAll_nil r2
  obtain rfl : args = #[v0, v1, v2] := by cases args; simp_all
  obtain ⟨own, rfl, rfl, rfl, w0⟩ := open_int Tryd.underlying41 (hval 0 41 v0 rfl rfl) h0
  obtain ⟨child, rfl, rfl, rfl, w1⟩ := open_int Tryd.underlying41 (hval 1 41 v1 rfl rfl) h1
  obtain ⟨shares, rfl, rfl, rfl, w2⟩ := open_int Tryd.underlying38 (hval 2 38 v2 rfl rfl) h2
  clear hA0 hval0
  refine (walk own child shares W hE w0 w1 w2).mono fun e W' ⟨he, hb⟩ => ?_
  subst he
  exact ⟨_, rfl, law_post (by kernel_rfl) (by kernel_rfl) rfl Tryd.underlying4 rfl hW' rfl hb⟩

theorem over : Rows.shareOnlyRow.holds Tryd.pinned (OpenSpec.ofChange Rows.shareOnlySpec) :=
  OpenClaim.holds_of_wide 9 Tryd.f9 rfl rfl rfl rfl rfl rfl rfl ⟨rfl, rfl, rfl, rfl, rfl⟩ rfl rfl rfl rfl rfl (by kernel_rfl) Tryd.func9 (by kernel_rfl)
    (of_decide_eq_true (by kernel_rfl)) (by unfold Func.isWrapper; first | (rw [if_pos (by decide +kernel)]; kernel_rfl) | (rw [if_neg (by decide +kernel)]; exact ⟨rfl, rfl⟩))
    (fun os started H enc _ => lifted os started H enc)

theorem proved : Rows.ShareOnlyCardSaid :=
  Claim7.holds_tied_plain_at .later [] _ true _ false over (fun _ h => by cases h) (by kernel_rfl) (fun _ h => by cases h) shareOnly_row_tie rfl ⟨rfl, rfl⟩ (by kernel_rfl) rfl
    (fun f fn hf hfn => by
      obtain rfl : f = 9 := Option.some.inj ((show Tryd.prog.funcNamed "ganger/gangerlaw11.ShareOnly" = some 9 by kernel_rfl).symm.trans hf) |>.symm
      obtain rfl : fn = Tryd.f9 := (Option.some.inj (Tryd.func9.symm.trans hfn)).symm
      exact ⟨by kernel_rfl, fun j t ht => by
        rw [Tryd.params9] at ht
        have hm : t ∈ [41, 41, 38] := by simpa using Array.mem_of_getElem? ht
        have hall : ([41, 41, 38].all fun u => !Tryd.prog.wantsStandIn u) = true := by kernel_rfl
        exact (show Tryd.prog.wantsStandIn t = false by simpa using List.all_eq_true.1 hall t hm)⟩)
    (by kernel_rfl)
#print axioms proved
end Go.Proofs.YtbnlmeegepgioaaDoor.shareOnly
