/-
  ProfileOne: two profiles that begin at one tick and tell the same where one of them changes are the same levels: so the law returns true for every input.
-/
import Derived.Test.YtnbgipegfnpobaaLvT
import Derived.Test.YtnbgipegfnpobaaLvS
import Derived.Test.YtnbgipegfnpobaaPrL
import Derived.Test.YtnbgipegfnpobaaRows
import Derived.Test.YtnbgipegfnpobaaArgs2
namespace Go.Proofs.Ytnbgipegfnpobaa.profileOne
open Go.ChangeShapes Go.WideShapes Go.ChangeAt Go.RowKit
set_option linter.unusedVariables false

theorem own : ownKnob Try.prog.godebug = none := by kernel_rfl

open Go Go.ChangeShapes Go.WideShapes Go.ChangeAt Go.RowKit Go.Lib
theorem long (a a' : Option Addr) (N c N' c' : Nat) (w : World) (h : 100 < N ∨ 100 < N') :
    Calls Try.prog 10 #[.slice a N c, .slice a' N' c'] w fun e w' => e = .returned (.bool true) ∧ Below w.heap.size w w' := by
  have HM := Lib.hid (many_yes a a' N c N' c' w h)
  have K : Hid (∀ w1, Calls Try.prog 12 #[] w1 fun e w' => e = .returned (.bool true) ∧ Below w1.heap.size w1 w') := known5_any
  clear h
  go_enter Try.func10, Try.ntmps10
  go_wp2_with fail
  refine HM.out.mono ?_; rintro e w1 ⟨rfl, hw⟩; subst hw
  go_wp2_with fail
  refine (K.out _).mono ?_; rintro e w2 ⟨rfl, b2⟩
  go_wp2_with fail
  go_ret
  exact ⟨rfl, b2⟩
theorem bool_of {s : Bool} {p : Prop} [Decidable p] (h : s = true ↔ p) : (s == decide p) = true := by
  rw [beq_iff_eq]
  cases s with
  | true => exact (decide_eq_true (h.1 rfl)).symm
  | false => exact (decide_eq_false fun hp => absurd (h.2 hp) (by simp)).symm

set_option maxRecDepth 100000 in
set_option maxHeartbeats 4000000 in
theorem none_ (a a' : Option Addr) (c c' : Nat) (xs ys : List Lv) (w : World) (hk : LRow w (.slice a xs.length c) xs) (hk' : LRow w (.slice a' ys.length c') ys) (h : xs.length ≤ 100) (h' : ys.length ≤ 100) (hno : ¬ (okP xs ∧ okP ys)) :
    Calls Try.prog 10 #[.slice a xs.length c, .slice a' ys.length c'] w fun e w' => e = .returned (.bool true) ∧ Below w.heap.size w w' := by
  have HM := Lib.hid (many_few a a' xs.length c ys.length c' w h h')
  have K : Hid (∀ w1, Calls Try.prog 12 #[] w1 fun e w' => e = .returned (.bool true) ∧ Below w1.heap.size w1 w') := known5_any
  have CA : Hid (Calls Try.prog 14 #[.slice a xs.length c] w fun e w' => e = .returned (.int .i64 (checkV xs)) ∧ Below w.heap.size w w') := check_any _ xs w (by omega) hk
  have CB : Hid (∀ w1, Below w.heap.size w w1 → Calls Try.prog 14 #[.slice a' ys.length c'] w1 fun e w' => e = .returned (.int .i64 (checkV ys)) ∧ Below w1.heap.size w1 w') := fun w1 hb => check_any _ ys w1 (by omega) (hk'.kept hb)
  clear hk hk'
  by_cases h1 : xs.length = 0
  · have t1 : ((xs.length : Int) == 0) = true := by simp [h1]
    clear h1 CA CB hno
    go_enter Try.func10, Try.ntmps10
    go_wp2_with fail
    refine HM.out.mono ?_; rintro e w0 ⟨rfl, hw⟩; subst hw
    go_wp2_with fail
    have B5 : Hid (Below w0.heap.size w0 w0) := Below.refl _ _
    refine (K.out _).mono ?_; rintro e wc ⟨rfl, bc⟩
    have BC := Lib.hid (below_next bc B5.out)
    clear bc B5
    go_wp2_with fail
    go_ret
    exact ⟨rfl, BC.out⟩
  · have t1 : ((xs.length : Int) == 0) = false := by rw [beq_eq_false_iff_ne]; omega
    by_cases h2 : ys.length = 0
    · have t2 : ((ys.length : Int) == 0) = true := by simp [h2]
      clear h1 h2 CA CB hno
      go_enter Try.func10, Try.ntmps10
      go_wp2_with fail
      refine HM.out.mono ?_; rintro e w0 ⟨rfl, hw⟩; subst hw
      go_wp2_with fail
      have B5 : Hid (Below w0.heap.size w0 w0) := Below.refl _ _
      refine (K.out _).mono ?_; rintro e wc ⟨rfl, bc⟩
      have BC := Lib.hid (below_next bc B5.out)
      clear bc B5
      go_wp2_with fail
      go_ret
      exact ⟨rfl, BC.out⟩
    · have t2 : ((ys.length : Int) == 0) = false := by rw [beq_eq_false_iff_ne]; omega
      clear h1 h2
      by_cases h3 : okP xs
      · rw [checkV_ok h3] at CA
        rw [checkV_no fun h4 => hno ⟨h3, h4⟩] at CB
        clear h3 hno
        go_enter Try.func10, Try.ntmps10
        go_wp2_with fail
        refine HM.out.mono ?_; rintro e w0 ⟨rfl, hw⟩; subst hw
        go_wp2_with fail
        refine CA.out.mono ?_; rintro e w1 ⟨rfl, b1⟩
        have B1 := Lib.hid b1
        clear b1 CA
        go_wp2_with fail
        refine (CB.out _ B1.out).mono ?_; rintro e w2 ⟨rfl, b2⟩
        have B5 := Lib.hid (below_next b2 B1.out)
        clear b2 CB B1
        go_wp2_with fail
        refine (K.out _).mono ?_; rintro e wc ⟨rfl, bc⟩
        have BC := Lib.hid (below_next bc B5.out)
        clear bc B5
        go_wp2_with fail
        go_ret
        exact ⟨rfl, BC.out⟩
      · rw [checkV_no h3] at CA
        clear h3 hno CB
        go_enter Try.func10, Try.ntmps10
        go_wp2_with fail
        refine HM.out.mono ?_; rintro e w0 ⟨rfl, hw⟩; subst hw
        go_wp2_with fail
        refine CA.out.mono ?_; rintro e w1 ⟨rfl, b1⟩
        have B5 := Lib.hid b1
        clear b1 CA
        go_wp2_with fail
        refine (K.out _).mono ?_; rintro e wc ⟨rfl, bc⟩
        have BC := Lib.hid (below_next bc B5.out)
        clear bc B5
        go_wp2_with fail
        go_ret
        exact ⟨rfl, BC.out⟩

set_option maxRecDepth 100000 in
set_option maxHeartbeats 4000000 in
theorem main (b off c b' off' c' : Nat) (xs ys : List Lv) (w : World) (hca : LCells w b off xs) (hcb : LCells w b' off' ys) (hk : LRow w (.slice (some ⟨b, off, none⟩) xs.length c) xs) (hk' : LRow w (.slice (some ⟨b', off', none⟩) ys.length c') ys) (h : xs.length ≤ 100) (h' : ys.length ≤ 100) (ho : okP xs) (ho' : okP ys) :
    Calls Try.prog 10 #[.slice (some ⟨b, off, none⟩) xs.length c, .slice (some ⟨b', off', none⟩) ys.length c'] w fun e w' => e = .returned (.bool true) ∧ Below w.heap.size w w' := by
  have HM := Lib.hid (many_few (some ⟨b, off, none⟩) (some ⟨b', off', none⟩) xs.length c ys.length c' w h h')
  have K : Hid (∀ w1, Calls Try.prog 12 #[] w1 fun e w' => e = .returned (.bool true) ∧ Below w1.heap.size w1 w') := known5_any
  have CA : Hid (Calls Try.prog 14 #[.slice (some ⟨b, off, none⟩) xs.length c] w fun e w' => e = .returned (.int .i64 (checkV xs)) ∧ Below w.heap.size w w') := check_any _ xs w (by omega) hk
  have CB : Hid (∀ w1, Below w.heap.size w w1 → Calls Try.prog 14 #[.slice (some ⟨b', off', none⟩) ys.length c'] w1 fun e w' => e = .returned (.int .i64 (checkV ys)) ∧ Below w1.heap.size w1 w') := fun w1 hb => check_any _ ys w1 (by omega) (hk'.kept hb)
  rw [checkV_ok ho] at CA
  rw [checkV_ok ho'] at CB
  have AA : Hid (∀ t w1, Below w.heap.size w w1 → Calls Try.prog 15 #[.slice (some ⟨b, off, none⟩) xs.length c, .int .i64 t] w1 fun e w' => e = .returned (.int .i64 (vA xs t)) ∧ Below w1.heap.size w1 w') := fun t w1 hb => by
    rw [← atV_ok ho]; exact at_any _ xs t w1 (by omega) (hk.kept hb)
  have AB : Hid (∀ t w1, Below w.heap.size w w1 → Calls Try.prog 15 #[.slice (some ⟨b', off', none⟩) ys.length c', .int .i64 t] w1 fun e w' => e = .returned (.int .i64 (vA ys t)) ∧ Below w1.heap.size w1 w') := fun t w1 hb => by
    rw [← atV_ok ho']; exact at_any _ ys t w1 (by omega) (hk'.kept hb)
  have SA : Hid (∀ w1, Below w.heap.size w w1 → Calls Try.prog 22 #[.slice (some ⟨b, off, none⟩) xs.length c, .slice (some ⟨b', off', none⟩) ys.length c'] w1 fun e w' => e = .returned (.bool (decide (xs = ys))) ∧ Below w1.heap.size w1 w') := fun w1 hb => same_any _ _ xs ys w1 (by omega) (by omega) (hk.kept hb) (hk'.kept hb)
  have ONE : Hid (((lv xs 0).1 = (lv ys 0).1 ∧ (∀ i, i < xs.length → vA ys (lv xs i).1 = (lv xs i).2) ∧ (∀ i, i < ys.length → vA xs (lv ys i).1 = (lv ys i).2)) ↔ xs = ys) := one_iff ho ho'
  have hlen : 0 < xs.length := List.length_pos_iff.2 ho.1
  have hleni : (0 : Int) < xs.length := by omega
  have hlen2 : 0 < ys.length := List.length_pos_iff.2 ho'.1
  have hleni2 : (0 : Int) < ys.length := by omega
  have t1 : ((xs.length : Int) == 0) = false := by rw [beq_eq_false_iff_ne]; omega
  have t2 : ((ys.length : Int) == 0) = false := by rw [beq_eq_false_iff_ne]; omega
  have HCA := Lib.hid hca
  have HCB := Lib.hid hcb
  clear hca hcb hk hk' ho ho'
  obtain ⟨same, hsame⟩ : ∃ same : Bool, ((lv xs 0).1 == (lv ys 0).1) = same := ⟨_, rfl⟩
  have HS0 : Hid (same = true ↔ (lv xs 0).1 = (lv ys 0).1) := by unfold Hid; rw [← hsame, beq_iff_eq]
  go_enter Try.func10, Try.ntmps10
  go_wp2_with fail
  refine HM.out.mono ?_; rintro e w0 ⟨rfl, hw⟩; subst hw
  go_wp2_with fail
  refine CA.out.mono ?_; rintro e w1 ⟨rfl, b1⟩
  have B1 := Lib.hid b1
  clear b1 CA
  go_wp2_with fail
  refine (CB.out _ B1.out).mono ?_; rintro e w2 ⟨rfl, b2⟩
  have B2 := Lib.hid (below_next b2 B1.out)
  clear b2 CB B1
  obtain ⟨c0, c1⟩ := HCA.out.at B2.out (k := 0) hlen
  obtain ⟨d0, d1⟩ := HCB.out.at B2.out (k := 0) hlen2
  simp only [Nat.zero_mul, Nat.add_zero] at c0 c1 d0 d1
  go_wp2_with fail
  go_region
  clear c0 c1 d0 d1 hsame
  go_wp2_with fail
  go_loopw [5, 6] (fun s i wr => ∃ (j : Nat) (sb : Bool), j ≤ xs.length ∧ i = .int .i64 j ∧ s = .bool sb ∧ Hid (sb = true ↔ ((lv xs 0).1 = (lv ys 0).1 ∧ ∀ q, q < j → vA ys (lv xs q).1 = (lv xs q).2)) ∧ Below w0.heap.size w0 wr) (fun _ i _ => xs.length - (RowKit.intOf i).toNat)
  case atStart => exact ⟨0, same, Nat.zero_le _, rfl, rfl, (by unfold Hid; rw [HS0.out]; exact ⟨fun h => ⟨h, fun q hq => absurd hq (Nat.not_lt_zero _)⟩, fun h => h.1⟩), B2.out.drew⟩
  case round =>
    obtain ⟨j, sb, hj, rfl, rfl, hs, hB⟩ := hrel
    have HB := Lib.hid hB
    have HS := Lib.hid hs.out
    clear hB hs
    by_cases hlt : j < xs.length
    · have hlti : (j : Int) < xs.length := by omega
      cases sb with
      | false =>
        have HS' : Hid (false = true ↔ ((lv xs 0).1 = (lv ys 0).1 ∧ ∀ q, q < j + 1 → vA ys (lv xs q).1 = (lv xs q).2)) := Iff.intro (fun h => nomatch h) (fun h => HS.out.2 ⟨h.1, fun q hq => h.2 q (Nat.lt_succ_of_lt hq)⟩)
        clear HS
        go_wp2_with fail
        go_region
        go_wp2_with fail
        go_roundw
        case rel => exact ⟨j + 1, _, hlt, by go_num, rfl, HS'.out, HB.out.drew⟩
        case measure => simp [RowKit.intOf]; omega
      | true =>
        obtain ⟨c0, c1⟩ := HCA.out.at HB.out (k := j) hlt
        obtain ⟨y, hy⟩ : ∃ y, y = lv xs j := ⟨_, rfl⟩
        rw [← hy] at c0 c1
        have HS' : Hid ((vA ys y.1 == y.2) = true ↔ ((lv xs 0).1 = (lv ys 0).1 ∧ ∀ q, q < j + 1 → vA ys (lv xs q).1 = (lv xs q).2)) := by
          unfold Hid
          rw [beq_iff_eq]
          have h0 := HS.out.1 rfl
          refine ⟨fun h => ⟨h0.1, fun q hq => ?_⟩, fun h => by have := h.2 j (Nat.lt_succ_self _); rwa [← hy] at this⟩
          rcases Nat.lt_or_ge q j with h1 | h1
          · exact h0.2 q h1
          · obtain rfl : q = j := by omega
            rw [← hy]; exact h
        clear HS hy
        obtain ⟨y1, y2⟩ := y
        dsimp only at c0 c1 HS'
        have AB' : Hid (∀ w1, Below w0.heap.size w0 w1 → Calls Try.prog 15 #[.slice (some ⟨b', off', none⟩) ys.length c', .int .i64 y1] w1 fun e w' => e = .returned (.int .i64 (vA ys y1)) ∧ Below w1.heap.size w1 w') := AB.out y1
        generalize vA ys y1 = vy at *
        go_wp2_with fail
        have c1d : wr.drew.cell? ⟨b, off + j * 2 + 1, none⟩ = some (.int .i64 y2) := c1
        have HBd : Below w0.heap.size w0 wr.drew := HB.out.drew
        go_region_held3 (fun w' => w'.cell? ⟨b, off + j * 2, none⟩ = some (.int .i64 y1) ∧ w'.cell? ⟨b, off + j * 2 + 1, none⟩ = some (.int .i64 y2) ∧ Below w0.heap.size w0 w')
          (first
            | exact ⟨c0, c1, HBd⟩
            | (rcases ‹_ ∧ _ ∧ Below _ _ _› with ⟨g0, g1, g2⟩; exact ⟨cell_next (by assumption) g0, cell_next (by assumption) g1, below_next (by assumption) g2⟩))
          (first
            | (go_at_call 15; ((with_reducible refine (AB'.out _ (by first | exact HBd | (rcases ‹_ ∧ _ ∧ Below _ _ _› with ⟨_, _, g2⟩; exact g2))).mono ?_); rintro e w4 ⟨rfl, b4⟩)))
        all_goals
          rcases ‹_ ∧ _ ∧ Below _ _ _› with ⟨_, _, g6⟩
          go_wp2_with fail
          go_roundw
          case rel => exact ⟨j + 1, _, hlt, by go_num, rfl, HS'.out, g6⟩
          case measure => simp [RowKit.intOf]; omega
    · obtain rfl : j = xs.length := by omega
      have hlt' : decide ((xs.length : Int) < xs.length) = false := decide_eq_false (by omega)
      go_wp2_with fail
      go_loopw [5, 7] (fun s i wr => ∃ (j : Nat) (sc : Bool), j ≤ ys.length ∧ i = .int .i64 j ∧ s = .bool sc ∧ Hid (sc = true ↔ (sb = true ∧ ∀ q, q < j → vA xs (lv ys q).1 = (lv ys q).2)) ∧ Below w0.heap.size w0 wr) (fun _ i _ => ys.length - (RowKit.intOf i).toNat)
      case atStart => exact ⟨0, sb, Nat.zero_le _, rfl, rfl, ⟨fun h => ⟨h, fun q hq => absurd hq (Nat.not_lt_zero _)⟩, fun h => h.1⟩, HB.out⟩
      case round =>
        obtain ⟨j, sc, hj, rfl, rfl, hs, hB⟩ := hrel
        have HB3 := Lib.hid hB
        have HS3 := Lib.hid hs.out
        clear hB hs
        by_cases hlt : j < ys.length
        · have hlti : (j : Int) < ys.length := by omega
          cases sc with
          | false =>
            have HS' : Hid (false = true ↔ (sb = true ∧ ∀ q, q < j + 1 → vA xs (lv ys q).1 = (lv ys q).2)) := Iff.intro (fun h => nomatch h) (fun h => HS3.out.2 ⟨h.1, fun q hq => h.2 q (Nat.lt_succ_of_lt hq)⟩)
            clear HS3
            go_wp2_with fail
            go_region
            go_wp2_with fail
            go_roundw
            case rel => exact ⟨j + 1, _, hlt, by go_num, rfl, HS'.out, HB3.out.drew⟩
            case measure => simp [RowKit.intOf]; omega
          | true =>
            obtain ⟨c0, c1⟩ := HCB.out.at HB3.out (k := j) hlt
            obtain ⟨y, hy⟩ : ∃ y, y = lv ys j := ⟨_, rfl⟩
            rw [← hy] at c0 c1
            have HS' : Hid ((vA xs y.1 == y.2) = true ↔ (sb = true ∧ ∀ q, q < j + 1 → vA xs (lv ys q).1 = (lv ys q).2)) := by
              unfold Hid
              rw [beq_iff_eq]
              have h0 := HS3.out.1 rfl
              refine ⟨fun h => ⟨h0.1, fun q hq => ?_⟩, fun h => by have := h.2 j (Nat.lt_succ_self _); rwa [← hy] at this⟩
              rcases Nat.lt_or_ge q j with h1 | h1
              · exact h0.2 q h1
              · obtain rfl : q = j := by omega
                rw [← hy]; exact h
            clear HS3 hy
            obtain ⟨y1, y2⟩ := y
            dsimp only at c0 c1 HS'
            have AA' : Hid (∀ w1, Below w0.heap.size w0 w1 → Calls Try.prog 15 #[.slice (some ⟨b, off, none⟩) xs.length c, .int .i64 y1] w1 fun e w' => e = .returned (.int .i64 (vA xs y1)) ∧ Below w1.heap.size w1 w') := AA.out y1
            generalize vA xs y1 = vy at *
            go_wp2_with fail
            have c1d : wr.drew.cell? ⟨b', off' + j * 2 + 1, none⟩ = some (.int .i64 y2) := c1
            have HBd : Below w0.heap.size w0 wr.drew := HB3.out.drew
            go_region_held3 (fun w' => w'.cell? ⟨b', off' + j * 2, none⟩ = some (.int .i64 y1) ∧ w'.cell? ⟨b', off' + j * 2 + 1, none⟩ = some (.int .i64 y2) ∧ Below w0.heap.size w0 w')
              (first
                | exact ⟨c0, c1, HBd⟩
                | (rcases ‹_ ∧ _ ∧ Below _ _ _› with ⟨g0, g1, g2⟩; exact ⟨cell_next (by assumption) g0, cell_next (by assumption) g1, below_next (by assumption) g2⟩))
              (first
                | (go_at_call 15; ((with_reducible refine (AA'.out _ (by first | exact HBd | (rcases ‹_ ∧ _ ∧ Below _ _ _› with ⟨_, _, g2⟩; exact g2))).mono ?_); rintro e w4 ⟨rfl, b4⟩)))
            all_goals
              rcases ‹_ ∧ _ ∧ Below _ _ _› with ⟨_, _, g6⟩
              go_wp2_with fail
              go_roundw
              case rel => exact ⟨j + 1, _, hlt, by go_num, rfl, HS'.out, g6⟩
              case measure => simp [RowKit.intOf]; omega
        · obtain rfl : j = ys.length := by omega
          have hlt' : decide ((ys.length : Int) < ys.length) = false := decide_eq_false (by omega)
          have hfin : (sc == decide (xs = ys)) = true := bool_of (by
            rw [HS3.out, HS.out, ← ONE.out]
            exact ⟨fun h => ⟨h.1.1, h.1.2, h.2⟩, fun h => ⟨⟨h.1, h.2.1⟩, h.2.2⟩⟩)
          clear HS HS3 ONE
          generalize decide (xs = ys) = dd at *
          go_wp2_with fail
          refine (SA.out _ HB3.out).mono ?_; rintro e w5 ⟨rfl, b5⟩
          have B5 := Lib.hid (below_next b5 HB3.out)
          clear b5
          go_wp2_with fail
          refine (K.out _).mono ?_; rintro e wc ⟨rfl, bc⟩
          have BC := Lib.hid (below_next bc B5.out)
          clear bc B5
          go_wp2_with fail
          go_ret
          exact ⟨rfl, BC.out⟩

theorem walk (v : Value) (xs : List Lv) (v' : Value) (ys : List Lv) (w : World) (w0 : LArg w v xs) (w1 : LArg w v' ys) :
    Calls Try.prog 10 #[v, v'] w fun e w' => e = .returned (.bool true) ∧ Below w.heap.size w w' := by
  obtain ⟨hk, ⟨a, c, rfl⟩, hm, hok⟩ := w0
  obtain ⟨hk', ⟨a', c', rfl⟩, hm', hok'⟩ := w1
  by_cases h : 100 < xs.length ∨ 100 < ys.length
  · exact long a a' xs.length c ys.length c' w h
  · by_cases ho : okP xs ∧ okP ys
    · have hk0 := hk
      have hk0' := hk'
      rcases hk with ⟨rfl, _⟩ | ⟨b, off, c2, hav, _, r1, r2, hca⟩
      · exact absurd rfl ho.1.1
      rcases hk' with ⟨rfl, _⟩ | ⟨b', off', c2', hav', _, r1', r2', hcb⟩
      · exact absurd rfl ho.2.1
      obtain ⟨rfl, _, rfl⟩ : a = some ⟨b, off, none⟩ ∧ True ∧ c = c2 := by simpa using hav
      obtain ⟨rfl, _, rfl⟩ : a' = some ⟨b', off', none⟩ ∧ True ∧ c' = c2' := by simpa using hav'
      exact main b off c b' off' c' xs ys w hca hcb hk0 hk0' (by omega) (by omega) ho.1 ho.2
    · exact none_ a a' c c' xs ys w hk hk' (by omega) (by omega) ho


set_option maxRecDepth 100000 in
theorem lifted (os : Os) (started : os.Started) (H : Type) (enc : TypeId × Value → H) :
    ReturnsInHanded {} Try.checked os 10 .any (Rows.profileOneSpec.pre6 enc Try.prog Try.f10 Rows.profileOneRow.domain false) (Rows.profileOneSpec.post enc Try.prog Try.f10 false true false false) := by
  refine returnsInHanded_of_change (C := Try.checked) own started (by kernel_rfl) Try.func10
    (ChangeSpec.witness6 (enc := enc) (C := Try.checked) false ⟨#[], #[.slice none 0 0, .slice none 0 0], []⟩ 8 (by kernel_rfl) (by kernel_rfl) (by kernel_rfl) (by kernel_rfl)) ?_
  intro W base args ds gs before hval0 hW _ _
  have hval : ∀ (j : Nat) t v, Try.f10.params[j]? = some t → args[j]? = some v → Value.okWide Try.prog W .any base t v := hval0
  have hW' := hW
  obtain ⟨p, q, hA0, hV, rfl, hfz, hnd⟩ := hW
  have hA : DataW.TrodAll enc Try.prog W 0 (fun _ => true) true Try.f10.params.toList args.toList ds p := hA0
  rw [Try.params10] at hA hval
  obtain ⟨v0, vs0, d0, ds0, p0, q0, hargs, rfl, rfl, h0, r0⟩ := trodAll_cons hA
  obtain ⟨v1, vs1, d1, ds1, p1, q1, rfl, rfl, rfl, h1, r1⟩ := trodAll_cons r0
  obtain ⟨rfl, rfl, rfl⟩ := trodAll_nil r1
  obtain rfl : args = #[v0, v1] := by cases args; simp_all
  obtain ⟨a, w0⟩ := open_levels_arg h0 (okWide_slice Try.underlying22 (hval 0 22 v0 rfl rfl))
  obtain ⟨b, w1⟩ := open_levels_arg h1 (okWide_slice Try.underlying22 (hval 1 22 v1 rfl rfl))
  clear hA0 hval0
  refine (walk v0 a v1 b W w0 w1).mono fun e W' ⟨he, hb⟩ => ?_
  subst he
  exact ⟨_, rfl, law_post (by kernel_rfl) (by kernel_rfl) rfl Try.underlying4 rfl hW' rfl hb⟩

theorem over : Rows.profileOneRow.holds Try.pinned (OpenSpec.ofChange Rows.profileOneSpec) :=
  OpenClaim.holds_of_wide 10 Try.f10 rfl rfl rfl rfl rfl rfl rfl ⟨rfl, rfl, rfl, rfl, rfl⟩ rfl rfl rfl rfl rfl (by kernel_rfl) Try.func10 (by kernel_rfl)
    (of_decide_eq_true (by kernel_rfl)) (by unfold Func.isWrapper; first | (rw [if_pos (by decide +kernel)]; kernel_rfl) | (rw [if_neg (by decide +kernel)]; exact ⟨rfl, rfl⟩))
    (fun os started H enc _ => lifted os started H enc)

theorem proved : Rows.ProfileOneSaid :=
  over
#print axioms proved
end Go.Proofs.Ytnbgipegfnpobaa.profileOne
