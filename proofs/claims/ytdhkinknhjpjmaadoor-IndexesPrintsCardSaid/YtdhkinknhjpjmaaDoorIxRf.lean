/-
  gangerref06.Print: at any indexes.
-/
import Derived.Test.YtdhkinknhjpjmaaDoorIxArr
import Derived.Test.YtdhkinknhjpjmaaDoorIxRun
namespace Go.Proofs.YtdhkinknhjpjmaaDoor
open Go Go.RowKit Go.Lib
set_option linter.unusedVariables false

/-! The text, element by element: what stands ahead of it, p. -/
def fstR (p : Option Nat) (x : Nat) : Bool := match p with | none => true | some y => decide (y + 1 ≠ x)
def lstR (x : Nat) : List Nat → Bool | [] => true | z :: _ => decide (z ≠ x + 1)
def comR (p : Option Nat) : Bs := match p with | none => [] | some _ => [44]
def oneR (p : Option Nat) (x : Nat) (r : List Nat) : Bs := if fstR p x = true then comR p ++ D x else if lstR x r = true then 45 :: D x else []
def goR : Option Nat → List Nat → Bs
  | _, [] => []
  | p, x :: r => oneR p x r ++ goR (some x) r
theorem goR_runs : ∀ (r : List Nat) (x : Nat), ∃ b t, runsOf (x :: r) = (x, b) :: t ∧ x ≤ b ∧ (∀ p, fstR p x = true → goR p (x :: r) = comR p ++ (runT (x, b) ++ restT t)) ∧ (∀ p, fstR p x = false → goR p (x :: r) = 45 :: D b ++ restT t)
  | [], x => by
    refine ⟨x, [], rfl, Nat.le_refl _, fun p hp => ?_, fun p hp => ?_⟩
    · show oneR p x [] ++ [] = _
      unfold oneR; rw [if_pos hp]; simp [runT, restT]
    · show oneR p x [] ++ [] = _
      unfold oneR; rw [if_neg (by rw [hp]; decide), if_pos (show lstR x [] = true from rfl)]; simp [restT]
  | y :: r, x => by
    obtain ⟨b, t, e, hle, hA, hB⟩ := goR_runs r y
    by_cases hy : y = x + 1
    · have hf : fstR (some x) y = false := by unfold fstR; simp [hy]
      have hl : lstR x (y :: r) = false := by unfold lstR; simp [hy]
      refine ⟨b, t, by rw [runs_cons e, if_pos hy], by omega, fun p hp => ?_, fun p hp => ?_⟩
      · show oneR p x (y :: r) ++ goR (some x) (y :: r) = _
        rw [hB _ hf]; unfold oneR; rw [if_pos hp]
        unfold runT; rw [if_neg (by show ¬ x = b; omega)]; simp
      · show oneR p x (y :: r) ++ goR (some x) (y :: r) = _
        rw [hB _ hf]; unfold oneR; rw [if_neg (by rw [hp]; decide), if_neg (by rw [hl]; decide)]; simp
    · have hf : fstR (some x) y = true := by unfold fstR; rw [decide_eq_true_eq]; omega
      have hl : lstR x (y :: r) = true := by unfold lstR; rw [decide_eq_true_eq]; exact hy
      refine ⟨x, (y, b) :: t, by rw [runs_cons e, if_neg hy], Nat.le_refl _, fun p hp => ?_, fun p hp => ?_⟩
      · show oneR p x (y :: r) ++ goR (some x) (y :: r) = _
        rw [hA _ hf]; unfold oneR; rw [if_pos hp]; simp [runT, restT, comR]
      · show oneR p x (y :: r) ++ goR (some x) (y :: r) = _
        rw [hA _ hf]; unfold oneR; rw [if_neg (by rw [hp]; decide), if_pos hl]; simp [restT, comR]
theorem goR_all (l : List Nat) : goR none l = joinT (runsOf l) := by
  cases l with
  | nil => rfl
  | cons x r =>
    obtain ⟨b, t, e, _, hA, _⟩ := goR_runs r x
    rw [e, hA none rfl]; rfl
/-- What stands ahead of place i. -/
def preR (l : List Nat) (i : Nat) : Option Nat := if i = 0 then none else some (l.getD (i - 1) 0)
def RfSt (l : List Nat) (i : Nat) (out : Bs) : Prop := out ++ goR (preR l i) (l.drop i) = joinT (runsOf l)
theorem RfSt.start (l : List Nat) : RfSt l 0 [] := by unfold RfSt; rw [show preR l 0 = none from rfl, List.drop_zero, goR_all]; rfl
theorem getD_of {l : List Nat} {i : Nat} (h : i < l.length) : l.getD i 0 = l[i] := by rw [List.getD_eq_getElem?_getD, List.getElem?_eq_getElem h]; rfl
theorem RfSt.on {l : List Nat} {i : Nat} {out : Bs} (h : RfSt l i out) (hi : i < l.length) : RfSt l (i + 1) (out ++ oneR (preR l i) (l.getD i 0) (l.drop (i + 1))) := by
  unfold RfSt at *
  rw [List.drop_eq_getElem_cons hi, goR, ← getD_of hi] at h
  rw [show preR l (i + 1) = some (l.getD i 0) from by unfold preR; rw [if_neg (by omega), Nat.add_sub_cancel], List.append_assoc]
  exact h
theorem RfSt.done {l : List Nat} {out : Bs} (h : RfSt l l.length out) : out = joinT (runsOf l) := by
  unfold RfSt at h
  rw [List.drop_length, goR, List.append_nil] at h
  exact h
theorem join_len {l : List Nat} (h : ∀ x ∈ l, x ≤ 1000) : (joinT (runsOf l)).length ≤ 5 * l.length := by
  refine Nat.le_trans ?_ (rest_len l h).1
  cases runsOf l with
  | nil => exact Nat.le_refl _
  | cons p t => simp [joinT, restT]
theorem RfSt.len {l : List Nat} {i : Nat} {out : Bs} (hle : ∀ x ∈ l, x ≤ 1000) (h : RfSt l i out) : out.length ≤ 5 * l.length := by
  have := congrArg List.length h
  rw [List.length_append] at this
  have := join_len hle
  omega
theorem fst_zero (l : List Nat) (x : Nat) : fstR (preR l 0) x = true := rfl
theorem fst_on (l : List Nat) {i : Nat} (hi : 0 < i) (x : Nat) : fstR (preR l i) x = decide (l.getD (i - 1) 0 + 1 ≠ x) := by unfold preR; rw [if_neg (by omega)]; rfl
theorem lst_end (l : List Nat) (x : Nat) : lstR x (l.drop l.length) = true := by rw [List.drop_length]; rfl
theorem lst_on {l : List Nat} {i : Nat} (hi : i < l.length) (x : Nat) : lstR x (l.drop i) = decide (l.getD i 0 ≠ x + 1) := by rw [List.drop_eq_getElem_cons hi, getD_of hi]; rfl
theorem RfSt.str {l : List Nat} {i : Nat} {a b : ByteArray} {x : Bs} (h : RfSt l i (a.data.toList ++ x)) (e : b.data.toList = a.data.toList ++ x) : RfSt l i b.data.toList := by rw [e]; exact h
set_option maxRecDepth 100000 in
set_option maxHeartbeats 8000000 in
theorem refPrint_ok (b off c : Nat) (l : List Nat) (m : Nat) (w : World) (hn : l.length ≤ 1048576) (hok : OkN l m) (hcl : l.length ≤ c) (hcm : c ≤ maxLen) (hbw : b < w.heap.size) (hc : ∀ j, j < l.length → w.cell? ⟨b, off + j, none⟩ = some (.int .i64 ((l.getD j 0 : Nat) : Int))) :
    Calls Tryd.prog 16 #[arrV (.slice (some ⟨b, off, none⟩) l.length c) m] w fun e w' => e = .returned (.tuple #[.string ⟨(printT l m).toArray⟩, .int .i64 0]) ∧ Below w.heap.size w w' := by
  have h0 : 0 < l.length := List.length_pos_iff.2 hok.ne
  have hrow : NRow w (.slice (some ⟨b, off, none⟩) l.length c) (ofN l) := .inr ⟨b, off, c, by rw [ofN_len], by rw [ofN_len]; exact h0, by rw [ofN_len]; exact hcl, hcm, hbw, fun j hj => by rw [ofN_get]; exact hc j (by rw [ofN_len] at hj; exact hj)⟩
  have hb := Lib.hid (Blk.new w #[.slice (some ⟨b, off, none⟩) l.length c, .int .i64 m] 25)
  have HW := Lib.hid ((Below.refl w.heap.size w).alloc (Nat.le_refl _) (.cells #[.slice (some ⟨b, off, none⟩) l.length c, .int .i64 m] 25))
  have HCK := Lib.hid (refCk_any _ (ofN l) m _ (by rw [ofN_len]; exact hn) (hrow.kept HW.out))
  rw [checkZ_ok (okZ_of hok)] at HCK
  have HC : Hid (∀ j, j < l.length → (w.alloc (.cells #[.slice (some ⟨b, off, none⟩) l.length c, .int .i64 m] 25)).cell? ⟨b, off + j, none⟩ = some (.int .i64 ((l.getD j 0 : Nat) : Int))) := fun j hj => cell_next HW.out (hc j hj)
  obtain ⟨g, hg⟩ : ∃ g, g = w.heap.size := ⟨_, rfl⟩
  rw [← hg] at hb
  have c0 := hb.out.cell 0
  have c1 := hb.out.cell 1
  simp only [List.getElem?_toArray, List.getElem?_cons_zero, List.getElem?_cons_succ] at c0 c1
  have hle := hok.le
  have hm : m ≤ 1000 := hok.most
  have HLE : Hid (∀ j, l.getD j 0 ≤ 1000) := getD_le hle
  have HLEN : Hid (∀ i (T : ByteArray), RfSt l i T.data.toList → T.size ≤ 5242880) := fun i T h => by
    have h' : RfSt l i T.data.toList := h
    have := h'.len hle
    have e : T.size = T.data.toList.length := by simp
    omega
  have HFIN : Hid (∀ T : ByteArray, RfSt l l.length T.data.toList → T.data.toList = joinT (runsOf l)) := fun T h => h.done
  have DG : Hid (∀ (x : Nat) w, x ≤ 1000 → Calls Tryd.prog 19 #[.int .i64 x] w fun e w' => e = .returned (.string (digS x)) ∧ Below w.heap.size w w') := fun x w hx => digits_any x w (by omega)
  have z1 : (⟨#[44]⟩ : ByteArray).size = 1 := rfl
  have z2 : (⟨#[45]⟩ : ByteArray).size = 1 := rfl
  have z3 : (⟨#[37]⟩ : ByteArray).size = 1 := rfl
  clear hc hrow hle hok hbw hcl hcm
  go_enter Tryd.func16, Tryd.ntmps16
  go_upto_region 1 with fail
  rw [← hg]
  generalize w.alloc (.cells #[.slice (some ⟨b, off, none⟩) l.length c, .int .i64 m] 25) = W0 at *
  clear hg
  go_wp2_with fail
  refine HCK.out.mono ?_; rintro e W ⟨rfl, b1⟩
  have HK0 := Lib.hid (cell_next b1 c0)
  have HK1 := Lib.hid (cell_next b1 c1)
  have HC1 : Hid (∀ j, j < l.length → W.cell? ⟨b, off + j, none⟩ = some (.int .i64 ((l.getD j 0 : Nat) : Int))) := fun j hj => cell_next b1 (HC.out j hj)
  have HW1 := Lib.hid (below_next b1 HW.out)
  clear b1 HW HC hb c0 c1 HCK
  go_wp2_with fail
  go_loopw [5, 6] (fun out i wr => ∃ (k : Nat) (T : ByteArray), k ≤ l.length ∧ i = .int .i64 k ∧ out = .string T ∧ Hid (RfSt l k T.data.toList) ∧ Below W.heap.size W wr) (fun _ i _ => l.length - (RowKit.intOf i).toNat)
  case atStart => exact ⟨0, ⟨#[]⟩, Nat.zero_le _, rfl, rfl, RfSt.start l, Below.refl _ _⟩
  case round =>
    obtain ⟨k, T, hk, rfl, rfl, hst, hB⟩ := hrel
    have HB := Lib.hid hB
    have c0 := cell_next hB HK0.out
    have c1 := cell_next hB HK1.out
    have hTs := HLEN.out k T hst.out
    by_cases hlt : k < l.length
    · have hlt' : decide (k < l.length) = true := decide_eq_true hlt
      have hlt2 : (k : Int) < l.length := by omega
      have cx := cell_next hB (HC1.out k hlt)
      have hx := HLE.out k
      have hon := Lib.hid (hst.out.on hlt)
      obtain ⟨x, hxx⟩ : ∃ x, x = l.getD k 0 := ⟨_, rfl⟩
      rw [← hxx] at cx hx hon
      obtain ⟨y, hyy⟩ : ∃ y, y = l.getD (k - 1) 0 := ⟨_, rfl⟩
      obtain ⟨z, hzz⟩ : ∃ z, z = l.getD (k + 1) 0 := ⟨_, rfl⟩
      have hy : y ≤ 1000 := by rw [hyy]; exact HLE.out _
      have hz : z ≤ 1000 := by rw [hzz]; exact HLE.out _
      have HY : Hid (0 < k → wr.cell? ⟨b, off + (k - 1), none⟩ = some (.int .i64 (y : Int)) ∧ fstR (preR l k) x = decide (y + 1 ≠ x)) := fun h => ⟨by rw [hyy]; exact cell_next hB (HC1.out (k - 1) (by omega)), by rw [fst_on l h, hyy]⟩
      have HY0 : Hid (k = 0 → fstR (preR l k) x = true) := fun h => by rw [h]; rfl
      have HZ : Hid (k + 1 < l.length → wr.cell? ⟨b, off + (k + 1), none⟩ = some (.int .i64 (z : Int)) ∧ lstR x (l.drop (k + 1)) = decide (z ≠ x + 1)) := fun h => ⟨by rw [hzz]; exact cell_next hB (HC1.out (k + 1) h), by rw [lst_on h, hzz]⟩
      have HZ0 : Hid (k + 1 = l.length → lstR x (l.drop (k + 1)) = true) := fun h => by rw [h]; exact lst_end l x
      have HD := Lib.hid (fun w => DG.out x w hx)
      have hds := dig4 (n := x) (by omega)
      obtain ⟨Fb, hF⟩ : ∃ F, F = fstR (preR l k) x := ⟨_, rfl⟩
      obtain ⟨Gb, hG⟩ : ∃ G, G = lstR x (l.drop (k + 1)) := ⟨_, rfl⟩
      have hone : Hid (oneR (preR l k) x (l.drop (k + 1)) = if Fb = true then comR (preR l k) ++ D x else if Gb = true then 45 :: D x else []) := by rw [hF, hG]; rfl
      have hcom : Hid (comR (preR l k) = if k = 0 then [] else [44]) := by
        unfold preR comR
        by_cases h : k = 0
        · rw [if_pos h, if_pos h]; rfl
        · rw [if_neg h, if_neg h]; rfl
      rw [hone.out, hcom.out] at hon
      rw [← hF] at HY HY0
      rw [← hG] at HZ HZ0
      clear hB hst hxx hyy hzz hF hG hone hcom HFIN
      have N1 : Hid (IntKind.i64.wrap ((x : Int) - 1) = (x : Int) - 1) := by unfold Hid; rw [IntKind.wrap_i64]; omega
      have N2 : Hid (IntKind.i64.wrap ((x : Int) + 1) = (x : Int) + 1) := by unfold Hid; rw [IntKind.wrap_i64]; omega
      have N3 : Hid (IntKind.i64.wrap ((k : Int) + 1) = (k : Int) + 1) := by unfold Hid; rw [IntKind.wrap_i64]; omega
      go_upto_region 8 with fail
      go_cut [7] (fun fv wx => fv = .bool Fb ∧ ∃ wq, wq = wx ∧ Below wr.heap.size wr wq)
      case first =>
        by_cases hk0 : k = 0
        · obtain rfl := HY0.out hk0
          have e0 : ((k : Int) == 0) = true := by rw [beq_iff_eq]; omega
          clear hk0 HY HZ HZ0 HY0
          go_region
          go_wp2_with fail
          go_meet
          case rel => exact ⟨rfl, _, rfl, below_drewN (Below.refl _ _) _⟩
        · obtain ⟨cy, hFy⟩ := HY.out (by omega)
          have e0 : ((k : Int) == 0) = false := by rw [beq_eq_false_iff_ne]; omega
          obtain ⟨t, ht⟩ : ∃ t, t = k - 1 := ⟨_, rfl⟩
          have Et : Hid (IntKind.i64.wrap ((k : Int) - 1) = (t : Int)) := by unfold Hid; rw [IntKind.wrap_i64]; omega
          have tl : (t : Int) < l.length := by omega
          rw [← ht] at cy
          by_cases q1 : y + 1 ≠ x
          · have v1 : ((y : Int) != (x : Int) - 1) = true := by rw [bne_iff_ne]; omega
            obtain rfl : Fb = true := by rw [hFy, decide_eq_true_eq]; exact q1
            clear hk0 HY HZ HZ0 HY0 hFy q1 ht
            have et := Et.out
            have n1 := N1.out
            go_region
            clear et n1
            go_wp2_with fail
            go_meet
            case rel => exact ⟨rfl, _, rfl, below_drewN (Below.refl _ _) _⟩
          · have v1 : ((y : Int) != (x : Int) - 1) = false := by rw [bne_eq_false_iff_eq]; omega
            obtain rfl : Fb = false := by rw [hFy, decide_eq_false_iff_not]; exact q1
            clear hk0 HY HZ HZ0 HY0 hFy q1 ht
            have et := Et.out
            have n1 := N1.out
            go_region
            clear et n1
            go_wp2_with fail
            go_meet
            case rel => exact ⟨rfl, _, rfl, below_drewN (Below.refl _ _) _⟩
      case rest =>
        obtain ⟨rfl, wp, hwp, hb2⟩ := hcut
        subst hwp
        have B2 := Lib.hid hb2
        have c0 := cell_next hb2 c0
        have cx := cell_next hb2 cx
        have HZ : Hid (k + 1 < l.length → wp.cell? ⟨b, off + (k + 1), none⟩ = some (.int .i64 (z : Int)) ∧ Gb = decide (z ≠ x + 1)) := fun h => ⟨cell_next hb2 (HZ.out h).1, (HZ.out h).2⟩
        clear hb2 HY HY0
        go_upto_region 9 with fail
        go_cut [8] (fun fv wx => fv = .bool Gb ∧ ∃ wq, wq = wx ∧ Below wp.heap.size wp wq)
        case first =>
          by_cases hk0 : k + 1 = l.length
          · obtain rfl := HZ0.out hk0
            have e0 : ((k : Int) + 1 == l.length) = true := by rw [beq_iff_eq]; omega
            clear hk0 HZ HZ0
            have n3 := N3.out
            go_region
            clear n3
            go_wp2_with fail
            go_meet
            case rel => exact ⟨rfl, _, rfl, below_drewN (Below.refl _ _) _⟩
          · obtain ⟨cz, hGz⟩ := HZ.out (by omega)
            have e0 : ((k : Int) + 1 == l.length) = false := by rw [beq_eq_false_iff_ne]; omega
            have tl : (k : Int) + 1 < l.length := by omega
            have tn : ((k : Int) + 1).toNat = k + 1 := by omega
            by_cases q1 : z ≠ x + 1
            · have v1 : ((z : Int) != (x : Int) + 1) = true := by rw [bne_iff_ne]; omega
              obtain rfl : Gb = true := by rw [hGz, decide_eq_true_eq]; exact q1
              clear hk0 HZ HZ0 hGz q1
              have n3 := N3.out
              have n2 := N2.out
              go_region
              clear n3 n2
              go_wp2_with fail
              go_meet
              case rel => exact ⟨rfl, _, rfl, below_drewN (Below.refl _ _) _⟩
            · have v1 : ((z : Int) != (x : Int) + 1) = false := by rw [bne_eq_false_iff_eq]; omega
              obtain rfl : Gb = false := by rw [hGz, decide_eq_false_iff_not]; exact q1
              clear hk0 HZ HZ0 hGz q1
              have n3 := N3.out
              have n2 := N2.out
              go_region
              clear n3 n2
              go_wp2_with fail
              go_meet
              case rel => exact ⟨rfl, _, rfl, below_drewN (Below.refl _ _) _⟩
        case rest =>
          obtain ⟨rfl, ws, hws, hb3⟩ := hcut
          subst hws
          have B3 := Lib.hid (below_next hb3 B2.out)
          have c0 := cell_next hb3 c0
          have cx := cell_next hb3 cx
          clear hb3 HZ HZ0 B2 N1 N2 N3
          cases Fb
          · cases Gb
            · have hon1 : Hid (RfSt l (k + 1) T.data.toList) := by have := hon.out; rw [if_neg (by decide), if_neg (by decide), List.append_nil] at this; exact this
              have B4 := Lib.hid (below_next B3.out HB.out)
              clear hon HD cx B3 HB
              go_wp2_with fail
              go_roundw
              case rel => exact ⟨k + 1, _, hlt, by go_num, rfl, hon1, B4.out⟩
              case measure => simp [RowKit.intOf]; omega
            · have hon1 := Lib.hid (RfSt.str (b := T ++ ⟨#[45]⟩ ++ digS x) (by have := hon.out; rw [if_neg (by decide), if_pos rfl] at this; exact this) (by simp [digS, D]))
              clear hon
              go_wp2_with fail
              refine (HD.out _).mono ?_; rintro e w4 ⟨rfl, b4⟩
              have B4 := Lib.hid (below_next b4 (below_next B3.out HB.out))
              clear b4 HD
              go_wp2_with fail
              go_roundw
              case rel => exact ⟨k + 1, _, hlt, by go_num, rfl, hon1, B4.out⟩
              case measure => simp [RowKit.intOf]; omega
          · by_cases hk0 : k = 0
            · have t1 : decide ((k : Int) > 0) = false := decide_eq_false (by omega)
              have t2 : decide (0 < k) = false := decide_eq_false (by omega)
              have hon1 := Lib.hid (RfSt.str (b := T ++ digS x) (by have := hon.out; rw [if_pos rfl, if_pos hk0] at this; exact this) (by simp [digS, D]))
              clear hon hk0
              go_wp2_with fail
              refine (HD.out _).mono ?_; rintro e w4 ⟨rfl, b4⟩
              have B4 := Lib.hid (below_next b4 (below_next B3.out HB.out))
              clear b4 HD
              go_wp2_with fail
              go_roundw
              case rel => exact ⟨k + 1, _, hlt, by go_num, rfl, hon1, B4.out⟩
              case measure => simp [RowKit.intOf]; omega
            · have t1 : decide ((k : Int) > 0) = true := decide_eq_true (by omega)
              have t2 : decide (0 < k) = true := decide_eq_true (by omega)
              have hon1 := Lib.hid (RfSt.str (b := T ++ ⟨#[44]⟩ ++ digS x) (by have := hon.out; rw [if_pos rfl, if_neg hk0] at this; exact this) (by simp [digS, D]))
              clear hon hk0
              go_wp2_with fail
              refine (HD.out _).mono ?_; rintro e w4 ⟨rfl, b4⟩
              have B4 := Lib.hid (below_next b4 (below_next B3.out HB.out))
              clear b4 HD
              go_wp2_with fail
              go_roundw
              case rel => exact ⟨k + 1, _, hlt, by go_num, rfl, hon1, B4.out⟩
              case measure => simp [RowKit.intOf]; omega
    · obtain rfl : k = l.length := by omega
      have hlt' : decide (l.length < l.length) = false := decide_eq_false hlt
      have hfin := Lib.hid (HFIN.out T hst.out)
      clear hst HFIN
      have HD := Lib.hid (fun w => DG.out m w hm)
      have hds := dig4 (n := m) (by omega)
      have c1 := c1
      by_cases hm0 : m = 0
      · have t1 : decide ((m : Int) > 0) = false := decide_eq_false (by omega)
        have t2 : decide (0 < m) = false := decide_eq_false (by omega)
        have HO : Hid (T = ⟨(printT l m).toArray⟩) := by
          apply ByteArray.ext; apply Array.toList_inj.1
          rw [hfin.out]; unfold printT mostT; rw [if_pos hm0]; simp
        have B4 := Lib.hid (below_next HB.out HW1.out)
        clear hfin hm0 HD hB
        go_wp2_with fail
        go_returns
        rw [HO.out]
        exact ⟨rfl, B4.out⟩
      · have t1 : decide ((m : Int) > 0) = true := decide_eq_true (by omega)
        have t2 : decide (0 < m) = true := decide_eq_true (by omega)
        have HO : Hid (T ++ ⟨#[37]⟩ ++ digS m = ⟨(printT l m).toArray⟩) := by
          apply ByteArray.ext; apply Array.toList_inj.1
          unfold printT mostT; rw [if_neg hm0, ← hfin.out]; simp [digS, D]
        have B4 := Lib.hid (below_next HB.out HW1.out)
        clear hfin hm0 hB
        go_wp2_with fail
        refine (HD.out _).mono ?_; rintro e w5 ⟨rfl, b5⟩
        have B5 := Lib.hid (below_next b5 B4.out)
        clear b5 HD
        go_wp2_with fail
        go_returns
        rw [HO.out]
        exact ⟨rfl, B5.out⟩
theorem refPrint_no (v : Value) (l : List Int) (m : Int) (w : World) (hn : l.length ≤ 1048576) (h : NRow w v l) (hno : ¬ OkZ l m) :
    Calls Tryd.prog 16 #[arrV v m] w fun e w' => e = .returned (.tuple #[.string ⟨#[]⟩, .int .i64 2]) ∧ Below w.heap.size w w' := by
  obtain ⟨a, c, rfl⟩ := h.slice
  have hb := Blk.new w #[.slice a l.length c, .int .i64 m] 25
  have c0 := hb.cell 0
  have c1 := hb.cell 1
  simp only [List.getElem?_toArray, List.getElem?_cons_zero, List.getElem?_cons_succ] at c0 c1
  have HW := Lib.hid ((Below.refl w.heap.size w).alloc (Nat.le_refl _) (.cells #[.slice a l.length c, .int .i64 m] 25))
  have HCK := Lib.hid (refCk_any _ l m _ hn (h.kept HW.out))
  rw [checkZ_no hno] at HCK
  clear hb h hno
  go_enter Tryd.func16, Tryd.ntmps16
  go_wp2_with fail
  refine HCK.out.mono ?_; rintro e W ⟨rfl, b1⟩
  have B1 := Lib.hid (below_next b1 HW.out)
  clear b1 HCK
  go_wp2_with fail
  go_returns
  exact ⟨rfl, B1.out⟩
theorem refPrint_any (v : Value) (l : List Int) (m : Int) (w : World) (hn : l.length ≤ 1048576) (h : NRow w v l) :
    Calls Tryd.prog 16 #[arrV v m] w fun e w' => e = .returned (.tuple #[.string (printZ l m), .int .i64 (checkZ l m)]) ∧ Below w.heap.size w w' := by
  by_cases hz : OkZ l m
  · rw [show printZ l m = ⟨(printT (toN l) m.toNat).toArray⟩ from if_pos hz, checkZ_ok hz]
    have hm : m = ((m.toNat : Nat) : Int) := (Int.toNat_of_nonneg hz.2.1).symm
    have hl := ofN_toN hz
    have hll : (toN l).length = l.length := by simp [toN]
    rcases h with ⟨rfl, _⟩ | ⟨b, off, c, rfl, h0, hlc, hcm, hb, hc⟩
    · exact absurd hz.1 (by simp)
    · have := refPrint_ok b off c (toN l) m.toNat w (by omega) (okN_of hz) (by omega) hcm hb (fun j hj => by rw [← ofN_get, hl]; exact hc j (by omega))
      rw [hll, ← hm] at this
      exact this
  · rw [show printZ l m = ⟨#[]⟩ from if_neg hz, checkZ_no hz]
    exact refPrint_no v l m w hn h hz
end Go.Proofs.YtdhkinknhjpjmaaDoor
