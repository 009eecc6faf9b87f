/-
  DependPrints: any dependency may be, or not, and has the text, and the jobs, that the chapter says: so the law returns true for every input, the listed tables of Go's library reading as the program's text lays them.
-/
import Derived.Test.YtpobghdiecfoaaaDoorDeW8
import Derived.Test.YtpobghdiecfoaaaDoorDeAr
import Derived.Test.YtpobghdiecfoaaaDoorLaw
import Derived.Test.YtpobghdiecfoaaaDoorDeRqr
import Derived.Test.YtpobghdiecfoaaaDoorDeRp
import Derived.Test.YtpobghdiecfoaaaDoorDeSm
import Derived.Test.YtpobghdiecfoaaaDoorDeJJ
import Derived.Test.YtpobghdiecfoaaaDoorDeCo
import Derived.Test.YtpobghdiecfoaaaDoorRows
import Derived.Test.YtpobghdiecfoaaaDoorArgs2
import Derived.Test.YtpobghdiecfoaaaDoorLaid
import Derived.Test.YtpobghdiecfoaaaDoorCards
import Derived.Test.YtpobghdiecfoaaaDoorTie
import Derived.MakeChecks
import Derived.SevenTiedAt
namespace Go.Proofs.YtpobghdiecfoaaaDoor.dependPrints
open Go.ChangeShapes Go.WideShapes Go.ChangeAt Go.RowKit
set_option linter.unusedVariables false

theorem own : ownKnob Tryd.prog.godebug = none := by kernel_rfl

open Go Go.RowKit Go.Lib
theorem strict_len : ∀ {os : List Nat} {L : List Nat}, os.Pairwise (· < ·) → (∀ x ∈ os, x ∈ L) → os.length ≤ L.length
  | [], L, _, _ => Nat.zero_le _
  | x :: os, L, h, hm => by
    obtain ⟨h1, h2⟩ := List.pairwise_cons.1 h
    have hx := hm x List.mem_cons_self
    have h3 := strict_len (L := L.erase x) h2 fun y hy => (List.mem_erase_of_ne (by have := h1 y hy; omega)).2 (hm y (List.mem_cons_of_mem _ hy))
    rw [List.length_erase_of_mem hx] at h3
    have := List.length_pos_of_mem hx
    rw [List.length_cons]; omega
theorem jobsAll_len (l : List NdM) : (jobsAll l).length = lensOf l := by
  unfold jobsAll lensOf
  rw [List.length_flatMap]
set_option maxRecDepth 100000 in
set_option maxHeartbeats 8000000 in
theorem walk (any : Bool) (dv : Value) (dl : List NdM) (w : World) (hE : Env8 w) (hd : NRx w dv dl) :
    Calls Tryd.prog 3 #[.agg #[.bool any, dv]] w fun e w' => e = .returned (.bool true) ∧ Below w.heap.size w w' := by
  have K : Hid (∀ w1, Below w.heap.size w w1 → Calls Tryd.prog 11 #[] w1 fun e w' => e = .returned (.bool true) ∧ Below w1.heap.size w1 w') := fun w1 hb => known8_any w1 (hE.next hb)
  have HE : Hid (∀ w1, Below w.heap.size w w1 → Env8 w1) := fun w1 hb => hE.next hb
  have HD := Lib.hid hd
  obtain ⟨da, dc, rfl⟩ := hd.row.slice
  obtain ⟨LD, hLD⟩ : ∃ n, n = dl.length := ⟨_, rfl⟩
  have HLE : Hid (LD = dl.length) := hLD
  rw [← hLD] at HD ⊢
  have MN : Hid (∀ w1, Below w.heap.size w w1 → Calls Tryd.prog 10 #[.agg #[.bool any, .slice da LD dc], .slice none 0 0] w1 fun e w' => ManyTo (dl.length + 0 + lensOf dl) e ∧ Below w1.heap.size w1 w') := fun w1 hb => many_any any (.slice da LD dc) dl none 0 0 w1 (HD.out.kept hb) (by omega)
  obtain ⟨g1, hg1⟩ : ∃ g, g = w.heap.size := ⟨_, rfl⟩
  obtain ⟨X, hX⟩ : ∃ X, X = w.alloc (.cells #[.bool any, .slice da LD dc] 24) := ⟨_, rfl⟩
  have HBX : Hid (Below w.heap.size w X) := by unfold Hid; rw [hX]; exact (Below.refl _ _).alloc (Nat.le_refl _) _
  have hbk : Blk X g1 #[.bool any, .slice da LD dc] 24 := by rw [hX, hg1]; exact Blk.new w _ _
  have x0 := hbk.cell 0
  have x1 := hbk.cell 1
  simp at x0 x1
  have HXC : Hid (∀ w1, Below X.heap.size X w1 → w1.cell? ⟨g1, 0, none⟩ = some (.bool any) ∧ w1.cell? ⟨g1, 1, none⟩ = some (.slice da LD dc)) := fun w1 h => ⟨cell_next h x0, cell_next h x1⟩
  have HXX := Lib.hid hX
  have HG1 := Lib.hid hg1
  have HG1B : Hid (w.heap.size ≤ g1 ∧ g1 < X.heap.size) := ⟨Nat.le_of_eq hg1.symm, hbk.lt⟩
  clear hE hd hLD hX hg1 hbk
  go_enter Tryd.func3, Tryd.ntmps3
  go_upto_region 1 with fail
  rw [← HG1.out, ← HXX.out]
  go_wp2_with fail
  refine (MN.out X HBX.out).mono ?_; rintro e w1 ⟨⟨β, rfl, hβ⟩, b1⟩
  have HB1 := Lib.hid (below_next b1 HBX.out)
  have HX1 := Lib.hid b1
  have HBB := Lib.hid hβ
  clear b1 MN hβ x0 x1
  cases β with
  | true =>
    go_wp2_with fail
    refine (K.out w1 HB1.out).mono ?_; rintro e w2 ⟨rfl, b2⟩
    have HB2 := below_next b2 HB1.out
    clear b2
    go_wp2_with fail
    go_returns
    exact ⟨rfl, HB2⟩
  | false =>
  have hsm := HBB.out rfl
  have HN : Hid (NRw w (.slice da LD dc) dl) := HD.out.few (by omega)
  have hLDb : LD ≤ 1000 := by have := HLE.out; omega
  obtain ⟨c0, c1⟩ := HXC.out w1 HX1.out
  have CP := Lib.hid (copied_any any (.slice da LD dc) dl w1 (HN.out.kept HB1.out))
  have HSM : Hid (lensOf dl ≤ 1000) := by unfold Hid; omega
  clear hsm HBB HD
  go_wp2_with fail
  refine CP.out.mono ?_; rintro e w2 ⟨⟨v', l', rfl, ho2, hn2⟩, b2⟩
  obtain ⟨va, vc, rfl⟩ := own_slice ho2.row
  have hl' : l'.length = LD := by rw [← ndsOf_len, hn2, ndsOf_len]; exact HLE.out.symm
  rw [hl'] at ho2 ⊢
  obtain ⟨g3, hg3⟩ : ∃ g, g = w2.heap.size := ⟨_, rfl⟩
  obtain ⟨W2, hW2⟩ : ∃ x, x = w2.alloc (.cells #[.bool any, .slice va LD vc] 24) := ⟨_, rfl⟩
  have hbW2 : Below w2.heap.size w2 W2 := by rw [hW2]; exact (Below.refl _ _).alloc (Nat.le_refl _) _
  have hbk3 : Blk W2 g3 #[.bool any, .slice va LD vc] 24 := by rw [hW2, hg3]; exact Blk.new _ _ _
  have y0 := hbk3.cell 0
  have y1 := hbk3.cell 1
  simp at y0 y1
  have HNR2 : Hid (NRw W2 (.slice va LD vc) l') := by
    have h := ho2.older hbW2
    have hsml : ∀ p ∈ l', ∀ j ∈ p.2.2, j < 4294967296 := fun p hp j hj => by
      have h1 : toNd p ∈ ndsOf dl := by rw [← hn2]; exact List.mem_map.2 ⟨p, hp, rfl⟩
      obtain ⟨q, hq, e⟩ := List.mem_map.1 h1
      have e2 : q.2.2 = p.2.2 := congrArg (fun x : Nd => x.2) e
      exact HN.out.small q hq j (by rw [e2]; exact hj)
    have hln : ∀ p ∈ l', p.2.2.length ≤ 1048576 := fun p hp => by
      have h1 : toNd p ∈ ndsOf dl := by rw [← hn2]; exact List.mem_map.2 ⟨p, hp, rfl⟩
      obtain ⟨q, hq, e⟩ := List.mem_map.1 h1
      have e2 : q.2.2 = p.2.2 := congrArg (fun x : Nd => x.2) e
      rw [← e2]; exact HN.out.lens q hq
    exact h.nrw (by rw [hl']; omega) hln hsml
  have HND := Lib.hid hn2
  have HX2 := Lib.hid (below_next (below_next hbW2 b2) HX1.out)
  have HB2 := Lib.hid (below_next HX2.out HBX.out)
  have HYC : Hid (∀ w1, Below W2.heap.size W2 w1 → w1.cell? ⟨g3, 0, none⟩ = some (.bool any) ∧ w1.cell? ⟨g3, 1, none⟩ = some (.slice va LD vc)) := fun w1 h => ⟨cell_next h y0, cell_next h y1⟩
  have HW2 := Lib.hid hW2
  have HG3 := Lib.hid hg3
  clear ho2 hn2 b2 hl' hg3 hW2 hbW2 hbk3 y0 y1 c0 c1 CP HX1 HB1
  obtain ⟨C, hC⟩ : ∃ c, c = chkD any (ndsOf dl) := ⟨_, rfl⟩
  obtain ⟨T, hT⟩ : ∃ c, c = strB (printD any (ndsOf dl)).1 := ⟨_, rfl⟩
  obtain ⟨P, hP⟩ : ∃ c, c = (printD any (ndsOf dl)).2 := ⟨_, rfl⟩
  have CK : Hid (∀ w1, Below W2.heap.size W2 w1 → Calls Tryd.prog 13 #[.agg #[.bool any, .slice va LD vc]] w1 fun e w' => e = .returned (.int .i64 C) ∧ Below w1.heap.size w1 w') := fun w1 h => by
    have h2 := check_any any (.slice va LD vc) l' w1 (HNR2.out.kept h)
    rw [HND.out, ← hC] at h2
    exact h2
  have PK : Hid (∀ w1, Below W2.heap.size W2 w1 → Calls Tryd.prog 14 #[.agg #[.bool any, .slice va LD vc]] w1 fun e w' => e = .returned (.tuple #[.string T, .int .i64 P]) ∧ Below w1.heap.size w1 w') := fun w1 h => by
    have h2 := print8_any any (.slice va LD vc) l' w1 (HNR2.out.kept h) (HE.out w1 (below_next h HB2.out)).2
    rw [HND.out, ← hT, ← hP] at h2
    exact h2
  have RP : Hid (∀ w1, Below w.heap.size w w1 → Calls Tryd.prog 15 #[.agg #[.bool any, .slice da LD dc]] w1 fun e w' => e = .returned (.tuple #[.string T, .int .i64 P]) ∧ Below w1.heap.size w1 w') := fun w1 h => by
    have h2 := rprint8_any any (.slice da LD dc) dl w1 (HN.out.kept h)
    rw [← hT, ← hP] at h2
    exact h2
  have RC : Hid (∀ w1, Below w.heap.size w w1 → Calls Tryd.prog 18 #[.agg #[.bool any, .slice da LD dc]] w1 fun e w' => e = .returned (.int .i64 C) ∧ Below w1.heap.size w1 w') := fun w1 h => by
    have h2 := rcheck_any any (.slice da LD dc) dl w1 (HN.out.kept h)
    rw [← hC] at h2
    exact h2
  have JK : Hid (∀ w1, Below W2.heap.size W2 w1 → Calls Tryd.prog 16 #[.agg #[.bool any, .slice va LD vc]] w1 fun e w' => (∃ v' os, e = .returned v' ∧ UOwn w' w1.heap.size v' os ∧ JobsTo any l' os) ∧ Below w1.heap.size w1 w') := fun w1 h => jobs_any sortU8 any (.slice va LD vc) l' w1 (HNR2.out.kept h)
  have RJ : Hid (∀ w1, Below w.heap.size w w1 → Calls Tryd.prog 17 #[.agg #[.bool any, .slice da LD dc]] w1 fun e w' => (∃ v' os, e = .returned v' ∧ UOwn w' w1.heap.size v' os ∧ JobsTo any dl os) ∧ Below w1.heap.size w1 w') := fun w1 h => rjobs_any any (.slice da LD dc) dl w1 (HN.out.kept h)
  have HJ400 : Hid (∀ os, JobsTo any dl os → os.length ≤ 1048576) := fun os h => by
    have h1 := strict_len h.1 (L := jobsAll dl) fun x hx => ((h.2 x).1 hx).2
    rw [jobsAll_len] at h1
    have := HSM.out
    omega
  clear hC hT hP
  obtain ⟨y0, y1⟩ := HYC.out W2 (Below.refl _ _)
  go_upto_region 4 with fail
  rw [← HW2.out, ← HG3.out]
  clear HW2
  go_wp2_with fail
  refine (CK.out W2 (Below.refl _ _)).mono ?_; rintro e w3 ⟨rfl, b3⟩
  have HY3 := Lib.hid b3
  clear b3 CK y0 y1
  obtain ⟨y0, y1⟩ := HYC.out w3 HY3.out
  go_wp2_with fail
  refine (PK.out w3 HY3.out).mono ?_; rintro e w4 ⟨rfl, b4⟩
  have HY4 := Lib.hid (below_next b4 HY3.out)
  clear b4 PK y0 y1 HY3
  obtain ⟨x0, x1⟩ := HXC.out w4 (below_next HY4.out HX2.out)
  go_wp2_with fail
  refine (RP.out w4 (below_next HY4.out HB2.out)).mono ?_; rintro e w5 ⟨rfl, b5⟩
  have HY5 := Lib.hid (below_next b5 HY4.out)
  clear b5 RP x0 x1 HY4
  obtain ⟨y0, y1⟩ := HYC.out w5 HY5.out
  go_wp2_with fail
  refine (JK.out w5 HY5.out).mono ?_; rintro e w6 ⟨⟨v6, os, rfl, ho6, hJ6⟩, b6⟩
  have HY6 := Lib.hid (below_next b6 HY5.out)
  have HJ6 := Lib.hid hJ6
  have HO6 := Lib.hid ho6
  have HW5 : Hid (W2.heap.size ≤ w5.heap.size) := HY5.out.size
  obtain ⟨x0, x1⟩ := HXC.out w6 (below_next HY6.out HX2.out)
  clear b6 JK y0 y1 hJ6 ho6 HY5
  go_wp2_with fail
  refine (RJ.out w6 (below_next HY6.out HB2.out)).mono ?_; rintro e w7 ⟨⟨v7, os7, rfl, ho7, hJ7⟩, b7⟩
  have hoo : os7 = os := hJ7.one HJ6.out HND.out.symm
  subst hoo
  have HY7 := Lib.hid (below_next b7 HY6.out)
  have HO67 : Hid (UOwn w7 w5.heap.size v6 os7) := own_older HO6.out b7
  have HO7 := Lib.hid ho7
  have hol := HJ400.out os7 hJ7
  obtain ⟨x0', x1'⟩ := HXC.out w7 (below_next HY7.out HX2.out)
  clear b7 RJ hJ7 ho7 HO6 HY6 HJ6 x0 x1 HJ400
  go_wp2_with fail
  refine (RC.out w7 (below_next HY7.out HB2.out)).mono ?_; rintro e w8 ⟨rfl, b8⟩
  have HY8 := Lib.hid (below_next b8 HY7.out)
  have HO68 : Hid (UOwn w8 w5.heap.size v6 os7) := own_older HO67.out b8
  have HO78 : Hid (UOwn w8 w6.heap.size v7 os7) := own_older HO7.out b8
  clear b8 RC HO67 HO7 HY7 x0' x1'
  have SJ : Hid (Calls Tryd.prog 19 #[v6, v7] w8 fun e w' => e = .returned (.bool true) ∧ Below w8.heap.size w8 w') := by
    have h := samejobs_any v6 v7 os7 os7 w8 (urow_of_own HO68.out) (urow_of_own HO78.out) hol hol
    rw [show decide (os7 = os7) = true by simp] at h
    exact h
  have q1 : (C != C) = false := by simp
  have q2 : (T.toList != T.toList) = false := by simp
  have q3 : (P != P) = false := by simp
  obtain ⟨ja, jc, rfl⟩ := own_slice HO68.out
  obtain ⟨LJ, hLJ⟩ : ∃ n, n = os7.length := ⟨_, rfl⟩
  have HLJ := Lib.hid hLJ
  rw [← hLJ] at SJ hol ⊢
  have HOJ : Hid (w8.ownsRow w5.heap.size 38 1 (.slice ja LJ jc) LJ (uL os7)) := by
    have h := HO68.out
    unfold UOwn at h
    rw [← hLJ] at h
    exact h
  clear hLJ HO68 HO78
  go_wp2_with fail
  refine SJ.out.mono ?_; rintro e w9 ⟨rfl, b9⟩
  have HY9 := Lib.hid (below_next b9 HY8.out)
  have HO9 := Lib.hid (own_older HOJ.out b9)
  clear b9 SJ HOJ HY8 q1 q2 q3
  go_wp2_with fail
  go_loopw [11] (fun iv wr => ∃ (i : Nat) (xs : List Value), iv = .int .i64 (i : Nat) ∧ i ≤ LJ ∧ Hid (wr.ownsRow w5.heap.size 38 1 (.slice ja LJ jc) LJ xs) ∧ Hid (Below W2.heap.size W2 wr)) (fun iv _ => LJ - (RowKit.intOf iv).toNat)
  case atStart => exact ⟨0, _, rfl, Nat.zero_le _, HO9.out, HY9.out⟩
  case round =>
    clear HO9 HY9
    obtain ⟨i, xs, rfl, hi, HO9, HY9⟩ := hrel
    by_cases hlt : i < LJ
    · have d1 : decide ((i : Int) < (LJ : Int)) = true := decide_eq_true (by omega)
      have d1' : decide (i < LJ) = true := decide_eq_true hlt
      have hii : (i : Int) < (LJ : Int) := by omega
      obtain ⟨gj, rfl⟩ : ∃ g, ja = some ⟨g, 0, none⟩ := by
        obtain ⟨_, ⟨e, h0⟩ | ⟨g, cap, cur, e, _⟩⟩ := HO9.out
        · omega
        · injection e with e1 _ _; exact ⟨g, e1⟩
      obtain ⟨⟨x, hx⟩, hf, ho, hc⟩ := owns_put8 HO9.out (show i < LJ * 1 by omega) (.int .u32 0)
      have HON := Lib.hid ho
      have hgb := (HO9.out.lt gj rfl).1
      have HYN : Hid (Below W2.heap.size W2 (wr.setCell ⟨gj, i, none⟩ (.int .u32 0))) := HY9.out.trans (hc.to_below HY9.out.size fun q hq e => by have : q = gj := e; have := HW5.out; omega)
      clear ho hc hgb
      go_wp2_with fail
      go_roundw
      case rel => exact ⟨i + 1, _, by go_num, hlt, HON.out, HYN.out⟩
      case measure => simp [RowKit.intOf]; omega
    · have d1 : decide ((i : Int) < (LJ : Int)) = false := decide_eq_false (by omega)
      have d1' : decide (i < LJ) = false := decide_eq_false hlt
      obtain ⟨y0, y1⟩ := HYC.out wr HY9.out
      obtain ⟨x0, x1⟩ := HXC.out wr (below_next HY9.out HX2.out)
      have HBr := Lib.hid (below_next HY9.out HB2.out)
      have SM : Hid (Calls Tryd.prog 20 #[.agg #[.bool any, .slice va LD vc], .agg #[.bool any, .slice da LD dc]] wr fun e w' => e = .returned (.bool true) ∧ Below wr.heap.size wr w') := by
        have h := same8_any any any (.slice va LD vc) (.slice da LD dc) l' dl wr (HNR2.out.kept HY9.out) (HN.out.kept HBr.out)
        have hb : decide (any = any ∧ ndsOf l' = ndsOf dl) = true := decide_eq_true ⟨rfl, HND.out⟩
        rw [hb] at h
        exact h
      go_wp2_with fail
      refine SM.out.mono ?_; rintro e w10 ⟨rfl, b10⟩
      have HB10 := Lib.hid (below_next b10 HBr.out)
      clear b10 SM
      go_wp2_with fail
      refine (K.out w10 HB10.out).mono ?_; rintro e w11 ⟨rfl, b11⟩
      have HB11 := Lib.hid (below_next b11 HB10.out)
      clear b11
      go_wp2_with fail
      go_returns
      exact ⟨rfl, HB11.out⟩


set_option maxRecDepth 100000 in
theorem lifted (os : Os) (started : os.Started) (H : Type) (enc : TypeId × Value → H) :
    ReturnsInHanded {} Tryd.checked os 3 .any (fun w args => (Rows.dependPrintsSpec.pre enc Tryd.prog Tryd.f3 Rows.dependPrintsRow.domain false w args ∧ laidMetH Tryd.prog laid8 w) ∧ sizedMet enc Tryd.prog Tryd.f3 (OpenSpec.ofChange Rows.dependPrintsSpec) false w args) (Rows.dependPrintsSpec.post enc Tryd.prog Tryd.f3 false true false false) := by
  refine laid_lift (C := Tryd.checked) (X := fun w _ => laidMetH Tryd.prog laid8 w) (fun _ _ _ hh h => h.of_heap hh) own started (by kernel_rfl) Tryd.func3
    (ChangeSpec.witness_shaped (enc := enc) (C := Tryd.checked) (os := os) (X := fun w _ => laidMetH Tryd.prog laid8 w) false (World.laidAll Tryd.prog os laid8) #[.agg #[.bool false, .slice none 0 0]] 8 (World.laidAll_os _ _ _)
      (World.shaped_of_ZipB (by kernel_rfl) (by kernel_rfl)) (by kernel_rfl) (by kernel_rfl) (by kernel_rfl)
      (by rw [MakeChecks.laidMetH_plain _ _ _ (by kernel_rfl)]; exact laidMet_laidAll _ (by kernel_rfl) (by kernel_rfl))) ?_
  intro W base args ds gs before hval0 hW hsz0 hL hS
  have hE := env8_of hL hS
  have hval : ∀ (j : Nat) t v, Tryd.f3.params[j]? = some t → args[j]? = some v → Value.okWide Tryd.prog W .any base t v := hval0
  have hW' := hW
  obtain ⟨p, q, hA0, hV, rfl, hfz, hnd⟩ := hW
  have hA : DataW.TrodAll enc Tryd.prog W 0 (fun _ => true) true Tryd.f3.params.toList args.toList ds p := hA0
  rw [Tryd.params3] at hA hval
  obtain ⟨v0, vs0, d0, ds0, p0, q0, hargs, rfl, rfl, h0, r0⟩ := trodAll_cons hA
  obtain ⟨rfl, rfl, rfl⟩ := trodAll_nil r0
  obtain rfl : args = #[v0] := by cases args; simp_all
  have hz0 : ∀ k ∈ d0.weights Tryd.prog 24, k ≤ reachBytes := fun k hk => by
    have := List.all_eq_true.1 hsz0 k (DataW.weights_mem_each (j := 0) (t := 24) (d := d0) rfl rfl k hk)
    simpa using this
  obtain ⟨cs0, rfl, hs0, hf0⟩ := open_structZ Tryd.underlying24 (by kernel_rfl) (by kernel_rfl) (hval 0 24 v0 rfl rfl) hz0 h0
  obtain ⟨c0_0, y0_0, n0_0, e0_0, t0_0, z0_0⟩ := hf0 0 _ rfl
  obtain ⟨any, rfl⟩ := field_bool Tryd.underlying4 t0_0
  obtain ⟨c0_1, y0_1, n0_1, e0_1, t0_1, z0_1⟩ := hf0 1 _ rfl
  obtain ⟨dl, w0_1⟩ := field_needs t0_1 z0_1
  obtain rfl : cs0 = #[.bool any, c0_1] := arr_of cs0 [.bool any, c0_1] hs0 (fun j hj => by match j, hj with | 0, _ => exact e0_0 | 1, _ => exact e0_1 | j + 2, hj => exact absurd hj (by simp))
  clear hA0 hval0
  refine (walk any c0_1 dl W hE w0_1).mono fun e W' ⟨he, hb⟩ => ?_
  subst he
  exact ⟨_, rfl, law_post (by kernel_rfl) (by kernel_rfl) rfl Tryd.underlying4 rfl hW' rfl hb⟩

theorem over : Rows.dependPrintsRow.holds Tryd.pinned (OpenSpec.ofChange Rows.dependPrintsSpec) :=
  OpenClaim.holds_of_wide 3 Tryd.f3 rfl rfl rfl rfl rfl rfl rfl ⟨rfl, rfl, rfl, rfl, rfl⟩ rfl rfl rfl rfl rfl (by kernel_rfl) Tryd.func3 (by kernel_rfl)
    (of_decide_eq_true (by kernel_rfl)) (by unfold Func.isWrapper; first | (rw [if_pos (by decide +kernel)]; kernel_rfl) | (rw [if_neg (by decide +kernel)]; exact ⟨rfl, rfl⟩))
    (fun os started H enc _ => lifted os started H enc)

theorem proved : Rows.DependPrintsCardSaid :=
  Claim7.holds_tied_plain_at .later [] _ true _ false over (fun _ h => by cases h) (by kernel_rfl) (fun _ h => by cases h) dependPrints_row_tie rfl ⟨rfl, rfl⟩ (by kernel_rfl) rfl
    (fun f fn hf hfn => by
      obtain rfl : f = 3 := Option.some.inj ((show Tryd.prog.funcNamed "ganger/gangerlaw08.DependPrints" = some 3 by kernel_rfl).symm.trans hf) |>.symm
      obtain rfl : fn = Tryd.f3 := (Option.some.inj (Tryd.func3.symm.trans hfn)).symm
      exact ⟨by kernel_rfl, fun j t ht => by
        rw [Tryd.params3] at ht
        have hm : t ∈ [24] := by simpa using Array.mem_of_getElem? ht
        have hall : ([24].all fun u => !Tryd.prog.wantsStandIn u) = true := by kernel_rfl
        exact (show Tryd.prog.wantsStandIn t = false by simpa using List.all_eq_true.1 hall t hm)⟩)
    (by kernel_rfl)
#print axioms proved
end Go.Proofs.YtpobghdiecfoaaaDoor.dependPrints
