/-
  WaitsTime: who is ready stays so, as long as nothing but time changes; who is not ready, but would be at any time, is when its Begin has come; Never does not hang on time: so the law returns true for every input.
-/
import Derived.Test.YtfabjlhepadkpaaWtNO
import Derived.Test.YtfabjlhepadkpaaWtP
import Derived.Test.YtfabjlhepadkpaaLaw
import Derived.Test.YtfabjlhepadkpaaWtQR
import Derived.Test.YtfabjlhepadkpaaRows
import Derived.Test.YtfabjlhepadkpaaArgs2
namespace Go.Proofs.Ytfabjlhepadkpaa.waitsTime
open Go.ChangeShapes Go.WideShapes Go.ChangeAt Go.RowKit
set_option linter.unusedVariables false

theorem own : ownKnob Try.prog.godebug = none := by kernel_rfl

open Go Go.ChangeShapes Go.WideShapes Go.ChangeAt Go.RowKit Go.Lib
set_option maxRecDepth 100000 in
set_option maxHeartbeats 8000000 in
theorem walk (v : Value) (l : List Jb) (now lt : Int) (w : World) (h : JArg w v l) (hnow : (Lit.int .i64 now).wf = true) (hlt : (Lit.int .u16 lt).wf = true) :
    Calls Try.prog 9 #[v, .int .i64 now, .int .u16 lt] w fun e w' => e = .returned (.bool true) ∧ Below w.heap.size w w' := by
  have hn0 : -9223372036854775808 ≤ now ∧ now ≤ 9223372036854775807 := by simpa [Lit.wf, IntKind.min, IntKind.max, IntKind.bits, IntKind.signed] using hnow
  have hl0 : 0 ≤ lt ∧ lt ≤ 65535 := by simpa [Lit.wf, IntKind.min, IntKind.max, IntKind.bits, IntKind.signed] using hlt
  obtain ⟨hn1, hn2⟩ := hn0
  obtain ⟨hl1, hl2⟩ := hl0
  have MN := Lib.hid (many14_any v l w h)
  have K : Hid (∀ w1, Calls Try.prog 11 #[] w1 fun e w' => e = .returned (.bool true) ∧ Below w1.heap.size w1 w') := known14_any
  have HL := Lib.hid h
  obtain ⟨a, c, rfl⟩ := h.row.slice
  obtain ⟨N, hN⟩ : ∃ N, N = l.length := ⟨_, rfl⟩
  rw [← hN] at MN ⊢
  have HN := Lib.hid hN
  clear h hN hnow hlt
  go_enter Try.func9, Try.ntmps9
  go_wp2_with fail
  refine MN.out.mono ?_; rintro e w1 ⟨hm, b1⟩
  have HB1 := Lib.hid b1
  clear b1 MN
  rcases hm with rfl | ⟨rfl, hf⟩
  · go_wp2_with fail
    refine (K.out _).mono ?_; rintro e w2 ⟨rfl, b2⟩
    have HB2 := below_next b2 HB1.out
    clear b2
    go_wp2_with fail
    go_ret
    exact ⟨rfl, HB2⟩
  · have HJ := Lib.hid (HL.out.few hf)
    have hlen : N ≤ 60 := by rw [HN.out]; exact hf.1
    have CA : Hid (∀ w1, Below w.heap.size w w1 → Calls Try.prog 12 #[.slice a N c] w1 fun e w' => e = .returned (.int .i64 (chkJ l)) ∧ Below w1.heap.size w1 w') := fun w1 hb => by rw [HN.out]; exact wcheck_any _ l w1 (HJ.out.kept hb)
    cases hck : okJs l with
    | false =>
      rw [notJs_chk hck] at CA
      go_wp2_with fail
      refine (CA.out _ HB1.out).mono ?_; rintro e w2 ⟨rfl, b2⟩
      have HB2 := Lib.hid (below_next b2 HB1.out)
      clear b2
      go_wp2_with fail
      refine (K.out _).mono ?_; rintro e w3 ⟨rfl, b3⟩
      have HB3 := below_next b3 HB2.out
      clear b3
      go_wp2_with fail
      go_ret
      exact ⟨rfl, HB3⟩
    | true =>
      rw [okJs_chk hck] at CA
      by_cases h50 : now > 1125899906842624
      · have d0 : decide (now > 1125899906842624) = true := decide_eq_true h50
        have d0' : decide (1125899906842624 < now) = true := decide_eq_true h50
        go_wp2_with fail
        refine (CA.out _ HB1.out).mono ?_; rintro e w2 ⟨rfl, b2⟩
        have HB2 := Lib.hid (below_next b2 HB1.out)
        clear b2
        go_wp2_with fail
        refine (K.out _).mono ?_; rintro e w3 ⟨rfl, b3⟩
        have HB3 := below_next b3 HB2.out
        clear b3
        go_wp2_with fail
        go_ret
        exact ⟨rfl, HB3⟩
      have d0 : decide (now > 1125899906842624) = false := decide_eq_false h50
      have d0' : decide (1125899906842624 < now) = false := decide_eq_false h50
      have hn3 : now ≤ 1125899906842624 := by omega
      have HCK := Lib.hid hck
      have HAL : Hid ((listJ l now 2).length ≤ 60) := by rw [HN.out] at hlen; exact Nat.le_trans (listJ_len _ _ _) hlen
      have HBL : Hid ((listJ l (now + lt) 2).length ≤ 60) := by rw [HN.out] at hlen; exact Nat.le_trans (listJ_len _ _ _) hlen
      have RD : Hid (∀ (t : Int) w1, Below w.heap.size w w1 → Calls Try.prog 22 #[.slice a N c, .int .i64 t] w1 fun e w' => (∃ v', e = .returned v' ∧ UOwn w' w1.heap.size v' (listJ l t 2)) ∧ Below w1.heap.size w1 w') := fun t w1 hb => by rw [HN.out]; exact ready_any _ l t w1 (HJ.out.kept hb)
      have SA : Hid (∀ (id : Nat) (t : Int) w1, id < 4294967296 → Below w.heap.size w w1 → Calls Try.prog 20 #[.slice a N c, .int .u32 (id : Nat), .int .i64 t] w1 fun e w' => e = .returned (.int .i64 (SayJ l id t)) ∧ Below w1.heap.size w1 w') := fun id t w1 h32 hb => by rw [HN.out]; exact Say14_any _ l id t w1 (HJ.out.kept hb) h32
      have RA := Lib.hid (RD.out now)
      have RB := Lib.hid (RD.out (now + lt))
      obtain ⟨A, hA⟩ : ∃ A, A = listJ l now 2 := ⟨_, rfl⟩
      obtain ⟨B, hB⟩ : ∃ A, A = listJ l (now + lt) 2 := ⟨_, rfl⟩
      have HT1 : Hid (∀ id ∈ A, id ∈ B) := fun id hid => by
        rw [hA] at hid; rw [hB]
        obtain ⟨i, hi, rfl, hs⟩ := (mem_listJ hck).1 hid
        exact (mem_listJ hck).2 ⟨i, hi, rfl, say_later hs (by omega)⟩
      have HT2a : Hid (∀ id ∈ B, ∃ i, ∃ h : i < l.length, id = i + 1 ∧ decide (id ∈ A) = decide (l[i].beg ≤ now) ∧ SayJ l id l[i].beg = 2) := fun id hid => by
        rw [hB] at hid
        obtain ⟨i, hi, rfl, hs⟩ := (mem_listJ hck).1 hid
        refine ⟨i, hi, rfl, ?_, by rw [SayJ_nth hck hi]; exact say_beg hs⟩
        rw [hA]
        refine decide_eq_decide.2 ⟨fun hm => ?_, fun hm => ?_⟩
        · obtain ⟨i', hi', e, hs'⟩ := (mem_listJ hck).1 hm
          obtain rfl : i' = i := by omega
          have := (say_when hs).1 hs'; omega
        · exact (mem_listJ hck).2 ⟨i, hi, rfl, (say_when hs).2 (by omega)⟩
      have HT4 : Hid (∀ i, i < l.length → (SayJ l (i + 1) now == 3) = (SayJ l (i + 1) (now + lt) == 3)) := fun i hi => by
        rw [SayJ_nth hck hi, SayJ_nth hck hi, Bool.eq_iff_iff, beq_iff_eq, beq_iff_eq]
        exact say_three
      rw [← hA] at RA HAL
      rw [← hB] at RB HBL
      clear hA hB hck hf RD
      go_wp2_with fail
      refine (CA.out _ HB1.out).mono ?_; rintro e w2 ⟨rfl, b2⟩
      have HB2 := Lib.hid (below_next b2 HB1.out)
      clear b2 CA
      go_wp2_with fail
      refine (RA.out _ HB2.out).mono ?_; rintro e w2a ⟨⟨va, rfl, ho2⟩, b2⟩
      obtain ⟨pa, ca, rfl⟩ := own_slice ho2
      have HB2a := Lib.hid (below_next b2 HB2.out)
      have HUA2 := Lib.hid (urow_of_own ho2)
      clear b2 ho2 RA
      go_wp2_with fail
      refine (RB.out _ HB2a.out).mono ?_; rintro e w3 ⟨⟨vb, rfl, ho3⟩, b3⟩
      obtain ⟨pb, cb, rfl⟩ := own_slice ho3
      have HB3 := Lib.hid (below_next b3 HB2a.out)
      have HUA := Lib.hid (HUA2.out.kept b3)
      have HUB := Lib.hid (urow_of_own ho3)
      obtain ⟨M, hM⟩ : ∃ M, M = A.length := ⟨_, rfl⟩
      obtain ⟨P, hP⟩ : ∃ P, P = B.length := ⟨_, rfl⟩
      rw [← hM] at HUA ⊢
      rw [← hP] at HUB ⊢
      have HM := Lib.hid hM
      have HP := Lib.hid hP
      have hM60 : M ≤ 60 := by rw [hM]; exact HAL.out
      have hP60 : P ≤ 60 := by rw [hP]; exact HBL.out
      clear b3 ho3 RB HUA2 hM hP
      go_wp2_with fail
      go_loopw [9, 10, 11] (fun iv _ _ wr => ∃ i : Nat, i ≤ M ∧ iv = .int .i64 (i : Nat) ∧ Hid (Below w3.heap.size w3 wr)) (fun iv _ _ _ => M - (RowKit.intOf iv).toNat)
      case atStart => exact ⟨0, Nat.zero_le _, rfl, Below.refl _ _⟩
      case round =>
        obtain ⟨i, hi, rfl, HBq⟩ := hrel
        by_cases hlt : i < M
        · have d1 : decide ((i : Int) < (M : Int)) = true := decide_eq_true (by omega)
          have d1' : decide (i < M) = true := decide_eq_true hlt
          have hii : (i : Int) < (M : Int) := by omega
          have hiA : i < A.length := by rw [← HM.out]; exact hlt
          obtain ⟨ua, oa, e, hxa⟩ := RowG.at HUA.out hiA
          subst e
          clear hxa
          obtain ⟨wq, hwq⟩ : ∃ wq, wq = wr := ⟨_, rfl⟩
          subst hwq
          have xq : wq.cell? ⟨ua, oa + i, none⟩ = some (.int .u32 (A[i] : Nat)) := urow_cell HUA.out hiA HBq.out
          have HMI := Lib.hid (List.getElem_mem hiA)
          obtain ⟨id, hidd⟩ : ∃ x, x = A[i] := ⟨_, rfl⟩
          rw [← hidd] at xq HMI
          clear hidd hiA
          go_wp2_with fail
          go_loopw [10, 11] (fun hv kv wk => ∃ (k : Nat) (hb : Bool), k ≤ P ∧ kv = .int .i64 (k : Nat) ∧ hv = .bool hb ∧ Hid (hb = decide (id ∈ B.take k)) ∧ Hid (Below wq.heap.size wq wk)) (fun _ kv _ => P - (RowKit.intOf kv).toNat)
          case atStart => exact ⟨0, false, Nat.zero_le _, rfl, rfl, by unfold Hid; simp, Below.refl _ _⟩
          case round =>
            obtain ⟨k, hb, hk, rfl, rfl, HH, HBk⟩ := hrel
            by_cases hlk : k < P
            · have d2 : decide ((k : Int) < (P : Int)) = true := decide_eq_true (by omega)
              have d2' : decide (k < P) = true := decide_eq_true hlk
              have hkk : (k : Int) < (P : Int) := by omega
              have hkl : k < B.length := by rw [← HP.out]; exact hlk
              have HT : Hid (decide (id ∈ B.take (k + 1)) = (hb || decide (id = B[k]))) := by unfold Hid; rw [mem_take_succ hkl, HH.out]
              obtain ⟨ub, ob, eu, hxu⟩ := RowG.at (HUB.out.kept HBq.out) hkl
              subst eu
              have u0 : wr.cell? ⟨ub, ob + k, none⟩ = some (.int .u32 (B[k] : Nat)) := by have := hxu wr HBk.out 0 _ rfl; simpa using this
              clear hxu
              have x0 := cell_next HBk.out xq
              obtain ⟨y, hy⟩ : ∃ y, y = B[k] := ⟨_, rfl⟩
              rw [← hy] at u0 HT
              clear hy hkl
              cases hb with
              | true =>
                have HT2 : Hid (true = decide (id ∈ B.take (k + 1))) := by unfold Hid; rw [HT.out]; rfl
                clear HT HH u0 x0
                go_wp2_with fail
                go_quiet (fail)
                go_wp2_with fail
                go_roundw
                case rel => exact ⟨k + 1, true, hlk, by go_num, rfl, HT2.out, below_drewN HBk.out _⟩
                case measure => simp [RowKit.intOf]; omega
              | false =>
                obtain ⟨β, hβ⟩ : ∃ β, β = ((id : Int) == (y : Int)) := ⟨_, rfl⟩
                obtain ⟨β2, hβ2⟩ : ∃ β, β = ((y : Int) == (id : Int)) := ⟨_, rfl⟩
                have e1 : β = decide (id = y) := by rw [hβ, Bool.eq_iff_iff]; simp <;> omega
                have e2 : β2 = β := by rw [hβ, hβ2, Bool.eq_iff_iff]; simp <;> omega
                have q1 := hβ.symm
                have q2 := hβ2.symm
                rw [e2] at q2
                have HT2 : Hid (β = decide (id ∈ B.take (k + 1))) := by unfold Hid; rw [HT.out, e1]; rfl
                clear HT HH hβ hβ2 e1 e2
                go_wp2_with fail
                go_quiet (fail)
                go_wp2_with fail
                go_roundw
                case rel => exact ⟨k + 1, β, hlk, by go_num, by first | rfl | rw [q1] | rw [q2], HT2.out, below_drewN HBk.out _⟩
                case measure => simp [RowKit.intOf]; omega
            · have d2 : decide ((k : Int) < (P : Int)) = false := decide_eq_false (by omega)
              have d2' : decide (k < P) = false := decide_eq_false hlk
              have HH2 : Hid (hb = decide (id ∈ B)) := by unfold Hid; rw [HH.out, List.take_of_length_le (by have := HP.out; omega)]
              clear HH
              have hb1 : hb = true := by rw [HH2.out]; exact decide_eq_true (HT1.out id HMI.out)
              subst hb1
              go_wp2_with fail
              go_roundw
              case rel => exact ⟨i + 1, hlt, by go_num, below_next HBk.out HBq.out⟩
              case measure => simp [RowKit.intOf]; omega
        · have d1 : decide ((i : Int) < (M : Int)) = false := decide_eq_false (by omega)
          have d1' : decide (i < M) = false := decide_eq_false hlt
          go_wp2_with fail
          go_loopw [12, 13, 14] (fun iv _ _ wp => ∃ p : Nat, p ≤ P ∧ iv = .int .i64 (p : Nat) ∧ Hid (Below w3.heap.size w3 wp)) (fun iv _ _ _ => P - (RowKit.intOf iv).toNat)
          case atStart => exact ⟨0, Nat.zero_le _, rfl, HBq.out⟩
          case round =>
            obtain ⟨p, hp, rfl, HBq⟩ := hrel
            by_cases hlp : p < P
            · have d3 : decide ((p : Int) < (P : Int)) = true := decide_eq_true (by omega)
              have d3' : decide (p < P) = true := decide_eq_true hlp
              have hpp : (p : Int) < (P : Int) := by omega
              have hpB : p < B.length := by rw [← HP.out]; exact hlp
              obtain ⟨ub, ob, e, hxb⟩ := RowG.at HUB.out hpB
              subst e
              clear hxb
              obtain ⟨wq, hwq⟩ : ∃ wq, wq = wr := ⟨_, rfl⟩
              subst hwq
              have xq : wq.cell? ⟨ub, ob + p, none⟩ = some (.int .u32 (B[p] : Nat)) := urow_cell HUB.out hpB HBq.out
              obtain ⟨kk, hkk2, hid, hdec, hsb⟩ := HT2a.out B[p] (List.getElem_mem hpB)
              obtain ⟨id, hidd⟩ : ∃ x, x = B[p] := ⟨_, rfl⟩
              rw [← hidd] at xq hid hdec hsb
              have HT2 : Hid (decide (id ∈ A) = decide (l[kk].beg ≤ now)) := hdec
              have HT3 : Hid (SayJ l id l[kk].beg = 2) := hsb
              have hkN : kk < N := by rw [HN.out]; exact hkk2
              have hidb : (id : Int) < 1000 := by omega
              have q1 : ((id : Int) == 0) = false := by simp; omega
              have q1' : (id == 0) = false := by simp; omega
              have q2 : decide ((id : Int) > (N : Int)) = false := decide_eq_false (by omega)
              have q2' : decide (N < id) = false := decide_eq_false (by omega)
              have hk1 : IntKind.u32.wrap ((id : Int) - 1) = (kk : Int) := by
                have : (id : Int) - 1 = (kk : Int) := by omega
                rw [this]; exact Int.emod_eq_of_lt (by omega) (by show _ < (4294967296 : Int); omega)
              have hkN2 : (kk : Int) < (N : Int) := by omega
              have hkd : decide ((kk : Int) < (N : Int)) = true := decide_eq_true hkN2
              have HRNa : ∀ w', Below w.heap.size w w' → ∃ b off, a = some ⟨b, off, none⟩ ∧ w'.rangeAt b (off + kk * 26) (jbV l[kk]) := fun w' hb => JRw.at HJ.out hb hkk2
              obtain ⟨bb, off, e, hx0⟩ := HRNa w (Below.refl _ _)
              subst e
              have HRN : Hid (∀ w', Below w.heap.size w w' → w'.rangeAt bb (off + kk * 26) (jbV l[kk])) := fun w' hb => by
                obtain ⟨b', o', e', h'⟩ := HRNa w' hb
                injection e' with e'; injection e' with e1 e2; subst e1; subst e2
                exact h'
              obtain ⟨jb, hjb⟩ : ∃ x, x = l[kk].beg := ⟨_, rfl⟩
              rw [← hjb] at HT2 HT3
              have HJB := Lib.hid hjb
              clear hx0 HRNa hjb hidd hid hdec hsb hpB hkN
              go_wp2_with fail
              go_loopw [13, 14] (fun hv kv wk => ∃ (k : Nat) (hb : Bool), k ≤ M ∧ kv = .int .i64 (k : Nat) ∧ hv = .bool hb ∧ Hid (hb = decide (id ∈ A.take k)) ∧ Hid (Below wq.heap.size wq wk)) (fun _ kv _ => M - (RowKit.intOf kv).toNat)
              case atStart => exact ⟨0, false, Nat.zero_le _, rfl, rfl, by unfold Hid; simp, Below.refl _ _⟩
              case round =>
                obtain ⟨k, hb, hk, rfl, rfl, HH, HBk⟩ := hrel
                by_cases hlk : k < M
                · have d2 : decide ((k : Int) < (M : Int)) = true := decide_eq_true (by omega)
                  have d2' : decide (k < M) = true := decide_eq_true hlk
                  have hkk : (k : Int) < (M : Int) := by omega
                  have hkl : k < A.length := by rw [← HM.out]; exact hlk
                  have HT : Hid (decide (id ∈ A.take (k + 1)) = (hb || decide (id = A[k]))) := by unfold Hid; rw [mem_take_succ hkl, HH.out]
                  obtain ⟨ua, oa, eu, hxu⟩ := RowG.at (HUA.out.kept HBq.out) hkl
                  subst eu
                  have u0 : wr.cell? ⟨ua, oa + k, none⟩ = some (.int .u32 (A[k] : Nat)) := by have := hxu wr HBk.out 0 _ rfl; simpa using this
                  clear hxu
                  have x0 := cell_next HBk.out xq
                  obtain ⟨y, hy⟩ : ∃ y, y = A[k] := ⟨_, rfl⟩
                  rw [← hy] at u0 HT
                  clear hy hkl
                  cases hb with
                  | true =>
                    have HT2 : Hid (true = decide (id ∈ A.take (k + 1))) := by unfold Hid; rw [HT.out]; rfl
                    clear HT HH u0 x0
                    go_wp2_with fail
                    go_quiet (fail)
                    go_wp2_with fail
                    go_roundw
                    case rel => exact ⟨k + 1, true, hlk, by go_num, rfl, HT2.out, below_drewN HBk.out _⟩
                    case measure => simp [RowKit.intOf]; omega
                  | false =>
                    obtain ⟨β, hβ⟩ : ∃ β, β = ((id : Int) == (y : Int)) := ⟨_, rfl⟩
                    obtain ⟨β2, hβ2⟩ : ∃ β, β = ((y : Int) == (id : Int)) := ⟨_, rfl⟩
                    have e1 : β = decide (id = y) := by rw [hβ, Bool.eq_iff_iff]; simp <;> omega
                    have e2 : β2 = β := by rw [hβ, hβ2, Bool.eq_iff_iff]; simp <;> omega
                    have q1 := hβ.symm
                    have q2 := hβ2.symm
                    rw [e2] at q2
                    have HT2 : Hid (β = decide (id ∈ A.take (k + 1))) := by unfold Hid; rw [HT.out, e1]; rfl
                    clear HT HH hβ hβ2 e1 e2
                    go_wp2_with fail
                    go_quiet (fail)
                    go_wp2_with fail
                    go_roundw
                    case rel => exact ⟨k + 1, β, hlk, by go_num, by first | rfl | rw [q1] | rw [q2], HT2.out, below_drewN HBk.out _⟩
                    case measure => simp [RowKit.intOf]; omega
                · have d2 : decide ((k : Int) < (M : Int)) = false := decide_eq_false (by omega)
                  have d2' : decide (k < M) = false := decide_eq_false hlk
                  have HH2 : Hid (hb = decide (id ∈ A)) := by unfold Hid; rw [HH.out, List.take_of_length_le (by have := HM.out; omega)]
                  clear HH
                  have HBkk := Lib.hid (below_next HBk.out HBq.out)
                  have HWk := Lib.hid (below_next HBkk.out HB3.out)
                  have hrg := HRN.out wr HWk.out
                  have x14 : wr.cell? ⟨bb, off + kk * 26 + 14, none⟩ = some (.int .i64 jb) := by rw [HJB.out]; exact hrg 14 _ rfl
                  have x0 := cell_next HBk.out xq
                  have hbeq : decide (jb > now) = !hb := by rw [HH2.out, HT2.out]; by_cases h : jb ≤ now <;> simp [h] <;> omega
                  have hbeq' : decide (now < jb) = !hb := hbeq
                  have SY : Hid (∀ w1, Below w.heap.size w w1 → Calls Try.prog 20 #[.slice (some ⟨bb, off, none⟩) N c, .int .u32 (id : Nat), .int .i64 jb] w1 fun e w' => e = .returned (.int .i64 2) ∧ Below w1.heap.size w1 w') := fun w1 hb => by rw [← HT3.out]; exact SA.out id jb w1 (by omega) hb
                  clear HH2 hrg
                  have HSAY := Lib.hid hbeq
                  cases hb with
                  | false =>
                    go_wp2_with fail
                    refine wp_region_held_drew (S := fun w' => w'.cell? ⟨ub, ob + p, none⟩ = some (.int .u32 (id : Nat)) ∧ w'.cell? ⟨bb, off + kk * 26 + 14, none⟩ = some (.int .i64 jb) ∧ Below w.heap.size w w') (by kernel_rfl) (by
                      first
                        | exact ⟨x0, x14, HWk.out.drew⟩
                      ) (fun hHeld => ?_)
                    refine wpAnyH_take (i := 0) (oi := { dst := some 116, op := Op.move (Operand.tmp 0), type := 22, pos := "more.go:35", after := #[], guard := none }) (v := ?_) rfl (by kernel_rfl) (by kernel_rfl) (by kernel_rfl) (fun _ _ _ h => h) (Or.inl ⟨by kernel_rfl, ?_⟩) (by assumption) ?_
                    rotate_left
                    · (intro w hSw; (try dsimp only at hSw); go_simp; try with_reducible rfl)
                    try simp only [Act.put, List.setIfInBounds_toArray, List.set_cons_zero, List.set_cons_succ]
                    refine wpAnyH_take (i := 1) (oi := { dst := some 117, op := Op.move (Operand.tmp 8), type := 45, pos := "more.go:35", after := #[], guard := none }) (v := ?_) rfl (by kernel_rfl) (by kernel_rfl) (by kernel_rfl) (fun _ _ _ h => h) (Or.inl ⟨by kernel_rfl, ?_⟩) (by assumption) ?_
                    rotate_left
                    · (intro w hSw; (try dsimp only at hSw); go_simp; try with_reducible rfl)
                    try simp only [Act.put, List.setIfInBounds_toArray, List.set_cons_zero, List.set_cons_succ]
                    refine wpAnyH_take (i := 2) (oi := { dst := some 118, op := Op.move (Operand.tmp 12), type := 3, pos := "more.go:35", after := #[], guard := none }) (v := ?_) rfl (by kernel_rfl) (by kernel_rfl) (by kernel_rfl) (fun _ _ _ h => h) (Or.inl ⟨by kernel_rfl, ?_⟩) (by assumption) ?_
                    rotate_left
                    · (intro w hSw; (try dsimp only at hSw); go_simp; try with_reducible rfl)
                    try simp only [Act.put, List.setIfInBounds_toArray, List.set_cons_zero, List.set_cons_succ]
                    refine wpAnyH_take (i := 3) (oi := { dst := some 119, op := Op.indexAddr 45 (Operand.tmp 117) (Operand.tmp 118), type := 0, pos := "more.go:35", after := #[{ on := 1, ground := Ground.data }, { on := 2, ground := Ground.data }], guard := none }) (v := ?_) rfl (by kernel_rfl) (by kernel_rfl) (by kernel_rfl) (fun _ _ _ h => h) (Or.inl ⟨by kernel_rfl, ?_⟩) (by assumption) ?_
                    rotate_left
                    · (intro w hSw; (try dsimp only at hSw); go_simp; try with_reducible rfl)
                    try simp only [Act.put, List.setIfInBounds_toArray, List.set_cons_zero, List.set_cons_succ]
                    refine wpAnyH_take (i := 4) (oi := { dst := some 120, op := Op.load 23 (Operand.tmp 119), type := 23, pos := "more.go:35", after := #[{ on := 3, ground := Ground.data }], guard := none }) (v := ?_) rfl (by kernel_rfl) (by kernel_rfl) (by kernel_rfl) (fun _ _ _ h => h) (Or.inl ⟨by kernel_rfl, ?_⟩) (by assumption) ?_
                    rotate_left
                    · (intro w hSw; (try dsimp only at hSw); go_simp; try with_reducible rfl)
                    try simp only [Act.put, List.setIfInBounds_toArray, List.set_cons_zero, List.set_cons_succ]
                    refine wpAnyH_take (i := 5) (oi := { dst := some 121, op := Op.move (Operand.tmp 0), type := 22, pos := "more.go:35", after := #[], guard := none }) (v := ?_) rfl (by kernel_rfl) (by kernel_rfl) (by kernel_rfl) (fun _ _ _ h => h) (Or.inl ⟨by kernel_rfl, ?_⟩) (by assumption) ?_
                    rotate_left
                    · (intro w hSw; (try dsimp only at hSw); go_simp; try with_reducible rfl)
                    try simp only [Act.put, List.setIfInBounds_toArray, List.set_cons_zero, List.set_cons_succ]
                    refine wpAnyH_take (i := 6) (oi := { dst := some 122, op := Op.move (Operand.tmp 8), type := 45, pos := "more.go:35", after := #[], guard := none }) (v := ?_) rfl (by kernel_rfl) (by kernel_rfl) (by kernel_rfl) (fun _ _ _ h => h) (Or.inl ⟨by kernel_rfl, ?_⟩) (by assumption) ?_
                    rotate_left
                    · (intro w hSw; (try dsimp only at hSw); go_simp; try with_reducible rfl)
                    try simp only [Act.put, List.setIfInBounds_toArray, List.set_cons_zero, List.set_cons_succ]
                    refine wpAnyH_take (i := 7) (oi := { dst := some 123, op := Op.move (Operand.tmp 12), type := 3, pos := "more.go:35", after := #[], guard := none }) (v := ?_) rfl (by kernel_rfl) (by kernel_rfl) (by kernel_rfl) (fun _ _ _ h => h) (Or.inl ⟨by kernel_rfl, ?_⟩) (by assumption) ?_
                    rotate_left
                    · (intro w hSw; (try dsimp only at hSw); go_simp; try with_reducible rfl)
                    try simp only [Act.put, List.setIfInBounds_toArray, List.set_cons_zero, List.set_cons_succ]
                    refine wpAnyH_take (i := 8) (oi := { dst := some 124, op := Op.indexAddr 45 (Operand.tmp 122) (Operand.tmp 123), type := 0, pos := "more.go:35", after := #[{ on := 6, ground := Ground.data }, { on := 7, ground := Ground.data }], guard := none }) (v := ?_) rfl (by kernel_rfl) (by kernel_rfl) (by kernel_rfl) (fun _ _ _ h => h) (Or.inl ⟨by kernel_rfl, ?_⟩) (by assumption) ?_
                    rotate_left
                    · (intro w hSw; (try dsimp only at hSw); go_simp; try with_reducible rfl)
                    try simp only [Act.put, List.setIfInBounds_toArray, List.set_cons_zero, List.set_cons_succ]
                    refine wpAnyH_take (i := 9) (oi := { dst := some 125, op := Op.load 23 (Operand.tmp 124), type := 23, pos := "more.go:35", after := #[{ on := 8, ground := Ground.data }], guard := none }) (v := ?_) rfl (by kernel_rfl) (by kernel_rfl) (by kernel_rfl) (fun _ _ _ h => h) (Or.inl ⟨by kernel_rfl, ?_⟩) (by assumption) ?_
                    rotate_left
                    · (intro w hSw; (try dsimp only at hSw); go_simp; try with_reducible rfl)
                    try simp only [Act.put, List.setIfInBounds_toArray, List.set_cons_zero, List.set_cons_succ]
                    refine wpAnyH_take (i := 10) (oi := { dst := some 126, op := Op.binOp BinOp.sub 23 (Operand.tmp 125) (Operand.const (Value.int IntKind.u32 1)) 23, type := 23, pos := "more.go:35", after := #[{ on := 9, ground := Ground.data }], guard := none }) (v := ?_) rfl (by kernel_rfl) (by kernel_rfl) (by kernel_rfl) (fun _ _ _ h => h) (Or.inl ⟨by kernel_rfl, ?_⟩) (by assumption) ?_
                    rotate_left
                    · (intro w hSw; (try dsimp only at hSw); go_simp; try with_reducible rfl)
                    try simp only [Act.put, List.setIfInBounds_toArray, List.set_cons_zero, List.set_cons_succ]
                    refine wpAnyH_take (i := 11) (oi := { dst := some 127, op := Op.indexAddr 22 (Operand.tmp 121) (Operand.tmp 126), type := 0, pos := "more.go:35", after := #[{ on := 5, ground := Ground.data }, { on := 10, ground := Ground.data }], guard := none }) (v := ?_) rfl (by kernel_rfl) (by kernel_rfl) (by kernel_rfl) (fun _ _ _ h => h) (Or.inl ⟨by kernel_rfl, ?_⟩) (by assumption) ?_
                    rotate_left
                    · (intro w hSw; (try dsimp only at hSw); go_simp; try with_reducible rfl)
                    try simp only [Act.put, List.setIfInBounds_toArray, List.set_cons_zero, List.set_cons_succ]
                    refine wpAnyH_take (i := 12) (oi := { dst := some 128, op := Op.fieldAddr 41 (Operand.tmp 127) 3, type := 0, pos := "more.go:35", after := #[{ on := 11, ground := Ground.data }], guard := none }) (v := ?_) rfl (by kernel_rfl) (by kernel_rfl) (by kernel_rfl) (fun _ _ _ h => h) (Or.inl ⟨by kernel_rfl, ?_⟩) (by assumption) ?_
                    rotate_left
                    · (intro w hSw; (try dsimp only at hSw); go_simp; try with_reducible rfl)
                    try simp only [Act.put, List.setIfInBounds_toArray, List.set_cons_zero, List.set_cons_succ]
                    refine wpAnyH_take (i := 13) (oi := { dst := some 129, op := Op.fieldAddr 37 (Operand.tmp 128) 9, type := 0, pos := "more.go:35", after := #[{ on := 12, ground := Ground.data }], guard := none }) (v := ?_) rfl (by kernel_rfl) (by kernel_rfl) (by kernel_rfl) (fun _ _ _ h => h) (Or.inl ⟨by kernel_rfl, ?_⟩) (by assumption) ?_
                    rotate_left
                    · (intro w hSw; (try dsimp only at hSw); go_simp; try with_reducible rfl)
                    try simp only [Act.put, List.setIfInBounds_toArray, List.set_cons_zero, List.set_cons_succ]
                    refine wpAnyH_take (i := 14) (oi := { dst := some 130, op := Op.load 3 (Operand.tmp 129), type := 3, pos := "more.go:35", after := #[{ on := 13, ground := Ground.data }], guard := none }) (v := ?_) rfl (by kernel_rfl) (by kernel_rfl) (by kernel_rfl) (fun _ _ _ h => h) (Or.inl ⟨by kernel_rfl, ?_⟩) (by assumption) ?_
                    rotate_left
                    · (intro w hSw; (try dsimp only at hSw); go_simp; try with_reducible rfl)
                    try simp only [Act.put, List.setIfInBounds_toArray, List.set_cons_zero, List.set_cons_succ]
                    refine wpAnyH_ready (rs := [15]) (by kernel_rfl) (by simp) ?_
                    refine AllReadyH.cons (o := { dst := some 131, op := Op.call { callee := Callee.value (Operand.func 20), args := #[Operand.tmp 116, Operand.tmp 120, Operand.tmp 130], argTypes := #[22, 23, 3] }, type := 3, pos := "more.go:35", after := #[{ on := 0, ground := Ground.data }, { on := 4, ground := Ground.data }, { on := 14, ground := Ground.data }], guard := none }) rfl (fun K hK => ?_) AllReadyH.nil
                    go_simp
                    (with_reducible refine (SY.out _ hHeld.2.2).mono ?_)
                    rintro e w5 ⟨rfl, b5⟩
                    have HB27 := Lib.hid (below_next b5 (below_next HBk.out HBq.out).drew)
                    try go_wp2_with fail
                    refine hK.out _ _ ?_ (fun hHeld => ?_)
                    · first
                        | (rcases hHeld with ⟨g0, g1, g2⟩; exact ⟨cell_next b5 g0, cell_next b5 g1, below_next b5 g2⟩)
                    clear hK K
                    try simp only [Act.put, List.setIfInBounds_toArray, List.set_cons_zero, List.set_cons_succ]
                    refine wpAnyH_take (i := 16) (oi := { dst := some 132, op := Op.binOp BinOp.neq 3 (Operand.tmp 131) (Operand.const (Value.int IntKind.i64 2)) 3, type := 4, pos := "more.go:35", after := #[{ on := 15, ground := Ground.data }], guard := none }) (v := ?_) rfl (by kernel_rfl) (by kernel_rfl) (by kernel_rfl) (fun _ _ _ h => h) (Or.inl ⟨by kernel_rfl, ?_⟩) (by assumption) ?_
                    rotate_left
                    · (intro w hSw; (try dsimp only at hSw); go_simp; try with_reducible rfl)
                    try simp only [Act.put, List.setIfInBounds_toArray, List.set_cons_zero, List.set_cons_succ]
                    refine wpAnyH_done (by kernel_rfl) ?_ _
                    clear hHeld b5
                    go_wp2_with fail
                    go_roundw
                    case rel => exact ⟨p + 1, hlp, by go_num, HB27.out⟩
                    case measure => simp [RowKit.intOf]; omega
                  | true =>
                    go_wp2_with fail
                    refine wp_region_held_drew (S := fun w' => w'.cell? ⟨ub, ob + p, none⟩ = some (.int .u32 (id : Nat)) ∧ w'.cell? ⟨bb, off + kk * 26 + 14, none⟩ = some (.int .i64 jb) ∧ Below w.heap.size w w') (by kernel_rfl) (by
                      first
                        | exact ⟨x0, x14, HWk.out.drew⟩
                      ) (fun hHeld => ?_)
                    refine wpAnyH_take (i := 0) (oi := { dst := some 116, op := Op.move (Operand.tmp 0), type := 22, pos := "more.go:35", after := #[], guard := none }) (v := ?_) rfl (by kernel_rfl) (by kernel_rfl) (by kernel_rfl) (fun _ _ _ h => h) (Or.inl ⟨by kernel_rfl, ?_⟩) (by assumption) ?_
                    rotate_left
                    · (intro w hSw; (try dsimp only at hSw); go_simp; try with_reducible rfl)
                    try simp only [Act.put, List.setIfInBounds_toArray, List.set_cons_zero, List.set_cons_succ]
                    refine wpAnyH_take (i := 1) (oi := { dst := some 117, op := Op.move (Operand.tmp 8), type := 45, pos := "more.go:35", after := #[], guard := none }) (v := ?_) rfl (by kernel_rfl) (by kernel_rfl) (by kernel_rfl) (fun _ _ _ h => h) (Or.inl ⟨by kernel_rfl, ?_⟩) (by assumption) ?_
                    rotate_left
                    · (intro w hSw; (try dsimp only at hSw); go_simp; try with_reducible rfl)
                    try simp only [Act.put, List.setIfInBounds_toArray, List.set_cons_zero, List.set_cons_succ]
                    refine wpAnyH_take (i := 2) (oi := { dst := some 118, op := Op.move (Operand.tmp 12), type := 3, pos := "more.go:35", after := #[], guard := none }) (v := ?_) rfl (by kernel_rfl) (by kernel_rfl) (by kernel_rfl) (fun _ _ _ h => h) (Or.inl ⟨by kernel_rfl, ?_⟩) (by assumption) ?_
                    rotate_left
                    · (intro w hSw; (try dsimp only at hSw); go_simp; try with_reducible rfl)
                    try simp only [Act.put, List.setIfInBounds_toArray, List.set_cons_zero, List.set_cons_succ]
                    refine wpAnyH_take (i := 3) (oi := { dst := some 119, op := Op.indexAddr 45 (Operand.tmp 117) (Operand.tmp 118), type := 0, pos := "more.go:35", after := #[{ on := 1, ground := Ground.data }, { on := 2, ground := Ground.data }], guard := none }) (v := ?_) rfl (by kernel_rfl) (by kernel_rfl) (by kernel_rfl) (fun _ _ _ h => h) (Or.inl ⟨by kernel_rfl, ?_⟩) (by assumption) ?_
                    rotate_left
                    · (intro w hSw; (try dsimp only at hSw); go_simp; try with_reducible rfl)
                    try simp only [Act.put, List.setIfInBounds_toArray, List.set_cons_zero, List.set_cons_succ]
                    refine wpAnyH_take (i := 4) (oi := { dst := some 120, op := Op.load 23 (Operand.tmp 119), type := 23, pos := "more.go:35", after := #[{ on := 3, ground := Ground.data }], guard := none }) (v := ?_) rfl (by kernel_rfl) (by kernel_rfl) (by kernel_rfl) (fun _ _ _ h => h) (Or.inl ⟨by kernel_rfl, ?_⟩) (by assumption) ?_
                    rotate_left
                    · (intro w hSw; (try dsimp only at hSw); go_simp; try with_reducible rfl)
                    try simp only [Act.put, List.setIfInBounds_toArray, List.set_cons_zero, List.set_cons_succ]
                    refine wpAnyH_take (i := 5) (oi := { dst := some 121, op := Op.move (Operand.tmp 0), type := 22, pos := "more.go:35", after := #[], guard := none }) (v := ?_) rfl (by kernel_rfl) (by kernel_rfl) (by kernel_rfl) (fun _ _ _ h => h) (Or.inl ⟨by kernel_rfl, ?_⟩) (by assumption) ?_
                    rotate_left
                    · (intro w hSw; (try dsimp only at hSw); go_simp; try with_reducible rfl)
                    try simp only [Act.put, List.setIfInBounds_toArray, List.set_cons_zero, List.set_cons_succ]
                    refine wpAnyH_take (i := 6) (oi := { dst := some 122, op := Op.move (Operand.tmp 8), type := 45, pos := "more.go:35", after := #[], guard := none }) (v := ?_) rfl (by kernel_rfl) (by kernel_rfl) (by kernel_rfl) (fun _ _ _ h => h) (Or.inl ⟨by kernel_rfl, ?_⟩) (by assumption) ?_
                    rotate_left
                    · (intro w hSw; (try dsimp only at hSw); go_simp; try with_reducible rfl)
                    try simp only [Act.put, List.setIfInBounds_toArray, List.set_cons_zero, List.set_cons_succ]
                    refine wpAnyH_take (i := 7) (oi := { dst := some 123, op := Op.move (Operand.tmp 12), type := 3, pos := "more.go:35", after := #[], guard := none }) (v := ?_) rfl (by kernel_rfl) (by kernel_rfl) (by kernel_rfl) (fun _ _ _ h => h) (Or.inl ⟨by kernel_rfl, ?_⟩) (by assumption) ?_
                    rotate_left
                    · (intro w hSw; (try dsimp only at hSw); go_simp; try with_reducible rfl)
                    try simp only [Act.put, List.setIfInBounds_toArray, List.set_cons_zero, List.set_cons_succ]
                    refine wpAnyH_take (i := 8) (oi := { dst := some 124, op := Op.indexAddr 45 (Operand.tmp 122) (Operand.tmp 123), type := 0, pos := "more.go:35", after := #[{ on := 6, ground := Ground.data }, { on := 7, ground := Ground.data }], guard := none }) (v := ?_) rfl (by kernel_rfl) (by kernel_rfl) (by kernel_rfl) (fun _ _ _ h => h) (Or.inl ⟨by kernel_rfl, ?_⟩) (by assumption) ?_
                    rotate_left
                    · (intro w hSw; (try dsimp only at hSw); go_simp; try with_reducible rfl)
                    try simp only [Act.put, List.setIfInBounds_toArray, List.set_cons_zero, List.set_cons_succ]
                    refine wpAnyH_take (i := 9) (oi := { dst := some 125, op := Op.load 23 (Operand.tmp 124), type := 23, pos := "more.go:35", after := #[{ on := 8, ground := Ground.data }], guard := none }) (v := ?_) rfl (by kernel_rfl) (by kernel_rfl) (by kernel_rfl) (fun _ _ _ h => h) (Or.inl ⟨by kernel_rfl, ?_⟩) (by assumption) ?_
                    rotate_left
                    · (intro w hSw; (try dsimp only at hSw); go_simp; try with_reducible rfl)
                    try simp only [Act.put, List.setIfInBounds_toArray, List.set_cons_zero, List.set_cons_succ]
                    refine wpAnyH_take (i := 10) (oi := { dst := some 126, op := Op.binOp BinOp.sub 23 (Operand.tmp 125) (Operand.const (Value.int IntKind.u32 1)) 23, type := 23, pos := "more.go:35", after := #[{ on := 9, ground := Ground.data }], guard := none }) (v := ?_) rfl (by kernel_rfl) (by kernel_rfl) (by kernel_rfl) (fun _ _ _ h => h) (Or.inl ⟨by kernel_rfl, ?_⟩) (by assumption) ?_
                    rotate_left
                    · (intro w hSw; (try dsimp only at hSw); go_simp; try with_reducible rfl)
                    try simp only [Act.put, List.setIfInBounds_toArray, List.set_cons_zero, List.set_cons_succ]
                    refine wpAnyH_take (i := 11) (oi := { dst := some 127, op := Op.indexAddr 22 (Operand.tmp 121) (Operand.tmp 126), type := 0, pos := "more.go:35", after := #[{ on := 5, ground := Ground.data }, { on := 10, ground := Ground.data }], guard := none }) (v := ?_) rfl (by kernel_rfl) (by kernel_rfl) (by kernel_rfl) (fun _ _ _ h => h) (Or.inl ⟨by kernel_rfl, ?_⟩) (by assumption) ?_
                    rotate_left
                    · (intro w hSw; (try dsimp only at hSw); go_simp; try with_reducible rfl)
                    try simp only [Act.put, List.setIfInBounds_toArray, List.set_cons_zero, List.set_cons_succ]
                    refine wpAnyH_take (i := 12) (oi := { dst := some 128, op := Op.fieldAddr 41 (Operand.tmp 127) 3, type := 0, pos := "more.go:35", after := #[{ on := 11, ground := Ground.data }], guard := none }) (v := ?_) rfl (by kernel_rfl) (by kernel_rfl) (by kernel_rfl) (fun _ _ _ h => h) (Or.inl ⟨by kernel_rfl, ?_⟩) (by assumption) ?_
                    rotate_left
                    · (intro w hSw; (try dsimp only at hSw); go_simp; try with_reducible rfl)
                    try simp only [Act.put, List.setIfInBounds_toArray, List.set_cons_zero, List.set_cons_succ]
                    refine wpAnyH_take (i := 13) (oi := { dst := some 129, op := Op.fieldAddr 37 (Operand.tmp 128) 9, type := 0, pos := "more.go:35", after := #[{ on := 12, ground := Ground.data }], guard := none }) (v := ?_) rfl (by kernel_rfl) (by kernel_rfl) (by kernel_rfl) (fun _ _ _ h => h) (Or.inl ⟨by kernel_rfl, ?_⟩) (by assumption) ?_
                    rotate_left
                    · (intro w hSw; (try dsimp only at hSw); go_simp; try with_reducible rfl)
                    try simp only [Act.put, List.setIfInBounds_toArray, List.set_cons_zero, List.set_cons_succ]
                    refine wpAnyH_take (i := 14) (oi := { dst := some 130, op := Op.load 3 (Operand.tmp 129), type := 3, pos := "more.go:35", after := #[{ on := 13, ground := Ground.data }], guard := none }) (v := ?_) rfl (by kernel_rfl) (by kernel_rfl) (by kernel_rfl) (fun _ _ _ h => h) (Or.inl ⟨by kernel_rfl, ?_⟩) (by assumption) ?_
                    rotate_left
                    · (intro w hSw; (try dsimp only at hSw); go_simp; try with_reducible rfl)
                    try simp only [Act.put, List.setIfInBounds_toArray, List.set_cons_zero, List.set_cons_succ]
                    refine wpAnyH_ready (rs := [15]) (by kernel_rfl) (by simp) ?_
                    refine AllReadyH.cons (o := { dst := some 131, op := Op.call { callee := Callee.value (Operand.func 20), args := #[Operand.tmp 116, Operand.tmp 120, Operand.tmp 130], argTypes := #[22, 23, 3] }, type := 3, pos := "more.go:35", after := #[{ on := 0, ground := Ground.data }, { on := 4, ground := Ground.data }, { on := 14, ground := Ground.data }], guard := none }) rfl (fun K hK => ?_) AllReadyH.nil
                    go_simp
                    (with_reducible refine (SY.out _ hHeld.2.2).mono ?_)
                    rintro e w5 ⟨rfl, b5⟩
                    have HB27 := Lib.hid (below_next b5 (below_next HBk.out HBq.out).drew)
                    try go_wp2_with fail
                    refine hK.out _ _ ?_ (fun hHeld => ?_)
                    · first
                        | (rcases hHeld with ⟨g0, g1, g2⟩; exact ⟨cell_next b5 g0, cell_next b5 g1, below_next b5 g2⟩)
                    clear hK K
                    try simp only [Act.put, List.setIfInBounds_toArray, List.set_cons_zero, List.set_cons_succ]
                    refine wpAnyH_take (i := 16) (oi := { dst := some 132, op := Op.binOp BinOp.neq 3 (Operand.tmp 131) (Operand.const (Value.int IntKind.i64 2)) 3, type := 4, pos := "more.go:35", after := #[{ on := 15, ground := Ground.data }], guard := none }) (v := ?_) rfl (by kernel_rfl) (by kernel_rfl) (by kernel_rfl) (fun _ _ _ h => h) (Or.inl ⟨by kernel_rfl, ?_⟩) (by assumption) ?_
                    rotate_left
                    · (intro w hSw; (try dsimp only at hSw); go_simp; try with_reducible rfl)
                    try simp only [Act.put, List.setIfInBounds_toArray, List.set_cons_zero, List.set_cons_succ]
                    refine wpAnyH_done (by kernel_rfl) ?_ _
                    clear hHeld b5
                    go_wp2_with fail
                    go_roundw
                    case rel => exact ⟨p + 1, hlp, by go_num, HB27.out⟩
                    case measure => simp [RowKit.intOf]; omega
            · have d3 : decide ((p : Int) < (P : Int)) = false := decide_eq_false (by omega)
              have d3' : decide (p < P) = false := decide_eq_false hlp
              go_wp2_with fail
              go_loopw [15] (fun iv wi => ∃ i : Nat, i ≤ N ∧ iv = .int .i64 (i : Nat) ∧ Hid (Below w.heap.size w wi)) (fun iv _ => N - (RowKit.intOf iv).toNat)
              case atStart => exact ⟨0, Nat.zero_le _, rfl, below_next HBq.out HB3.out⟩
              case round =>
                obtain ⟨i, hi, rfl, HBi⟩ := hrel
                by_cases hlN : i < N
                · have d4 : decide ((i : Int) < (N : Int)) = true := decide_eq_true (by omega)
                  have d4' : decide (i < N) = true := decide_eq_true hlN
                  have w32 : IntKind.u32.wrap ((i : Int) + 1) = ((i + 1 : Nat) : Int) := by rw [show ((i : Int) + 1) = ((i + 1 : Nat) : Int) by omega]; exact Int.emod_eq_of_lt (by omega) (by show _ < (4294967296 : Int); omega)
                  have hsay := HT4.out i (by rw [← HN.out]; exact hlN)
                  have S1 := Lib.hid (SA.out (i + 1) now wr (by omega) HBi.out)
                  have S2 : Hid (∀ w1, Below w.heap.size w w1 → Calls Try.prog 20 #[.slice a N c, .int .u32 ((i + 1 : Nat) : Nat), .int .i64 (now + lt)] w1 fun e w' => e = .returned (.int .i64 (SayJ l (i + 1) (now + lt))) ∧ Below w1.heap.size w1 w') := fun w1 hb => SA.out (i + 1) (now + lt) w1 (by omega) hb
                  obtain ⟨s1, hs1⟩ : ∃ x, x = SayJ l (i + 1) now := ⟨_, rfl⟩
                  obtain ⟨s2, hs2⟩ : ∃ x, x = SayJ l (i + 1) (now + lt) := ⟨_, rfl⟩
                  rw [← hs1] at S1 hsay
                  rw [← hs2] at S2 hsay
                  obtain ⟨I1, hI1⟩ : ∃ x, x = i + 1 := ⟨_, rfl⟩
                  rw [← hI1] at w32 S1 S2
                  obtain ⟨β, hβ⟩ : ∃ β, β = (s1 == 3) := ⟨_, rfl⟩
                  rw [← hβ] at hsay
                  have e1 := hβ.symm
                  have e2 := hsay.symm
                  clear hs1 hs2 hI1 hβ hsay
                  go_wp2_with fail
                  refine S1.out.mono ?_; rintro e w5 ⟨rfl, b5⟩
                  have HB5 := Lib.hid (below_next b5 HBi.out)
                  clear b5 S1
                  go_wp2_with fail
                  refine (S2.out _ HB5.out).mono ?_; rintro e w6 ⟨rfl, b6⟩
                  have HB6 := Lib.hid (below_next b6 HB5.out)
                  clear b6 S2
                  cases β with
                  | true =>
                    go_wp2_with fail
                    go_roundw
                    case rel => exact ⟨i + 1, hlN, by go_num, HB6.out⟩
                    case measure => simp [RowKit.intOf]; omega
                  | false =>
                    go_wp2_with fail
                    go_roundw
                    case rel => exact ⟨i + 1, hlN, by go_num, HB6.out⟩
                    case measure => simp [RowKit.intOf]; omega
                · have d4 : decide ((i : Int) < (N : Int)) = false := decide_eq_false (by omega)
                  have d4' : decide (i < N) = false := decide_eq_false hlN
                  go_wp2_with fail
                  refine (K.out _).mono ?_; rintro e w11 ⟨rfl, b11⟩
                  have HB11 := below_next b11 HBi.out
                  clear b11
                  go_wp2_with fail
                  go_ret
                  exact ⟨by simp, HB11⟩


set_option maxRecDepth 100000 in
theorem lifted (os : Os) (started : os.Started) (H : Type) (enc : TypeId × Value → H) :
    ReturnsInHanded {} Try.checked os 9 .any (Rows.waitsTimeSpec.pre6 enc Try.prog Try.f9 Rows.waitsTimeRow.domain false) (Rows.waitsTimeSpec.post enc Try.prog Try.f9 false true false false) := by
  refine returnsInHanded_of_change (C := Try.checked) own started (by kernel_rfl) Try.func9
    (ChangeSpec.witness6 (enc := enc) (C := Try.checked) false ⟨#[], #[.slice none 0 0, .int .i64 0, .int .u16 0], []⟩ 8 (by kernel_rfl) (by kernel_rfl) (by kernel_rfl) (by kernel_rfl)) ?_
  intro W base args ds gs before hval0 hW _ _
  have hval : ∀ (j : Nat) t v, Try.f9.params[j]? = some t → args[j]? = some v → Value.okWide Try.prog W .any base t v := hval0
  have hW' := hW
  obtain ⟨p, q, hA0, hV, rfl, hfz, hnd⟩ := hW
  have hA : DataW.TrodAll enc Try.prog W 0 (fun _ => true) true Try.f9.params.toList args.toList ds p := hA0
  rw [Try.params9] at hA hval
  obtain ⟨v0, vs0, d0, ds0, p0, q0, hargs, rfl, rfl, h0, r0⟩ := trodAll_cons hA
  obtain ⟨v1, vs1, d1, ds1, p1, q1, rfl, rfl, rfl, h1, r1⟩ := trodAll_cons r0
  obtain ⟨v2, vs2, d2, ds2, p2, q2, rfl, rfl, rfl, h2, r2⟩ := trodAll_cons r1
  obtain ⟨rfl, rfl, rfl⟩ := trodAll_nil r2
  obtain rfl : args = #[v0, v1, v2] := by cases args; simp_all
  obtain ⟨l, w0⟩ := open_jobs_arg h0 (okWide_slice Try.underlying22 (hval 0 22 v0 rfl rfl))
  obtain ⟨now, rfl, rfl, rfl, w1⟩ := open_int Try.underlying3 (hval 1 3 v1 rfl rfl) h1
  obtain ⟨later, rfl, rfl, rfl, w2⟩ := open_int Try.underlying60 (hval 2 60 v2 rfl rfl) h2
  clear hA0 hval0
  refine (walk v0 l now later W w0 w1 w2).mono fun e W' ⟨he, hb⟩ => ?_
  subst he
  exact ⟨_, rfl, law_post (by kernel_rfl) (by kernel_rfl) rfl Try.underlying4 rfl hW' rfl hb⟩

theorem over : Rows.waitsTimeRow.holds Try.pinned (OpenSpec.ofChange Rows.waitsTimeSpec) :=
  OpenClaim.holds_of_wide 9 Try.f9 rfl rfl rfl rfl rfl rfl rfl ⟨rfl, rfl, rfl, rfl, rfl⟩ rfl rfl rfl rfl rfl (by kernel_rfl) Try.func9 (by kernel_rfl)
    (of_decide_eq_true (by kernel_rfl)) (by unfold Func.isWrapper; first | (rw [if_pos (by decide +kernel)]; kernel_rfl) | (rw [if_neg (by decide +kernel)]; exact ⟨rfl, rfl⟩))
    (fun os started H enc _ => lifted os started H enc)

theorem proved : Rows.WaitsTimeSaid :=
  over
#print axioms proved
end Go.Proofs.Ytfabjlhepadkpaa.waitsTime
