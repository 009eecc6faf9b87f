/-
  WaitsSingle: of jobs like one another that want to be alone at most one is ready, and none while one of them runs; who is ready neither ran nor was held: so the law returns true for every input.
-/
import Derived.Test.YtfabjlhepadkpaaWtNO
import Derived.Test.YtfabjlhepadkpaaWtP
import Derived.Test.YtfabjlhepadkpaaLaw
import Derived.Test.YtfabjlhepadkpaaWtQR
import Derived.Test.YtfabjlhepadkpaaRows
import Derived.Test.YtfabjlhepadkpaaArgs2
namespace Go.Proofs.Ytfabjlhepadkpaa.waitsSingle
open Go.ChangeShapes Go.WideShapes Go.ChangeAt Go.RowKit
set_option linter.unusedVariables false

theorem own : ownKnob Try.prog.godebug = none := by kernel_rfl

open Go Go.ChangeShapes Go.WideShapes Go.ChangeAt Go.RowKit Go.Lib
set_option maxRecDepth 100000 in
set_option maxHeartbeats 8000000 in
theorem walk (v : Value) (l : List Jb) (now : Int) (w : World) (h : JArg w v l) (hnow : (Lit.int .i64 now).wf = true) :
    Calls Try.prog 5 #[v, .int .i64 now] w fun e w' => e = .returned (.bool true) ∧ Below w.heap.size w w' := by
  have MN := Lib.hid (many14_any v l w h)
  have K : Hid (∀ w1, Calls Try.prog 11 #[] w1 fun e w' => e = .returned (.bool true) ∧ Below w1.heap.size w1 w') := known14_any
  have HL := Lib.hid h
  obtain ⟨a, c, rfl⟩ := h.row.slice
  obtain ⟨N, hN⟩ : ∃ N, N = l.length := ⟨_, rfl⟩
  rw [← hN] at MN ⊢
  have HN := Lib.hid hN
  clear h hN hnow
  go_enter Try.func5, Try.ntmps5
  go_wp2_with fail
  refine MN.out.mono ?_; rintro e w1 ⟨hm, b1⟩
  have HB1 := Lib.hid b1
  clear b1 MN
  rcases hm with rfl | ⟨rfl, hf⟩
  · go_wp2_with fail
    refine (K.out _).mono ?_; rintro e w2 ⟨rfl, b2⟩
    have HB2 := below_next b2 HB1.out
    clear b2
    go_wp2_with fail
    go_ret
    exact ⟨rfl, HB2⟩
  · have HJ := Lib.hid (HL.out.few hf)
    have hlen : N ≤ 60 := by rw [HN.out]; exact hf.1
    have CA : Hid (∀ w1, Below w.heap.size w w1 → Calls Try.prog 12 #[.slice a N c] w1 fun e w' => e = .returned (.int .i64 (chkJ l)) ∧ Below w1.heap.size w1 w') := fun w1 hb => by rw [HN.out]; exact wcheck_any _ l w1 (HJ.out.kept hb)
    cases hck : okJs l with
    | false =>
      rw [notJs_chk hck] at CA
      go_wp2_with fail
      refine (CA.out _ HB1.out).mono ?_; rintro e w2 ⟨rfl, b2⟩
      have HB2 := Lib.hid (below_next b2 HB1.out)
      clear b2
      go_wp2_with fail
      refine (K.out _).mono ?_; rintro e w3 ⟨rfl, b3⟩
      have HB3 := below_next b3 HB2.out
      clear b3
      go_wp2_with fail
      go_ret
      exact ⟨rfl, HB3⟩
    | true =>
      rw [okJs_chk hck] at CA
      have HCK := Lib.hid hck
      have HA : Hid ((listJ l now 2).length ≤ 60) := by rw [HN.out] at hlen; exact Nat.le_trans (listJ_len _ _ _) hlen
      have HME : Hid (∀ id ∈ listJ l now 2, ∃ i, ∃ h : i < l.length, id = i + 1 ∧ sayJ l l[i] now = 2) := fun id hid => (mem_listJ hck).1 hid
      have RD : Hid (∀ w1, Below w.heap.size w w1 → Calls Try.prog 22 #[.slice a N c, .int .i64 now] w1 fun e w' => (∃ v', e = .returned v' ∧ UOwn w' w1.heap.size v' (listJ l now 2)) ∧ Below w1.heap.size w1 w') := fun w1 hb => by rw [HN.out]; exact ready_any _ l now w1 (HJ.out.kept hb)
      obtain ⟨A, hA⟩ : ∃ A, A = listJ l now 2 := ⟨_, rfl⟩
      rw [← hA] at RD HA HME
      clear hA hck hf
      go_wp2_with fail
      refine (CA.out _ HB1.out).mono ?_; rintro e w2 ⟨rfl, b2⟩
      have HB2 := Lib.hid (below_next b2 HB1.out)
      clear b2 CA
      go_wp2_with fail
      refine (RD.out _ HB2.out).mono ?_; rintro e w3 ⟨⟨va, rfl, ho3⟩, b3⟩
      obtain ⟨aa, ac, rfl⟩ := own_slice ho3
      have HB3 := Lib.hid (below_next b3 HB2.out)
      have hu3 := urow_of_own ho3
      obtain ⟨M, hM⟩ : ∃ M, M = A.length := ⟨_, rfl⟩
      rw [← hM] at hu3 ⊢
      have HU3 := Lib.hid hu3
      have HM := Lib.hid hM
      have hM60 : M ≤ 60 := by rw [hM]; exact HA.out
      clear b3 ho3 hu3 hM RD
      go_wp2_with fail
      go_loopw [6, 7, 8, 9, 10] (fun iv _ _ _ _ wr => ∃ i : Nat, i ≤ M ∧ iv = .int .i64 (i : Nat) ∧ Hid (Below w3.heap.size w3 wr)) (fun iv _ _ _ _ _ => M - (RowKit.intOf iv).toNat)
      case atStart => exact ⟨0, Nat.zero_le _, rfl, Below.refl _ _⟩
      case round =>
        obtain ⟨i, hi, rfl, HB⟩ := hrel
        have HBw := Lib.hid (below_next HB.out HB3.out)
        by_cases hlt : i < M
        · have d1 : decide ((i : Int) < (M : Int)) = true := decide_eq_true (by omega)
          have d1' : decide (i < M) = true := decide_eq_true hlt
          have hii : (i : Int) < (M : Int) := by omega
          have hiA : i < A.length := by rw [← HM.out]; exact hlt
          have hUr := HU3.out.kept HB.out
          obtain ⟨ub, uo, e, hcu⟩ := RowG.at hUr hiA
          subst e
          have x0 : wr.cell? ⟨ub, uo + i, none⟩ = some (.int .u32 (A[i] : Nat)) := by have := hcu wr (Below.refl _ _) 0 _ rfl; simpa using this
          obtain ⟨k, hkl, hid, hsay⟩ := HME.out A[i] (List.getElem_mem hiA)
          obtain ⟨hhow, hbeg, hx1, hx2⟩ := ready_facts hsay
          clear hx1 hx2
          have HSAY := Lib.hid hsay
          obtain ⟨id, hidd⟩ : ∃ x, x = A[i] := ⟨_, rfl⟩
          rw [← hidd] at x0 hid
          have hkN : k < N := by rw [HN.out]; exact hkl
          have hidb : (id : Int) < 1000 := by omega
          have q1 : ((id : Int) == 0) = false := by simp; omega
          have q1' : (id == 0) = false := by simp; omega
          have q2 : decide ((id : Int) > (N : Int)) = false := decide_eq_false (by omega)
          have q2' : decide (N < id) = false := decide_eq_false (by omega)
          have hk1 : IntKind.u32.wrap ((id : Int) - 1) = (k : Int) := by
            have : (id : Int) - 1 = (k : Int) := by omega
            rw [this]; exact Int.emod_eq_of_lt (by omega) (by show _ < (4294967296 : Int); omega)
          have hkN2 : (k : Int) < (N : Int) := by omega
          have hkd : decide ((k : Int) < (N : Int)) = true := decide_eq_true hkN2
          obtain ⟨bb, off, e, hrg⟩ := JRw.at HJ.out HBw.out hkl
          subst e
          have hone := HJ.out.one (List.getElem_mem hkl)
          have HMEM := Lib.hid (List.getElem_mem hkl)
          obtain ⟨ja, hja⟩ : ∃ j, j = l[k] := ⟨_, rfl⟩
          rw [← hja] at hrg hone HMEM HSAY hhow hbeg
          obtain ⟨W, hW⟩ : ∃ W, W = wr.alloc (.cells (jbC ja) 41) := ⟨_, rfl⟩
          obtain ⟨ga, hga⟩ : ∃ g, g = wr.heap.size := ⟨_, rfl⟩
          have hbW : Below wr.heap.size wr W := by rw [hW]; exact (Below.refl _ _).alloc (Nat.le_refl _) _
          have hbn : Blk W ga (jbC ja) 41 := by rw [hW, hga]; exact Blk.new _ _ _
          have HBW := Lib.hid (below_next hbW HB.out)
          have HKA := Lib.hid hbn
          have y19 : W.cell? ⟨ga, 19, none⟩ = some (.int .i64 1) := by rw [← hhow]; exact blk_jb hbn 19
          have y14 : W.cell? ⟨ga, 14, none⟩ = some (.int .i64 ja.beg) := blk_jb hbn 14
          have HNA := Lib.hid (HJ.out.nds _ HMEM.out)
          have HSA := Lib.hid hone
          obtain ⟨jb, hjb⟩ : ∃ x, x = ja.beg := ⟨_, rfl⟩
          rw [← hjb] at y14 hbeg
          have q3 : decide (jb > now) = false := decide_eq_false (by omega)
          have q3' : decide (now < jb) = false := decide_eq_false (by omega)
          clear hbW hbn hja hsay hhow hbeg hjb hUr hcu hid hidd hkl hkN hiA
          go_upto_region 10 with (first | (refine ld_jb rfl _ rfl _ _ rfl _ hrg ?_) | (refine st_jb rfl _ _ rfl _ _ rfl rfl ja rfl rfl hone ?_))
          rw [← hW, ← hga]
          have HGA := Lib.hid hga
          clear hW hga hrg x0 hone
          go_wp2_with fail
          clear y19 y14
          go_loopw [8, 9, 10] (fun kv _ _ wi => ∃ q : Nat, q ≤ N ∧ kv = .int .i64 (q : Nat) ∧ Hid (Below W.heap.size W wi)) (fun kv _ _ _ => N - (RowKit.intOf kv).toNat)
          case atStart => exact ⟨0, Nat.zero_le _, rfl, Below.refl _ _⟩
          case round =>
            obtain ⟨q, hq, rfl, HBi⟩ := hrel
            have HB3i := Lib.hid (below_next HBi.out HBW.out)
            have HBwi := Lib.hid (below_next HB3i.out HB3.out)
            by_cases hlq : q < N
            · have d2 : decide ((q : Int) < (N : Int)) = true := decide_eq_true (by omega)
              have d2' : decide (q < N) = true := decide_eq_true hlq
              have hqq : (q : Int) < (N : Int) := by omega
              have hql : q < l.length := by rw [← HN.out]; exact hlq
              obtain ⟨bb', off', e, hrg⟩ := JRw.at HJ.out HBwi.out hql
              injection e with e; injection e with e1 e2; subst e1; subst e2
              have hone := HJ.out.one (List.getElem_mem hql)
              have hmb := List.getElem_mem hql
              have HIB : Hid (l[q].id = q + 1) := (okJs_iff.1 HCK.out q hql).1
              obtain ⟨jq, hjq⟩ : ∃ j, j = l[q] := ⟨_, rfl⟩
              have HJQ := Lib.hid hjq
              rw [← hjq] at hrg hone hmb HIB
              have HMB := Lib.hid hmb
              obtain ⟨V, hV⟩ : ∃ V, V = wr.alloc (.cells (jbC jq) 41) := ⟨_, rfl⟩
              obtain ⟨gb, hgb⟩ : ∃ g, g = wr.heap.size := ⟨_, rfl⟩
              have hbV : Below wr.heap.size wr V := by rw [hV]; exact (Below.refl _ _).alloc (Nat.le_refl _) _
              have hbn : Blk V gb (jbC jq) 41 := by rw [hV, hgb]; exact Blk.new _ _ _
              have HBV := Lib.hid (below_next hbV HBi.out)
              have hka := HKA.out.kept HBV.out
              have z0 : V.cell? ⟨gb, 0, none⟩ = some (.int .u32 (jq.id : Nat)) := blk_jb hbn 0
              have z19 : V.cell? ⟨gb, 19, none⟩ = some (.int .i64 jq.how) := blk_jb hbn 19
              have y0 : V.cell? ⟨ga, 0, none⟩ = some (.int .u32 (ja.id : Nat)) := blk_jb hka 0
              have HRA := Lib.hid (range_blk hka)
              have HRB := Lib.hid (range_blk hbn)
              have HBwV := Lib.hid (below_next (below_next hbV HB3i.out) HB3.out)
              have LK := Lib.hid (like_any ja jq V HSA.out hone (HNA.out.kept HBwV.out) ((HJ.out.nds _ hmb).kept HBwV.out))
              have HLR : Hid (likeJ ja jq = true → jq.id ≠ ja.id → ¬ (jq.how = 3 ∨ jq.how = 4) ∧ sayJ l jq now ≠ 2) := fun h1 h2 => like_ready HCK.out HMEM.out hmb HSAY.out h1 h2
              obtain ⟨β, hβ⟩ : ∃ β, β = likeJ ja jq := ⟨_, rfl⟩
              rw [← hβ] at LK HLR
              obtain ⟨ia, hia⟩ : ∃ x, x = ja.id := ⟨_, rfl⟩
              obtain ⟨ib, hib⟩ : ∃ x, x = jq.id := ⟨_, rfl⟩
              obtain ⟨hb, hhb⟩ : ∃ x, x = jq.how := ⟨_, rfl⟩
              rw [← hia] at y0 HLR
              rw [← hib] at z0 HLR HIB
              rw [← hhb] at z19 HLR
              clear hbV hbn hka hmb hjq hβ hia hib hhb
              go_upto_region 16 with (first | (refine ld_jb rfl _ rfl _ _ rfl _ hrg ?_) | (refine st_jb rfl _ _ rfl _ _ rfl rfl jq rfl rfl hone ?_))
              rw [← hV, ← hgb]
              clear hV hgb hrg hone
              by_cases he : ib = ia
              · have p1 : ((ib : Int) == (ia : Int)) = true := by simp; omega
                have p1' : (ib == ia) = true := by simp [he]
                clear HLR LK he
                go_wp2_with fail
                go_roundw
                case rel => exact ⟨q + 1, hlq, by go_num, HBV.out⟩
                case measure => simp [RowKit.intOf]; omega
              · have p1 : ((ib : Int) == (ia : Int)) = false := by simp; omega
                have p1' : (ib == ia) = false := by simp [he]
                have HNE := Lib.hid he
                clear he
                go_wp2_with (first | (refine ld_jbC (by rfl) _ rfl _ _ rfl _ HRA.out ?_) | (refine ld_jbC (by rfl) _ rfl _ _ rfl _ HRB.out ?_))
                refine LK.out.mono ?_; rintro e w5 ⟨rfl, b5⟩
                have HB5 := Lib.hid (below_next b5 HBV.out)
                have z0 := cell_next b5 z0
                have z19 := cell_next b5 z19
                clear LK HRA HRB y0
                cases β with
                | false =>
                  clear b5
                  go_wp2_with fail
                  go_roundw
                  case rel => exact ⟨q + 1, hlq, by go_num, HB5.out⟩
                  case measure => simp [RowKit.intOf]; omega
                | true =>
                  obtain ⟨hn34, hns⟩ := HLR.out rfl HNE.out
                  have p2 : (hb == 3) = false := by simp; exact fun e => hn34 (.inl e)
                  have p3 : (hb == 4) = false := by simp; exact fun e => hn34 (.inr e)
                  have HNS := Lib.hid hns
                  have hU5 := HU3.out.kept (below_next HB5.out HBW.out)
                  have HU5 := Lib.hid hU5
                  clear hn34 hns HLR b5 hU5
                  go_wp2_with fail
                  go_loopw [10] (fun jv wj => ∃ m : Nat, m ≤ M ∧ jv = .int .i64 (m : Nat) ∧ Hid (Below w5.heap.size w5 wj)) (fun jv _ => M - (RowKit.intOf jv).toNat)
                  case atStart => exact ⟨0, Nat.zero_le _, rfl, Below.refl _ _⟩
                  case round =>
                    obtain ⟨m, hm, rfl, HBj⟩ := hrel
                    by_cases hlm : m < M
                    · have d3 : decide ((m : Int) < (M : Int)) = true := decide_eq_true (by omega)
                      have d3' : decide (m < M) = true := decide_eq_true hlm
                      have hmm : (m : Int) < (M : Int) := by omega
                      have hmA : m < A.length := by rw [← HM.out]; exact hlm
                      obtain ⟨ub', uo', e, hcu⟩ := RowG.at (HU5.out.kept HBj.out) hmA
                      injection e with e; injection e with e1 e2; subst e1; subst e2
                      have u0 : wr.cell? ⟨ub, uo + m, none⟩ = some (.int .u32 (A[m] : Nat)) := by have := hcu wr (Below.refl _ _) 0 _ rfl; simpa using this
                      have z0j := cell_next HBj.out z0
                      have hne : A[m] ≠ ib := by
                        obtain ⟨k', hk', e1, e2⟩ := HME.out A[m] (List.getElem_mem hmA)
                        intro e
                        have : k' = q := by have := HIB.out; omega
                        subst this
                        exact HNS.out (by rw [HJQ.out]; exact e2)
                      obtain ⟨ai, hai⟩ : ∃ x, x = A[m] := ⟨_, rfl⟩
                      rw [← hai] at u0 hne
                      have p4 : ((ai : Int) == (ib : Int)) = false := by simp; omega
                      have p4' : (ai == ib) = false := by simp [hne]
                      clear hcu hne hai hmA
                      go_wp2_with fail
                      go_quiet (fail)
                      go_wp2_with fail
                      go_roundw
                      case rel => exact ⟨m + 1, hlm, by go_num, below_drewN HBj.out _⟩
                      case measure => simp [RowKit.intOf]; omega
                    · have d3 : decide ((m : Int) < (M : Int)) = false := decide_eq_false (by omega)
                      have d3' : decide (m < M) = false := decide_eq_false hlm
                      have HBE := Lib.hid (below_next HBj.out HB5.out)
                      go_wp2_with fail
                      go_roundw
                      case rel => exact ⟨q + 1, hlq, by go_num, HBE.out⟩
                      case measure => simp [RowKit.intOf]; omega
            · have d2 : decide ((q : Int) < (N : Int)) = false := decide_eq_false (by omega)
              have d2' : decide (q < N) = false := decide_eq_false hlq
              go_wp2_with fail
              go_roundw
              case rel => exact ⟨i + 1, hlt, by go_num, HB3i.out⟩
              case measure => simp [RowKit.intOf]; omega
        · have d1 : decide ((i : Int) < (M : Int)) = false := decide_eq_false (by omega)
          have d1' : decide (i < M) = false := decide_eq_false hlt
          go_wp2_with fail
          refine (K.out _).mono ?_; rintro e w11 ⟨rfl, b11⟩
          have HB11 := below_next b11 HBw.out
          clear b11
          go_wp2_with fail
          go_ret
          exact ⟨by simp, HB11⟩


set_option maxRecDepth 100000 in
theorem lifted (os : Os) (started : os.Started) (H : Type) (enc : TypeId × Value → H) :
    ReturnsInHanded {} Try.checked os 5 .any (Rows.waitsSingleSpec.pre6 enc Try.prog Try.f5 Rows.waitsSingleRow.domain false) (Rows.waitsSingleSpec.post enc Try.prog Try.f5 false true false false) := by
  refine returnsInHanded_of_change (C := Try.checked) own started (by kernel_rfl) Try.func5
    (ChangeSpec.witness6 (enc := enc) (C := Try.checked) false ⟨#[], #[.slice none 0 0, .int .i64 0], []⟩ 8 (by kernel_rfl) (by kernel_rfl) (by kernel_rfl) (by kernel_rfl)) ?_
  intro W base args ds gs before hval0 hW _ _
  have hval : ∀ (j : Nat) t v, Try.f5.params[j]? = some t → args[j]? = some v → Value.okWide Try.prog W .any base t v := hval0
  have hW' := hW
  obtain ⟨p, q, hA0, hV, rfl, hfz, hnd⟩ := hW
  have hA : DataW.TrodAll enc Try.prog W 0 (fun _ => true) true Try.f5.params.toList args.toList ds p := hA0
  rw [Try.params5] at hA hval
  obtain ⟨v0, vs0, d0, ds0, p0, q0, hargs, rfl, rfl, h0, r0⟩ := trodAll_cons hA
  obtain ⟨v1, vs1, d1, ds1, p1, q1, rfl, rfl, rfl, h1, r1⟩ := trodAll_cons r0
  obtain ⟨rfl, rfl, rfl⟩ := trodAll_nil r1
  obtain rfl : args = #[v0, v1] := by cases args; simp_all
  obtain ⟨l, w0⟩ := open_jobs_arg h0 (okWide_slice Try.underlying22 (hval 0 22 v0 rfl rfl))
  obtain ⟨now, rfl, rfl, rfl, w1⟩ := open_int Try.underlying3 (hval 1 3 v1 rfl rfl) h1
  clear hA0 hval0
  refine (walk v0 l now W w0 w1).mono fun e W' ⟨he, hb⟩ => ?_
  subst he
  exact ⟨_, rfl, law_post (by kernel_rfl) (by kernel_rfl) rfl Try.underlying4 rfl hW' rfl hb⟩

theorem over : Rows.waitsSingleRow.holds Try.pinned (OpenSpec.ofChange Rows.waitsSingleSpec) :=
  OpenClaim.holds_of_wide 5 Try.f5 rfl rfl rfl rfl rfl rfl rfl ⟨rfl, rfl, rfl, rfl, rfl⟩ rfl rfl rfl rfl rfl (by kernel_rfl) Try.func5 (by kernel_rfl)
    (of_decide_eq_true (by kernel_rfl)) (by unfold Func.isWrapper; first | (rw [if_pos (by decide +kernel)]; kernel_rfl) | (rw [if_neg (by decide +kernel)]; exact ⟨rfl, rfl⟩))
    (fun os started H enc _ => lifted os started H enc)

theorem proved : Rows.WaitsSingleSaid :=
  over
#print axioms proved
end Go.Proofs.Ytfabjlhepadkpaa.waitsSingle
