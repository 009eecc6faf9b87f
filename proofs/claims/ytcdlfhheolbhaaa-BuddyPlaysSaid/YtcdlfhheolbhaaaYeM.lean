/-
  Free: all free blocks, by their begins.
-/
import Derived.Test.YtcdlfhheolbhaaaYeL
namespace Go.Proofs.Ytcdlfhheolbhaaa
open Go Go.RowKit Go.Lib
set_option linter.unusedVariables false

theorem blkL_snoc (l : List Bk) (b : Bk) : blkL (l ++ [b]) = blkL l ++ blkC b := by rw [blkL_app]; simp [blkL]
/-- So far: all of the rows below k, and j of row k. -/
noncomputable def accJ (n : Nat) (op : Opn) (k j : Nat) : List Bk := accR n op k ++ ((frL n op k).take j).map fun s => (s, k)
theorem accJ_zero (n : Nat) (op : Opn) (k : Nat) : accJ n op k 0 = accR n op k := by unfold accJ; simp
theorem accJ_all (n : Nat) (op : Opn) (k : Nat) : accJ n op k (frL n op k).length = accR n op (k + 1) := by unfold accJ; rw [List.take_of_length_le (Nat.le_refl _), accR_succ]
theorem accJ_succ {n : Nat} {op : Opn} {k j : Nat} (h : j < (frL n op k).length) : accJ n op k (j + 1) = accJ n op k j ++ [((frL n op k)[j], k)] := by
  have e : (frL n op k).take (j + 1) = (frL n op k).take j ++ [(frL n op k)[j]] := by rw [List.take_add_one, List.getElem?_eq_getElem h]; rfl
  unfold accJ; rw [e, List.map_append, ← List.append_assoc]; rfl
theorem accJ_len {n : Nat} (h : n ≤ 10) (op : Opn) (k j : Nat) : (accJ n op k j).length ≤ (k + 1) * 1024 := by
  unfold accJ
  have h1 := accR_len h op k
  have h2 := frL_len h op k
  simp only [List.length_append, List.length_map, List.length_take]
  omega
def FreePost (n : Nat) (op : Opn) (w : World) (e : Ending) (w' : World) : Prop := ∃ v, e = .returned v ∧ BOwn w' w.heap.size v (freeL n op) ∧ Below w.heap.size w w'
set_option maxHeartbeats 4000000 in
set_option maxRecDepth 100000 in
theorem Free_any (y : Nat) (own : Nat → Prop) (n : Nat) (op : Opn) (tk : List Bk) (fl : List Nat) (w : World) (hY : YI w y own n op tk fl) :
    Calls Try.prog 17 #[.pointer (some ⟨y, 0, none⟩)] w fun e w' => FreePost n op w e w' := by
  have hn := hY.n10
  obtain ⟨i0, hi, hz0, hz1, hz2⟩ := info_parts Try.infoBk
  obtain ⟨A, hA, hAr⟩ := hY.rows
  have hyl := hY.lt
  have HAR := Lib.hid hAr
  obtain ⟨w0, hw0⟩ : ∃ w0, w0 = w.alloc (.cells #[] 45) := ⟨_, rfl⟩
  have hB0 : Below w.heap.size w w0 := by rw [hw0]; exact (Below.refl _ _).alloc (Nat.le_refl _) _
  have HB0 := Lib.hid hB0
  have HLD : Hid ((loadVar 63 ⟨y, 1, none⟩).run Try.prog (w.alloc (.cells #[] 45)) = .ok (.agg A) (w.alloc (.cells #[] 45))) := hA _ (fun o => by rw [← hw0]; exact (bcell hB0).1 y o hyl)
  have HO0 : Hid (BOwn w0 w.heap.size (.slice (some ⟨w.heap.size, 0, none⟩) 0 0) []) := by
    unfold Hid; rw [hw0]; exact World.ownsRow_made (e := 45) (size := 2) (base := w.heap.size) w #[] 0 (Nat.le_refl _) (Nat.zero_le _) (by simp)
  obtain ⟨B, hB⟩ : ∃ B, B = w.heap.size := ⟨_, rfl⟩
  clear hY hA hAr hB0
  go_enter Try.func17, Try.ntmps17
  go_wp2_with (refine wpList_load_cells rfl 63 _ rfl ⟨y, 1, none⟩ rfl _ HLD.out ?_)
  rw [← hw0, ← hB]
  rw [← hB] at HO0
  have HBW := Lib.hid hB
  clear hw0 hB HLD
  go_loopg [3, 15] 11 (fun gk vl i wr => ∃ (k : Nat) (la : Option Addr) (lc : Nat), gk + k = 11 ∧ i = .int .i64 k ∧ vl = .slice la (accR n op k).length lc ∧ Hid (BOwn wr B (.slice la (accR n op k).length lc) (accR n op k)) ∧ Hid (Below w.heap.size w wr))
  case atStart => exact ⟨0, _, _, rfl, rfl, rfl, HO0, HB0⟩
  case round =>
    obtain ⟨k, la, lc, hgk, rfl, rfl, HO, HB⟩ := hrel
    by_cases hlt : (k : Int) < 11
    · have hd : decide ((k : Int) < 11) = true := decide_eq_true hlt
      have hk11 : k < 11 := by omega
      obtain ⟨v, hAv, hrow⟩ := HAR.out k hk11
      have hix : (Instr.index 63 (.agg A) (.int .i64 (k : Nat))).run Try.prog wr = .ok v wr := run_index_arr Try.underlying63 hk11 (Try.isAgg23 wr) (Try.sizeOf23 wr) hAv
      obtain ⟨l, hl⟩ : ∃ l, l = frL n op k := ⟨_, rfl⟩
      have hlen := natI_len l
      rw [← hl] at hrow
      obtain ⟨va, vc, rfl⟩ := own_slice hrow
      rw [hlen] at hix
      have HROW := Lib.hid (nrow_of_own hrow)
      have HLL := Lib.hid hl
      have hl10 : l.length ≤ 1024 := by rw [hl]; exact frL_len hn op k
      clear hAv hrow hl
      obtain ⟨g1, hg1⟩ : ∃ g1, g1 = gk := ⟨_, rfl⟩
      have HG1 := Lib.hid hg1
      have hgk1 : g1 + k = 11 := by omega
      rw [hlen] at HROW
      have HO1 : Hid (BOwn wr B (.slice la (accR n op k).length lc) (accJ n op k 0)) := by rw [accJ_zero]; exact HO
      have hN0 : (accR n op k).length = (accJ n op k 0).length := by rw [accJ_zero]
      have HN0 := Lib.hid hN0
      generalize (accR n op k).length = N0 at *
      clear hg1 hlen HO hN0
      go_wp2_with fail
      go_loopg [3, 21] l.length (fun g2 vl j wi => ∃ (j' : Nat) (la : Option Addr) (lc N : Nat), g2 + j' = l.length ∧ j = .int .i64 j' ∧ vl = .slice la N lc ∧ Hid (N = (accJ n op k j').length) ∧ Hid (BOwn wi B (.slice la N lc) (accJ n op k j')) ∧ Hid (Below w.heap.size w wi))
      case atStart => exact ⟨0, la, lc, N0, by omega, rfl, rfl, HN0, HO1, HB⟩
      case round =>
        obtain ⟨j', la2, lc2, N, hg2, rfl, rfl, HN, HOi, HBi⟩ := hrel
        by_cases hlt2 : j' < l.length
        · have hd2 : decide (j' < l.length) = true := decide_eq_true hlt2
          have hji : (j' : Int) < (l.length : Int) := by omega
          rcases HROW.out with ⟨h0, _⟩ | ⟨bb, off, c, hv, _, _, _, _, hc⟩
          · have := natI_len l; rw [h0] at this; simp at this; omega
          · have hln := natI_len l
            have c0 := cell_next HBi.out (hc j' (by omega))
            rw [natI_at hlt2] at c0
            have hva : va = some ⟨bb, off, none⟩ := by injection hv
            subst hva
            obtain ⟨x, hx⟩ : ∃ x, x = l[j'] := ⟨_, rfl⟩
            rw [← hx] at c0
            have hstep : accJ n op k (j' + 1) = accJ n op k j' ++ [(x, k)] := by
              have hj2 : j' < (frL n op k).length := by rw [← HLL.out]; exact hlt2
              have e : (frL n op k)[j']'hj2 = l[j'] := by simp only [HLL.out]
              rw [accJ_succ hj2, e, hx]
            have HST := Lib.hid hstep
            have hNl : N ≤ 12 * 1024 := by have := accJ_len hn op k j'; have := HN.out; omega
            have hai : N = (accJ n op k j').length := HN.out
            have hB2 := HBi.out
            have HNEW : Hid (∀ q u, (blkC (x, k))[q]? = some u → (wr.alloc (.cells #[.int .i64 (x : Int), .int .i64 (k : Int)] 45)).cell? ((⟨wr.heap.size, 0, none⟩ : Addr).add q) = some u) := news_alloc wr (blkC (x, k)) 45
            have HOA : Hid ((wr.alloc (.cells #[.int .i64 (x : Int), .int .i64 (k : Int)] 45)).ownsRow B 45 2 (.slice la2 N lc2) N (blkL (accJ n op k j'))) := by
              have := HOi.out.alloc (.cells #[.int .i64 (x : Int), .int .i64 (k : Int)] 45)
              rw [← hai] at this; exact this
            have hbB : B ≤ wr.heap.size := by rw [HBW.out]; exact HBi.out.size
            clear hc hv hx hstep hln hai hB2
            go_wp2_with (at_builtin; refine wpList_append_own _ rfl _ _ 39 rfl B 45 i0 _ 2 16 Try.underlying39 hi hz0 hz1 hz2 rfl (by decide) _ _ _ rfl HOA.out _ 1 1 (blkC (x, k)) rfl rfl HNEW.out (by intro u hu; simp [blkC] at hu; rcases hu with rfl | rfl <;> rfl) (by unfold maxLen; omega) (by omega) (by simp; omega) ?_; intro v1 w1 hown1 hgrow hnil; obtain ⟨a1, c1, rfl⟩ := own_slice hown1)
            go_roundg (gk - 1)
            case measure => omega
            case rel =>
              have hgv : ∀ q, (Value.slice la2 N lc2).ownBlock = some q → w.heap.size ≤ q := fun q hq => by have := (HOA.out.lt q hq).1; rw [HBW.out] at this; exact this
              refine ⟨j' + 1, a1, c1, N + 1, by omega, by go_num, rfl, ?_, ?_, ?_⟩
              · unfold Hid; rw [HST.out, List.length_append, ← HN.out]; rfl
              · unfold Hid BOwn; rw [HST.out, blkL_snoc, List.length_append, ← HN.out]; exact hown1
              · exact (HBi.out.alloc HBi.out.size _).grown hgrow (by simp; have := HBi.out.size; omega) hgv
        · have hd2 : decide (j' < l.length) = false := decide_eq_false hlt2
          have ej : j' = l.length := by omega
          have hjz : ¬ ((j' : Int) < (l.length : Int)) := by omega
          have HEJ := Lib.hid ej
          clear ej
          go_wp2_with fail
          go_roundg (g1 - 1)
          case measure => omega
          case rel =>
            have hfin : accJ n op k j' = accR n op (k + 1) := by rw [HEJ.out, HLL.out, accJ_all]
            have hNN := HN.out
            rw [hfin] at hNN
            refine ⟨k + 1, la2, lc2, by omega, by go_num, by rw [hNN], ?_, HBi⟩
            have := HOi.out
            rw [hfin, hNN] at this
            exact this
    · have hd : decide ((k : Int) < 11) = false := decide_eq_false hlt
      have ek : k = 11 := by omega
      subst ek
      have SR := Lib.hid (sortS_own B _ (accR n op 11) wr (by have := accR_len hn op 11; omega) HO.out)
      have hvl := HO.out
      generalize (accR n op 11).length = N11 at *
      go_wp2_with fail
      refine SR.out.mono ?_; rintro e w2 ⟨rfl, S, hp, hw, ho, hg⟩
      have hS := free_of_sorted hn hp hw
      have HS : Hid (BOwn w2 w.heap.size (.slice la N11 lc) (freeL n op)) := by unfold Hid; rw [← hS, ← HBW.out]; exact ho
      have HB2 : Hid (Below w.heap.size w w2) := HB.out.grown hg HB.out.size (fun j hj => by have := (hvl.lt j hj).1; rw [HBW.out] at this; exact this)
      clear hp hw ho hg hS hvl
      go_wp2_with fail
      go_ret
      exact ⟨_, rfl, HS.out, HB2.out⟩
end Go.Proofs.Ytcdlfhheolbhaaa
