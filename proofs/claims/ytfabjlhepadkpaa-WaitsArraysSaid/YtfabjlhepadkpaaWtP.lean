/-
  gangerlaw14.many: more than is looked at.
-/
import Derived.Test.YtfabjlhepadkpaaJbA
import Derived.Test.YtfabjlhepadkpaaWtNO
namespace Go.Proofs.Ytfabjlhepadkpaa
open Go Go.RowKit Go.Lib
set_option linter.unusedVariables false

/-- A job's spec, alone. -/
def spJ (j : Jb) : List Value := spV j.name j.acct j.prt j.qos j.size j.limit j.av j.most j.any j.dv j.nice j.beg j.hold j.requ j.run
theorem spJ_len (j : Jb) : (spJ j).length = 15 := rfl
theorem spJ_at (j : Jb) : ∀ k, k < 15 → (spJ j)[k]? = (jbV j)[k + 3]? := fun k hk => by
  have : k = 0 ∨ k = 1 ∨ k = 2 ∨ k = 3 ∨ k = 4 ∨ k = 5 ∨ k = 6 ∨ k = 7 ∨ k = 8 ∨ k = 9 ∨ k = 10 ∨ k = 11 ∨ k = 12 ∨ k = 13 ∨ k = 14 := by omega
  rcases this with rfl | rfl | rfl | rfl | rfl | rfl | rfl | rfl | rfl | rfl | rfl | rfl | rfl | rfl | rfl <;> rfl
theorem spJ_range {w : World} {b o : Nat} {j : Jb} (h : w.rangeAt b o (jbV j)) : w.rangeAt b (o + 3) (spJ j) := fun k u hu => by
  have hk : k < 15 := (List.getElem?_eq_some_iff.1 hu).1
  rw [spJ_at j k hk] at hu
  have := h (k + 3) u hu
  rw [show o + 3 + k = o + (k + 3) by omega]; exact this
theorem spJ_one {j : Jb} (h : JbS j) : ∀ u ∈ spJ j, u.oneCell' = true := fun u hu => by
  obtain ⟨k, hk, rfl⟩ := List.getElem_of_mem hu
  have e := spJ_at j k hk
  rw [List.getElem?_eq_getElem hk] at e
  exact jbV_one h _ (List.mem_of_getElem? e.symm)
section
variable {ops : Array Oper} {rest : List Oper} {op : Oper} {a : Act} {w : World} {Q : Exit → Act → World → Prop}
theorem ld_sp (hgd : op.guard = none) (x : Operand) (ho : op.op = .load 37 x) (b o : Nat) (hx : a.eval x = .pointer (some ⟨b, o, none⟩)) (j : Jb) (hc : w.rangeAt b o (spJ j))
    (h : wpList Try.prog ops Q rest (a.put op.dst (.agg (spJ j).toArray)) w) : wpList Try.prog ops Q (op :: rest) a w :=
  wpList_load_mid hgd 37 x ho b o hx (spJ j) _ hc Try.underlying37 rfl Try.sizeSp h
theorem st_spn {W : World} (hgd : op.guard = none) (x y : Operand) (ho : op.op = .store 37 x y) (t : TypeId) (old : Array Value) (hw : w = W.alloc (.cells old t)) (hx : a.eval x = .pointer (some ⟨W.heap.size, 0, none⟩)) (j : Jb) (hy : a.eval y = .agg (spJ j).toArray)
    (ho2 : old.size = 15) (hj : JbS j) (h : wpList Try.prog ops Q rest (a.put op.dst undef) (W.alloc (.cells (spJ j).toArray t))) : wpList Try.prog ops Q (op :: rest) a w := by
  subst hw
  refine wpList_store_row hgd 37 x y ho _ (spJ j).toArray hx hy t old (heap_alloc_last _ _) Try.sizeSp ho2 (all_oneCell_toArray (spJ_one hj)) ?_
  rw [World.setRow_alloc_new]; exact h
end
theorem JArg.one {w : World} {v : Value} {l : List Jb} (h : JArg w v l) {j : Jb} (hj : j ∈ l) : JbS j := by
  obtain ⟨a, c, e⟩ := (h.all j hj).als.slice
  obtain ⟨a', c', e'⟩ := (h.all j hj).nds.row.slice
  exact ⟨by rw [e]; rfl, by rw [e']; rfl⟩
theorem JArg.at {w w' : World} {a : Option Addr} {n c : Nat} {l : List Jb} (h : JArg w (.slice a n c) l) (hb : Below w.heap.size w w') {k : Nat} (hk : k < l.length) :
    ∃ b off, a = some ⟨b, off, none⟩ ∧ w'.rangeAt b (off + k * 26) (jbV l[k]) := by
  obtain ⟨b, off, e, hc⟩ := RowG.at h.row hk
  exact ⟨b, off, e, fun j u hu => hc w' hb j u hu⟩
theorem NRp.at {w w' : World} {a : Option Addr} {n c : Nat} {l : List NdM} (h : NRp w (.slice a n c) l) (hb : Below w.heap.size w w') {k : Nat} (hk : k < l.length) :
    ∃ b off, a = some ⟨b, off, none⟩ ∧ w'.cell? ⟨b, off + k * 2 + 1, none⟩ = some l[k].2.1 ∧ ∃ ja jc, l[k].2.1 = .slice ja l[k].2.2.length jc := by
  obtain ⟨b, off, e, hc⟩ := RowG.at h.row hk
  exact ⟨b, off, e, hc w' hb 1 _ rfl, RowG.slice (h.jobs _ (List.getElem_mem hk))⟩
def FewN (nd : List NdM) : Prop := nd.length ≤ 30 ∧ ∀ p ∈ nd, p.2.2.length ≤ 30
def ManyJ (l : List Jb) (e : Ending) : Prop := e = .returned (.bool true) ∨ (e = .returned (.bool false) ∧ FewJ l)
set_option maxRecDepth 100000 in
set_option maxHeartbeats 4000000 in
theorem many14_any (v : Value) (l : List Jb) (w : World) (h : JArg w v l) :
    Calls Try.prog 10 #[v] w fun e w' => ManyJ l e ∧ Below w.heap.size w w' := by
  have HL := Lib.hid h
  obtain ⟨a, c, rfl⟩ := h.row.slice
  obtain ⟨N, hN⟩ : ∃ N, N = l.length := ⟨_, rfl⟩
  rw [← hN]
  have HN := Lib.hid hN
  clear h hN
  by_cases h60 : 60 < N
  · have d0 : decide ((N : Int) > 60) = true := decide_eq_true (by omega)
    have d0' : decide (60 < (N : Int)) = true := decide_eq_true (by omega)
    have d0'' : decide (60 < N) = true := decide_eq_true h60
    go_enter Try.func10, Try.ntmps10
    go_wp2_with fail
    go_ret
    exact ⟨.inl rfl, Below.refl _ _⟩
  · have d0 : decide ((N : Int) > 60) = false := decide_eq_false (by omega)
    have d0' : decide (60 < (N : Int)) = false := decide_eq_false (by omega)
    have d0'' : decide (60 < N) = false := decide_eq_false h60
    go_enter Try.func10, Try.ntmps10
    go_wp2_with fail
    go_loopw [3, 4, 5] (fun iv _ _ wr => ∃ i : Nat, i ≤ N ∧ iv = .int .i64 (i : Nat) ∧ Hid (∀ q (hq : q < l.length), q < i → FewN l[q].nd) ∧ Hid (Below w.heap.size w wr)) (fun iv _ _ _ => N - (RowKit.intOf iv).toNat)
    case atStart => exact ⟨0, Nat.zero_le _, rfl, fun q _ h => by omega, Below.refl _ _⟩
    case round =>
      obtain ⟨i, hi, rfl, HO, HB⟩ := hrel
      by_cases hlt : i < N
      · have d1 : decide ((i : Int) < (N : Int)) = true := decide_eq_true (by omega)
        have d1' : decide (i < N) = true := decide_eq_true hlt
        have hii : (i : Int) < (N : Int) := by omega
        have hik : i < l.length := by rw [← HN.out]; exact hlt
        obtain ⟨bb, off, e, hrg⟩ := JArg.at HL.out HB.out hik
        subst e
        have hone := HL.out.one (List.getElem_mem hik)
        have HND := Lib.hid ((HL.out.all _ (List.getElem_mem hik)).nds)
        have HQ : Hid (FewN l[i].nd → ∀ q (hq : q < l.length), q < i + 1 → FewN l[q].nd) := fun hh q hq h2 => by
          by_cases e : q = i
          · subst e; exact hh
          · exact HO.out q hq (by omega)
        obtain ⟨j, hj⟩ : ∃ j, j = l[i] := ⟨_, rfl⟩
        rw [← hj] at hrg hone HND HQ
        clear hj HO
        obtain ⟨W, hW⟩ : ∃ W, W = wr.alloc (.cells (spJ j).toArray 37) := ⟨_, rfl⟩
        obtain ⟨gs, hgs⟩ : ∃ g, g = wr.heap.size := ⟨_, rfl⟩
        have hbW : Below wr.heap.size wr W := by rw [hW]; exact (Below.refl _ _).alloc (Nat.le_refl _) _
        have hbn : Blk W gs (spJ j).toArray 37 := by rw [hW, hgs]; exact Blk.new _ _ _
        have HBW := Lib.hid (below_next hbW HB.out)
        obtain ⟨da, dc, edv⟩ := HND.out.row.slice
        obtain ⟨M, hM⟩ : ∃ M, M = j.nd.length := ⟨_, rfl⟩
        rw [← hM] at edv
        have x0 : W.cell? ⟨gs, 0, none⟩ = some (.string j.name) := by rw [hbn.cell]; rfl
        have x1 : W.cell? ⟨gs, 1, none⟩ = some (.string j.acct) := by rw [hbn.cell]; rfl
        have x9 : W.cell? ⟨gs, 9, none⟩ = some (.slice da M dc) := by rw [hbn.cell, ← edv]; rfl
        have HM := Lib.hid hM
        obtain ⟨nm, hnm⟩ : ∃ x, x = j.name := ⟨_, rfl⟩
        obtain ⟨ac, hac⟩ : ∃ x, x = j.acct := ⟨_, rfl⟩
        rw [← hnm] at x0
        rw [← hac] at x1
        have HSP := Lib.hid (spJ_range hrg)
        rw [edv] at HND
        clear hM hbW hbn hrg hnm hac edv
        go_upto_region 7 with (first | (refine ld_sp rfl _ rfl _ _ rfl _ HSP.out ?_) | (refine st_spn rfl _ _ rfl _ _ rfl rfl j rfl rfl hone ?_))
        rw [← hW, ← hgs]
        clear hW hgs HSP hone
        by_cases c1 : nm.size > 300
        · have p1 : decide ((nm.size : Int) > 300) = true := decide_eq_true (by omega)
          have p1' : decide (300 < (nm.size : Int)) = true := decide_eq_true (by omega)
          have p1'' : decide (300 < nm.size) = true := decide_eq_true c1
          go_wp2_with fail
          go_ret
          exact ⟨.inl rfl, HBW.out⟩
        · have p1 : decide ((nm.size : Int) > 300) = false := decide_eq_false (by omega)
          have p1' : decide (300 < (nm.size : Int)) = false := decide_eq_false (by omega)
          have p1'' : decide (300 < nm.size) = false := decide_eq_false c1
          by_cases c2 : ac.size > 300
          · have p2 : decide ((ac.size : Int) > 300) = true := decide_eq_true (by omega)
            have p2' : decide (300 < (ac.size : Int)) = true := decide_eq_true (by omega)
            have p2'' : decide (300 < ac.size) = true := decide_eq_true c2
            go_wp2_with fail
            go_ret
            exact ⟨.inl rfl, HBW.out⟩
          · have p2 : decide ((ac.size : Int) > 300) = false := decide_eq_false (by omega)
            have p2' : decide (300 < (ac.size : Int)) = false := decide_eq_false (by omega)
            have p2'' : decide (300 < ac.size) = false := decide_eq_false c2
            by_cases c3 : M > 30
            · have p3 : decide ((M : Int) > 30) = true := decide_eq_true (by omega)
              have p3' : decide (30 < (M : Int)) = true := decide_eq_true (by omega)
              have p3'' : decide (30 < M) = true := decide_eq_true c3
              go_wp2_with fail
              go_ret
              exact ⟨.inl rfl, HBW.out⟩
            · have p3 : decide ((M : Int) > 30) = false := decide_eq_false (by omega)
              have p3' : decide (30 < (M : Int)) = false := decide_eq_false (by omega)
              have p3'' : decide (30 < M) = false := decide_eq_false c3
              have hM30 : M ≤ 30 := by omega
              clear c1 c2 c3
              go_wp2_with fail
              go_loopw [5] (fun kv wi => ∃ k : Nat, k ≤ M ∧ kv = .int .i64 (k : Nat) ∧ wi = W ∧ Hid (∀ q (hq : q < j.nd.length), q < k → (j.nd[q]).2.2.length ≤ 30)) (fun kv _ => M - (RowKit.intOf kv).toNat)
              case atStart => exact ⟨0, Nat.zero_le _, rfl, rfl, fun q _ h => by omega⟩
              case round =>
                obtain ⟨k, hk, rfl, hwe, HP⟩ := hrel
                subst hwe
                by_cases hlk : k < M
                · have d2 : decide ((k : Int) < (M : Int)) = true := decide_eq_true (by omega)
                  have d2' : decide (k < M) = true := decide_eq_true hlk
                  have hkk : (k : Int) < (M : Int) := by omega
                  have hkl : k < j.nd.length := by rw [← HM.out]; exact hlk
                  obtain ⟨nb, no, e, z1, ja, jc, eja⟩ := NRp.at HND.out HBW.out hkl
                  subst e
                  rw [eja] at z1
                  have HQ2 : Hid ((j.nd[k]).2.2.length ≤ 30 → ∀ q (hq : q < j.nd.length), q < k + 1 → (j.nd[q]).2.2.length ≤ 30) := fun hh q hq h2 => by
                    by_cases e : q = k
                    · subst e; exact hh
                    · exact HP.out q hq (by omega)
                  obtain ⟨K, hK⟩ : ∃ K, K = (j.nd[k]).2.2.length := ⟨_, rfl⟩
                  rw [← hK] at z1 HQ2
                  clear hK eja HP
                  by_cases c4 : K > 30
                  · have p4 : decide ((K : Int) > 30) = true := decide_eq_true (by omega)
                    have p4' : decide (30 < (K : Int)) = true := decide_eq_true (by omega)
                    have p4'' : decide (30 < K) = true := decide_eq_true c4
                    go_wp2_with fail
                    go_ret
                    exact ⟨.inl rfl, HBW.out⟩
                  · have p4 : decide ((K : Int) > 30) = false := decide_eq_false (by omega)
                    have p4' : decide (30 < (K : Int)) = false := decide_eq_false (by omega)
                    have p4'' : decide (30 < K) = false := decide_eq_false c4
                    have HQ3 := Lib.hid (HQ2.out (by omega))
                    clear HQ2
                    go_wp2_with fail
                    go_roundw
                    case rel => exact ⟨k + 1, hlk, by go_num, trivial, HQ3.out⟩
                    case measure => simp [RowKit.intOf]; omega
                · have d2 : decide ((k : Int) < (M : Int)) = false := decide_eq_false (by omega)
                  have d2' : decide (k < M) = false := decide_eq_false hlk
                  have HQ4 : Hid (∀ q (hq : q < l.length), q < i + 1 → FewN l[q].nd) := HQ.out ⟨by rw [← HM.out]; exact hM30, fun p hp => by
                    obtain ⟨q, hq, rfl⟩ := List.getElem_of_mem hp
                    exact HP.out q hq (by have := HM.out; omega)⟩
                  clear HQ HP
                  go_wp2_with fail
                  go_roundw
                  case rel => exact ⟨i + 1, hlt, by go_num, HQ4.out, HBW.out⟩
                  case measure => simp [RowKit.intOf]; omega
      · have d1 : decide ((i : Int) < (N : Int)) = false := decide_eq_false (by omega)
        have d1' : decide (i < N) = false := decide_eq_false hlt
        have HF : Hid (FewJ l) := ⟨by rw [← HN.out]; omega, fun j hj => by
          obtain ⟨q, hq, rfl⟩ := List.getElem_of_mem hj
          exact HO.out q hq (by have := HN.out; omega)⟩
        go_wp2_with fail
        go_ret
        exact ⟨.inr ⟨rfl, HF.out⟩, HB.out⟩
end Go.Proofs.Ytfabjlhepadkpaa
