/-
  indexes.Print: at any indexes.
-/
import Derived.Test.YtdhkinknhjpjmaaDoorIxM
import Derived.Test.YtdhkinknhjpjmaaDoorItoa
import Derived.Lib.Join
import Derived.Deep.CutRange
namespace Go.Proofs.YtdhkinknhjpjmaaDoor
open Go Go.RowKit Go.Lib
set_option linter.unusedVariables false

theorem Tryd.infoStr : (Tryd.prog.info? 9).map (fun i => (i.zero, i.size, i.bytes)) = some (some (.string ⟨#[]⟩), 1, 16) := by kernel_rfl
def strsL (l : List ByteArray) : List Value := l.map .string
theorem strsL_len (l : List ByteArray) : (strsL l).length = l.length := by simp [strsL]
def lenZ : Value → Nat
  | .slice _ n _ => n
  | _ => 0
theorem own_empty (w : World) (t : TypeId) : (w.alloc (.cells #[] t)).ownsRow w.heap.size t 1 (.slice (some ⟨w.heap.size, 0, none⟩) 0 0) 0 [] :=
  ⟨rfl, .inr ⟨w.heap.size, 0, #[], rfl, Nat.le_refl _, Blk.new w #[] t, Nat.le_refl _, Nat.zero_le _, rfl, rfl⟩⟩
theorem okZ_of {l : List Nat} {m : Nat} (h : OkN l m) : OkZ (ofN l) m := by
  refine ⟨by rw [ofN_len]; exact List.length_pos_iff.2 h.ne, by omega, by have := h.most; omega, fun k hk => ?_⟩
  rw [ofN_len] at hk
  refine ⟨by rw [ofN_get]; omega, by rw [ofN_get]; have := getD_le h.le k; omega, fun hk0 => ?_⟩
  rw [ofN_get, ofN_get]
  have := List.pairwise_iff_getElem.1 h.inc (k - 1) k (by omega) hk (by omega)
  rw [List.getD_eq_getElem?_getD, List.getD_eq_getElem?_getD, List.getElem?_eq_getElem hk, List.getElem?_eq_getElem (by omega : k - 1 < l.length)]
  exact_mod_cast this
theorem print_no (v : Value) (l : List Int) (m : Int) (w : World) (hn : l.length ≤ 1048576) (h : NRow w v l) (hno : ¬ OkZ l m) :
    Calls Tryd.prog 15 #[arrV v m] w fun e w' => e = .returned (.tuple #[.string ⟨#[]⟩, .int .i64 2]) ∧ Below w.heap.size w w' := by
  obtain ⟨a, c, rfl⟩ := h.slice
  have hb := Blk.new w #[.slice a l.length c, .int .i64 m] 25
  have c0 := hb.cell 0
  have c1 := hb.cell 1
  simp only [List.getElem?_toArray, List.getElem?_cons_zero, List.getElem?_cons_succ] at c0 c1
  have hW := (Below.refl _ w).alloc (Nat.le_refl _) (.cells #[.slice a l.length c, .int .i64 m] 25)
  have C := Lib.hid (check_any _ l m (w.alloc (.cells #[.slice a l.length c, .int .i64 m] 25)) hn (h.kept hW))
  rw [checkZ_no hno] at C
  have HW := Lib.hid hW
  clear hb hW h hno
  go_enter Tryd.func15, Tryd.ntmps15
  go_wp2_with fail
  refine C.out.mono ?_; rintro e w1 ⟨rfl, b1⟩
  have B1 := Lib.hid (below_next b1 HW.out)
  clear b1 C
  go_wp2_with fail
  go_ret2
  exact ⟨rfl, B1.out⟩
theorem strsL_app (a b : List ByteArray) : strsL (a ++ b) = strsL a ++ strsL b := by simp [strsL]
theorem join_runs : ∀ ps : List (Nat × Nat), Lib.join (ps.map runT) [44] = joinT ps
  | [] => rfl
  | [p] => by simp [Lib.join, List.intercalate, joinT, restT]
  | p :: q :: t => by
    have ih := join_runs (q :: t)
    unfold Lib.join List.intercalate at ih ⊢
    rw [List.map_cons] at ih
    rw [List.map_cons, List.map_cons, List.intersperse_cons_cons, List.flatten_cons, List.flatten_cons, ih]
    show runT p ++ ([44] ++ joinT (q :: t)) = runT p ++ restT (q :: t)
    rfl
theorem strs_parts {w : World} {base : Nat} {v : Value} {xs : List ByteArray} (h : w.ownsRow base 9 1 v xs.length (strsL xs)) (h0 : 0 < xs.length) :
    ∃ g cap, v = .slice (some ⟨g, 0, none⟩) xs.length cap ∧ g < w.heap.size ∧ xs.length ≤ cap ∧ ∀ j x, xs[j]? = some x → w.cell? ⟨g, j, none⟩ = some (.string x) := by
  obtain ⟨_, ⟨rfl, e⟩ | ⟨g, cap, cur, rfl, hb, hg, h1, h2, h3, h4⟩⟩ := h
  · omega
  · refine ⟨g, cap, rfl, (Array.getElem?_eq_some_iff.1 hg).1, h1, fun j x hj => ?_⟩
    have hjl : j < xs.length := (List.getElem?_eq_some_iff.1 hj).1
    have e : (cur.toList.take (xs.length * 1))[j]? = cur.toList[j]? := by rw [List.getElem?_take, if_pos (by omega)]
    rw [h4] at e
    unfold strsL at e
    rw [List.getElem?_map, hj] at e
    simp [World.cell?, hg, ← Array.getElem?_toList, ← e]
theorem runs_pos {l : List Nat} (h : 0 < l.length) : 0 < (runsOf l).length := by
  cases l with
  | nil => simp at h
  | cons x r =>
    obtain ⟨b, t, e, _⟩ := runs_head x r
    rw [e]; simp
/-- What is left of the row. -/
def RestIs (b off n c i : Nat) (v : Value) : Prop := (i < n ∧ v = .slice (some ⟨b, off + i, none⟩) (n - i) (c - i)) ∨ (i = n ∧ ∃ a' c', v = .slice a' 0 c')
theorem rest_next {b off n c i O N M k : Nat} (hO : O = off + i) (hN : N = n - i) (hM : M = c - i) (hk : k ≤ N ∧ i < n) : RestIs b off n c (i + k) (.slice (some ⟨b, O + k, none⟩) (N - k) (M - k)) := by
  subst hO hN hM
  by_cases h : i + k < n
  · refine .inl ⟨h, ?_⟩
    rw [Nat.add_assoc, Nat.sub_sub, Nat.sub_sub]
  · exact .inr ⟨by omega, _, _, by rw [show n - i - k = 0 by omega]⟩
theorem runs_next {l r : List Nat} {i k : Nat} {xs : List ByteArray} {T : ByteArray} (h : xs.map (fun x => x.data.toList) ++ (runsOf (l.drop i)).map runT = (runsOf l).map runT) (hr : r = l.drop i) (hk : RunK r k) (hT : T.data.toList = runT (r.getD 0 0, r.getD 0 0 + (k - 1))) :
    (xs ++ [T]).map (fun x => x.data.toList) ++ (runsOf (l.drop (i + k))).map runT = (runsOf l).map runT := by
  obtain ⟨t, rfl⟩ : ∃ t, k = t + 1 := ⟨k - 1, by have := hk.1; omega⟩
  rw [← h, ← hr, runs_split t r hk, List.map_append, List.append_assoc, List.map_cons, List.map_cons, hT, hr, List.drop_drop]
  simp
set_option maxRecDepth 100000 in
set_option maxHeartbeats 8000000 in
theorem print_ok (b off c : Nat) (l : List Nat) (m : Nat) (w : World) (hn : l.length ≤ 1048576) (hok : OkN l m) (htab : TabW w) (hcl : l.length ≤ c) (hcm : c ≤ maxLen) (hbw : b < w.heap.size) (hc : ∀ j, j < l.length → w.cell? ⟨b, off + j, none⟩ = some (.int .i64 ((l.getD j 0 : Nat) : Int))) :
    Calls Tryd.prog 15 #[arrV (.slice (some ⟨b, off, none⟩) l.length c) m] w fun e w' => e = .returned (.tuple #[.string ⟨(printT l m).toArray⟩, .int .i64 0]) ∧ Below w.heap.size w w' := by
  obtain ⟨s0, hs, hs0, hs1, hs2⟩ := info_parts Tryd.infoStr
  have h0 : 0 < l.length := List.length_pos_iff.2 hok.ne
  have hcm' : c ≤ 9223372036854775807 := by unfold maxLen at hcm; omega
  have HMAX := Lib.hid hcm
  have hrow : NRow w (.slice (some ⟨b, off, none⟩) (ofN l).length c) (ofN l) := .inr ⟨b, off, c, rfl, by rw [ofN_len]; exact h0, by rw [ofN_len]; exact hcl, hcm, hbw, fun j hj => by rw [ofN_get]; exact hc j (by rw [ofN_len] at hj; exact hj)⟩
  rw [ofN_len] at hrow
  have HC := Lib.hid hc
  have HLE := Lib.hid hok.le
  have htab0 := Lib.hid htab
  have HOK := Lib.hid hok
  have hb := Blk.new w #[.slice (some ⟨b, off, none⟩) l.length c, .int .i64 m] 25
  have c0 := hb.cell 0
  have c1 := hb.cell 1
  simp only [List.getElem?_toArray, List.getElem?_cons_zero, List.getElem?_cons_succ] at c0 c1
  have hW := (Below.refl _ w).alloc (Nat.le_refl _) (.cells #[.slice (some ⟨b, off, none⟩) l.length c, .int .i64 m] 25)
  have C := Lib.hid (check_any _ (ofN l) m (w.alloc (.cells #[.slice (some ⟨b, off, none⟩) l.length c, .int .i64 m] 25)) (by rw [ofN_len]; exact hn) (hrow.kept hW))
  rw [checkZ_ok (okZ_of hok)] at C
  have HW := Lib.hid hW
  have HB0 := Lib.hid hb
  clear hb hW hrow hc htab hok hcm
  go_enter Tryd.func15, Tryd.ntmps15
  go_wp2_with fail
  refine C.out.mono ?_; rintro e w1 ⟨rfl, b1⟩
  have hzs : w.heap.size + 1 ≤ w1.heap.size := by have := b1.size; simp at this; omega
  have HB1 := Lib.hid (HB0.out.kept b1)
  have B1 := Lib.hid (below_next b1 HW.out)
  have k0 := HB1.out.cell 0
  simp only [List.getElem?_toArray, List.getElem?_cons_zero] at k0
  have HB2 := Lib.hid (HB1.out.old (.cells #[] 9))
  have B2 := Lib.hid (B1.out.alloc (by omega) (.cells #[] 9))
  have k2 := HB2.out.cell 0
  simp only [List.getElem?_toArray, List.getElem?_cons_zero] at k2
  have HO2 := Lib.hid (World.ownsRow.mono (own_empty w1 9) hzs)
  clear b1 C HB0 HW HB1 B1 c0 c1
  go_wp2_with fail
  generalize w1.alloc (.cells #[] 9) = W2 at *
  clear k0 k2
  go_loopw [5, 6] (fun v5 v6 wr => ∃ (i : Nat) (xs : List ByteArray), i ≤ l.length ∧ xs.length ≤ i ∧ Hid (wr.ownsRow (w.heap.size + 1) 9 1 v5 xs.length (strsL xs)) ∧ Hid (RestIs b off l.length c i v6) ∧ Hid (xs.map (fun x => x.data.toList) ++ (runsOf (l.drop i)).map runT = (runsOf l).map runT) ∧ Hid (Blk wr w.heap.size #[.slice (some ⟨b, off, none⟩) l.length c, .int .i64 m] 25) ∧ Hid (TabW wr) ∧ Below w.heap.size w wr) (fun _ v6 _ => lenZ v6)
  case atStart => exact ⟨0, [], by omega, by simp, HO2.out, .inl ⟨h0, rfl⟩, rfl, HB2.out, htab0.out.next B2.out, B2.out⟩
  case round =>
    obtain ⟨i, xs, hi, hxi, hown, hrest, hruns, hbox, htb, hB⟩ := hrel
    obtain ⟨va, vc, rfl⟩ := own_slice hown.out
    have HB := Lib.hid hB
    have HBOX := hbox
    have HTAB := htb
    rcases hrest.out with ⟨hlt, rfl⟩ | ⟨rfl, a', c', rfl⟩
    · have hcx := Lib.hid (fun j (hj : i + j < l.length) => cell_next hB (HC.out (i + j) hj))
      obtain ⟨r, hr0⟩ : ∃ r, r = l.drop i := ⟨_, rfl⟩
      have hr := Lib.hid hr0
      have hrl : r.length = l.length - i := by rw [hr0, List.length_drop]
      have hrg : ∀ j, r.getD j 0 = l.getD (i + j) 0 := fun j => by rw [hr0, List.getD_eq_getElem?_getD, List.getD_eq_getElem?_getD, List.getElem?_drop]
      have hrle : ∀ x ∈ r, x ≤ 1000 := fun x hx => HLE.out x (List.mem_of_mem_drop (by rw [← hr0]; exact hx))
      obtain ⟨O, hO0⟩ : ∃ O, O = off + i := ⟨_, rfl⟩
      obtain ⟨N, hN0⟩ : ∃ N, N = l.length - i := ⟨_, rfl⟩
      obtain ⟨M, hM0⟩ : ∃ M, M = c - i := ⟨_, rfl⟩
      have hO := Lib.hid hO0
      have hN := Lib.hid hN0
      have hM := Lib.hid hM0
      have hNM : N ≤ M := by omega
      have hN1 : 0 < N := by omega
      have hN2 : N ≤ 1048576 := by omega
      have hM2 : M ≤ 9223372036854775807 := by omega
      have hcr : ∀ j, j < r.length → wr.cell? ⟨b, O + j, none⟩ = some (.int .i64 ((r.getD j 0 : Nat) : Int)) := fun j hj => by
        rw [hrg, hO0, Nat.add_assoc]; exact hcx.out j (by omega)
      have HCR := Lib.hid hcr
      have RUN := Lib.hid (run_any b O M r wr (by omega) (by omega) hrle hcr)
      have HRG : Hid (∀ j, r.getD j 0 ≤ 1000) := getD_le hrle
      rw [hrl, ← hN0] at RUN
      rw [← hO0, ← hN0, ← hM0]
      have hin : N + i = l.length := by omega
      have hrN : Hid (r.length = N) := by unfold Hid; omega
      obtain ⟨N5, hN50⟩ : ∃ N5, N5 = xs.length := ⟨_, rfl⟩
      have hN5 := Lib.hid hN50
      have HOW0 := hown
      rw [← hN50] at HOW0 ⊢
      have hN5b : N5 ≤ 1048576 := by omega
      have hN5i : N5 ≤ i := by omega
      clear hrest hbox htb hB hcx hr0 hrl hrg hrle hO0 hN0 hM0 hcr hown hN50 hxi
      go_wp2_with fail
      refine RUN.out.mono ?_; rintro e w3 ⟨⟨k, rfl, hk0⟩, b3⟩
      have hk := Lib.hid hk0
      have hkN : k ≤ N := by have := hk0.2.1; have := hrN.out; omega
      have hk1 : 0 < k := hk0.1
      have d0 := cell_next b3 (HCR.out 0 (by have := hrN.out; omega))
      rw [Nat.add_zero] at d0
      have ha1 := HRG.out 0
      have I1 := Lib.hid (itoa_tab (r.getD 0 0) w3 (by omega) (HTAB.out.next b3))
      have HBL0 := Lib.hid b3
      have hs1' := digS_len 3 (r.getD 0 0) (by omega)
      obtain ⟨a0, ha0⟩ : ∃ a0, a0 = r.getD 0 0 := ⟨_, rfl⟩
      have HA0 := Lib.hid ha0
      rw [← ha0] at d0 ha1 I1 hs1'
      clear b3 RUN hk0 ha0
      go_wp2_with fail
      refine I1.out.mono ?_; rintro e w4 ⟨rfl, b4⟩
      have HBL1 := Lib.hid (below_next b4 HBL0.out)
      clear b4 I1 HBL0
      by_cases hk2 : 1 < k
      · have z1 : decide ((k : Int) > 1) = true := decide_eq_true (by omega)
        have z1n : decide (1 < k) = true := decide_eq_true hk2
        obtain ⟨t, ht⟩ : ∃ t, t = k - 1 := ⟨_, rfl⟩
        have Et : Hid (IntKind.i64.wrap ((k : Int) - 1) = (t : Int)) := by unfold Hid; rw [IntKind.wrap_i64]; omega
        have tl : t < N := by omega
        have HTK := Lib.hid ht
        have dt := cell_next HBL1.out (HCR.out t (by have := hrN.out; omega))
        have ha2 := HRG.out t
        have I2 := Lib.hid (itoa_tab (r.getD t 0) w4 (by omega) (HTAB.out.next HBL1.out))
        have hs2' := digS_len 3 (r.getD t 0) (by omega)
        obtain ⟨a1, ha3⟩ : ∃ a1, a1 = r.getD t 0 := ⟨_, rfl⟩
        have HA1 := Lib.hid ha3
        rw [← ha3] at dt ha2 I2 hs2'
        clear ht ha3 d0
        go_upto_region 10 with fail
        have et := Et.out
        go_wp2_with fail
        refine I2.out.mono ?_; rintro e w5 ⟨rfl, b5⟩
        have HBL := Lib.hid (below_next b5 HBL1.out)
        clear b5 I2 HBL1 et dt
        go_upto_region 11 with fail
        have HOW := Lib.hid (own_older HOW0.out HBL.out)
        have HVB := Lib.hid (fun q hq => HOW.out.lt q hq)
        have HNB : Hid (some w.heap.size ≠ (Value.slice va N5 vc).ownBlock) := fun e => by have := (HVB.out _ e.symm).1; omega
        have HBX := Lib.hid (HBOX.out.kept HBL.out)
        have HBW := Lib.hid (below_next HBL.out HB.out)
        have hzW : w.heap.size ≤ w5.heap.size := HBW.out.size
        have HTX : Hid ((digS a0 ++ (⟨#[45]⟩ ++ digS a1) : ByteArray).data.toList = runT (r.getD 0 0, r.getD 0 0 + (k - 1))) := by
          unfold Hid; rw [← run_text hk.out, if_pos hk2, ← HTK.out, HA0.out, HA1.out]; simp [digS]
        clear HB HBOX HTAB HOW0 HBL HCR
        generalize hTT : (digS a0 ++ (⟨#[45]⟩ ++ digS a1) : ByteArray) = TT at *
        have HN1 : Hid ((w5.alloc (.cells #[.string TT] 9)).heap.size = w5.heap.size + 1) := by unfold Hid; simp
        by_cases hck : M = k
        · have hNk : N = k := by omega
          go_wp2_with (at_builtin; refine wpList_append_own_at _ rfl _ _ 64 rfl (w.heap.size + 1) 9 s0 _ 1 16 Tryd.underlying64 hs hs0 hs1 hs2 rfl (by decide) (.slice va N5 vc) N5 _ rfl (World.ownsRow.alloc HOW.out _) ⟨w5.heap.size, 0, none⟩ 1 1 [.string TT] rfl rfl (news_alloc _ [.string TT] _) (by simp [Value.oneCell']) (by unfold maxLen; omega) (by omega) (by simp; omega) ?_; intro v4 w9 hown4 hgrow4 _ hat4; obtain ⟨a4, c4, rfl⟩ := own_slice hown4)
          have hb9 := Lib.hid (Blk.grown (HBX.out.old (.cells #[.string TT] 9)) hgrow4 HNB.out)
          have hB9 : Hid (Below w.heap.size w w9) := (HBW.out.alloc hzW _).grown hgrow4 (by simp; omega) (fun q hq => by have := (HVB.out q hq).1; omega)
          have HT9 : Hid (TabW w9) := htab0.out.next hB9.out
          have HO9 := Lib.hid hown4
          clear hown4 hgrow4 hat4 HVB HNB HBX HBW HOW
          go_roundw
          case rel => exact ⟨i + k, xs ++ [TT], by omega, by rw [List.length_append, ← hN5.out]; simp; omega, by rw [List.length_append, strsL_app, ← hN5.out]; exact HO9.out, .inr ⟨by omega, _, _, rfl⟩, runs_next hruns.out hr.out hk.out HTX.out, hb9.out, HT9.out, hB9.out⟩
          case measure => simp [lenZ]; omega
        · go_wp2_with (at_builtin; refine wpList_append_own_at _ rfl _ _ 64 rfl (w.heap.size + 1) 9 s0 _ 1 16 Tryd.underlying64 hs hs0 hs1 hs2 rfl (by decide) (.slice va N5 vc) N5 _ rfl (World.ownsRow.alloc HOW.out _) ⟨w5.heap.size, 0, none⟩ 1 1 [.string TT] rfl rfl (news_alloc _ [.string TT] _) (by simp [Value.oneCell']) (by unfold maxLen; omega) (by omega) (by simp; omega) ?_; intro v4 w9 hown4 hgrow4 _ hat4; obtain ⟨a4, c4, rfl⟩ := own_slice hown4)
          have hb9 := Lib.hid (Blk.grown (HBX.out.old (.cells #[.string TT] 9)) hgrow4 HNB.out)
          have hB9 : Hid (Below w.heap.size w w9) := (HBW.out.alloc hzW _).grown hgrow4 (by simp; omega) (fun q hq => by have := (HVB.out q hq).1; omega)
          have HT9 : Hid (TabW w9) := htab0.out.next hB9.out
          have HO9 := Lib.hid hown4
          clear hown4 hgrow4 hat4 HVB HNB HBX HBW HOW
          go_roundw
          case rel => exact ⟨i + k, xs ++ [TT], by omega, by rw [List.length_append, ← hN5.out]; simp; omega, by rw [List.length_append, strsL_app, ← hN5.out]; exact HO9.out, rest_next hO.out hN.out hM.out (by omega), runs_next hruns.out hr.out hk.out HTX.out, hb9.out, HT9.out, hB9.out⟩
          case measure => simp [lenZ]; omega
      · have z1 : decide ((k : Int) > 1) = false := decide_eq_false (by omega)
        have z1n : decide (1 < k) = false := decide_eq_false hk2
        have HBL := HBL1
        clear HBL1 d0
        go_upto_region 11 with fail
        have HOW := Lib.hid (own_older HOW0.out HBL.out)
        have HVB := Lib.hid (fun q hq => HOW.out.lt q hq)
        have HNB : Hid (some w.heap.size ≠ (Value.slice va N5 vc).ownBlock) := fun e => by have := (HVB.out _ e.symm).1; omega
        have HBX := Lib.hid (HBOX.out.kept HBL.out)
        have HBW := Lib.hid (below_next HBL.out HB.out)
        have hzW : w.heap.size ≤ w4.heap.size := HBW.out.size
        have HTX : Hid ((digS a0 : ByteArray).data.toList = runT (r.getD 0 0, r.getD 0 0 + (k - 1))) := by
          unfold Hid; rw [← run_text hk.out, if_neg hk2, HA0.out]; simp [digS]
        clear HB HBOX HTAB HOW0 HBL HCR
        generalize hTT : (digS a0 : ByteArray) = TT at *
        have HN1 : Hid ((w4.alloc (.cells #[.string TT] 9)).heap.size = w4.heap.size + 1) := by unfold Hid; simp
        by_cases hck : M = k
        · have hNk : N = k := by omega
          go_wp2_with (at_builtin; refine wpList_append_own_at _ rfl _ _ 64 rfl (w.heap.size + 1) 9 s0 _ 1 16 Tryd.underlying64 hs hs0 hs1 hs2 rfl (by decide) (.slice va N5 vc) N5 _ rfl (World.ownsRow.alloc HOW.out _) ⟨w4.heap.size, 0, none⟩ 1 1 [.string TT] rfl rfl (news_alloc _ [.string TT] _) (by simp [Value.oneCell']) (by unfold maxLen; omega) (by omega) (by simp; omega) ?_; intro v4 w9 hown4 hgrow4 _ hat4; obtain ⟨a4, c4, rfl⟩ := own_slice hown4)
          have hb9 := Lib.hid (Blk.grown (HBX.out.old (.cells #[.string TT] 9)) hgrow4 HNB.out)
          have hB9 : Hid (Below w.heap.size w w9) := (HBW.out.alloc hzW _).grown hgrow4 (by simp; omega) (fun q hq => by have := (HVB.out q hq).1; omega)
          have HT9 : Hid (TabW w9) := htab0.out.next hB9.out
          have HO9 := Lib.hid hown4
          clear hown4 hgrow4 hat4 HVB HNB HBX HBW HOW
          go_roundw
          case rel => exact ⟨i + k, xs ++ [TT], by omega, by rw [List.length_append, ← hN5.out]; simp; omega, by rw [List.length_append, strsL_app, ← hN5.out]; exact HO9.out, .inr ⟨by omega, _, _, rfl⟩, runs_next hruns.out hr.out hk.out HTX.out, hb9.out, HT9.out, hB9.out⟩
          case measure => simp [lenZ]; omega
        · go_wp2_with (at_builtin; refine wpList_append_own_at _ rfl _ _ 64 rfl (w.heap.size + 1) 9 s0 _ 1 16 Tryd.underlying64 hs hs0 hs1 hs2 rfl (by decide) (.slice va N5 vc) N5 _ rfl (World.ownsRow.alloc HOW.out _) ⟨w4.heap.size, 0, none⟩ 1 1 [.string TT] rfl rfl (news_alloc _ [.string TT] _) (by simp [Value.oneCell']) (by unfold maxLen; omega) (by omega) (by simp; omega) ?_; intro v4 w9 hown4 hgrow4 _ hat4; obtain ⟨a4, c4, rfl⟩ := own_slice hown4)
          have hb9 := Lib.hid (Blk.grown (HBX.out.old (.cells #[.string TT] 9)) hgrow4 HNB.out)
          have hB9 : Hid (Below w.heap.size w w9) := (HBW.out.alloc hzW _).grown hgrow4 (by simp; omega) (fun q hq => by have := (HVB.out q hq).1; omega)
          have HT9 : Hid (TabW w9) := htab0.out.next hB9.out
          have HO9 := Lib.hid hown4
          clear hown4 hgrow4 hat4 HVB HNB HBX HBW HOW
          go_roundw
          case rel => exact ⟨i + k, xs ++ [TT], by omega, by rw [List.length_append, ← hN5.out]; simp; omega, by rw [List.length_append, strsL_app, ← hN5.out]; exact HO9.out, rest_next hO.out hN.out hM.out (by omega), runs_next hruns.out hr.out hk.out HTX.out, hb9.out, HT9.out, hB9.out⟩
          case measure => simp [lenZ]; omega
    · have hxr : Hid (xs.map (fun x => x.data.toList) = (runsOf l).map runT) := by
        have := hruns.out
        rw [List.drop_length] at this
        unfold Hid
        simpa [runsOf] using this
      have hx0 : 0 < xs.length := by
        have h1 := congrArg List.length hxr.out
        rw [List.length_map, List.length_map] at h1
        rw [h1]
        exact runs_pos h0
      obtain ⟨g, cap, e, hg, hcap, hcells⟩ := strs_parts hown.out hx0
      injection e with e1 _ e2
      subst e1 e2
      have hJ : Lib.join (xs.map (fun x => x.data.toList)) [44] = joinT (runsOf l) := by rw [hxr.out]; exact join_runs _
      have hJl : (joinT (runsOf l)).length ≤ 5 * l.length + 5 := by
        have := print_len HOK.out
        unfold printT at this
        rw [List.length_append] at this
        omega
      have J0 := Tryd.strings_Join g 0 vc xs ⟨#[44]⟩ wr (fun j x hj => by rw [Nat.zero_add]; exact hcells j x hj) hg (by omega) hcap (by show (Lib.join (xs.map (fun x => x.data.toList)) [44]).length ≤ _; rw [hJ]; omega)
      obtain ⟨JT, hJT⟩ : ∃ JT : ByteArray, JT = ⟨(joinT (runsOf l)).toArray⟩ := ⟨_, rfl⟩
      have J : Hid (Calls Tryd.prog 29 #[.slice (some ⟨g, 0, none⟩) xs.length vc, .string ⟨#[44]⟩] wr fun e w' => e = .returned (.string JT) ∧ Below wr.heap.size wr w') := by
        rw [hJT, ← hJ]; exact J0
      have hJs : JT.size ≤ 5 * l.length + 5 := by
        rw [hJT]
        show (joinT (runsOf l)).toArray.size ≤ _
        rw [List.size_toArray]; exact hJl
      have hF0 : Hid (m = 0 → JT = ⟨(printT l m).toArray⟩) := fun h => by
        rw [hJT, printT, mostT, if_pos h, List.append_nil]
      have hF1 : Hid (0 < m → JT ++ (⟨#[37]⟩ ++ digS m) = ⟨(printT l m).toArray⟩) := fun h => by
        rw [hJT, printT, mostT, if_neg (by omega)]
        apply ByteArray.ext
        apply Array.toList_inj.1
        simp [digS]
      have hml := HOK.out.most
      have hmd := digS_len 3 m (by omega)
      clear J0 hJ hJl hJT hcells hxr hruns hown hrest HLE HC HO2 HB2 B2 hx0 hcap hg
      go_wp2_with fail
      refine J.out.mono ?_; rintro e w2 ⟨rfl, b2⟩
      have hb2 := hbox.out.kept b2
      have k0 := hb2.cell 0
      have k1 := hb2.cell 1
      simp only [List.getElem?_toArray, List.getElem?_cons_zero, List.getElem?_cons_succ] at k0 k1
      have HB2 := Lib.hid (below_next b2 hB)
      have HK1 := Lib.hid k1
      have IM := Lib.hid (itoa_tab m w2 (by omega) (htb.out.next b2))
      clear hb2 b2 J hbox htb HBOX HTAB hB HB
      by_cases hm0 : 0 < m
      · have z : decide ((m : Int) > 0) = true := decide_eq_true (by omega)
        have zn : decide (0 < m) = true := decide_eq_true hm0
        have hF := Lib.hid (hF1.out hm0)
        clear hF0 hF1
        go_wp2_with fail
        refine IM.out.mono ?_; rintro e w3 ⟨rfl, b3⟩
        have HB3 := Lib.hid (below_next b3 HB2.out)
        clear b3 IM k0 k1
        go_wp2_with fail
        go_ret2
        exact ⟨by rw [hF.out]; rfl, HB3.out⟩
      · have z : decide ((m : Int) > 0) = false := decide_eq_false (by omega)
        have zn : decide (0 < m) = false := decide_eq_false hm0
        have hF := Lib.hid (hF0.out (by omega))
        clear hF0 hF1 IM
        go_wp2_with fail
        go_ret2
        exact ⟨by rw [hF.out]; rfl, HB2.out⟩
end Go.Proofs.YtdhkinknhjpjmaaDoor
