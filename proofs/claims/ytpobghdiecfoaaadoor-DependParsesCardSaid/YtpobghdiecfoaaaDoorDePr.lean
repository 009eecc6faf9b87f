/-
  depend.Print.
-/
import Derived.Test.YtpobghdiecfoaaaDoorDeMC
import Derived.Test.YtpobghdiecfoaaaDoorDePQS
import Derived.Test.YtpobghdiecfoaaaDoorSRw
import Derived.Test.YtpobghdiecfoaaaDoorFmU
import Derived.Deep.WholeRow
import Derived.Great.BuildSlice
import Derived.Deep.RegionLaw
import Derived.Deep.AppendLies
namespace Go.Proofs.YtpobghdiecfoaaaDoor
open Go Go.RowKit Go.Lib
set_option linter.unusedVariables false

theorem digS_strB (n : Nat) : digS n = strB (Lib.decDigits n) := rfl
theorem joinD_eq (c : UInt8) : ∀ l : List Nd, Lib.join (l.map needT) [c] = joinD c l
  | [] => rfl
  | [n] => by simp [Lib.join, List.intercalate, joinD]
  | n :: m :: r => by
    have ih := joinD_eq c (m :: r)
    rw [joinD_more c n (by simp), ← ih]
    simp [Lib.join, List.intercalate]
theorem jobsT_take (js : List Nat) {i : Nat} (h : i < js.length) : jobsT (js.take (i + 1)) = jobsT (js.take i) ++ 58 :: Lib.decDigits js[i] := by
  unfold jobsT; rw [List.take_add_one, List.getElem?_eq_getElem h, List.flatMap_append]; simp
theorem jobsT_len : ∀ (js : List Nat), (∀ j ∈ js, j < 4294967296) → (jobsT js).length ≤ 11 * js.length
  | [], _ => by simp [jobsT]
  | j :: r, h => by
    have h1 := decDigits_len 9 j (by have := h j (List.mem_cons_self); omega)
    have h2 := jobsT_len r (fun x hx => h x (List.mem_cons_of_mem _ hx))
    unfold jobsT at h2 ⊢
    rw [List.flatMap_cons, List.length_append, List.length_cons, List.length_cons]
    omega
theorem needT_len {n : Nd} (h : okN n) (hj : ∀ j ∈ n.2, j < 4294967296) : (needT n).length ≤ 230 := by
  have h1 := jobsT_len n.2 hj
  have h2 := kindT_len n.1
  have h3 : n.2.length ≤ 20 := by
    rcases h with ⟨_, _, _, h, _⟩ | ⟨_, h⟩
    · exact h
    · omega
  unfold needT
  rw [List.length_append]
  omega
theorem joinD_len (c : UInt8) : ∀ l : List Nd, (∀ n ∈ l, okN n) → (∀ n ∈ l, ∀ j ∈ n.2, j < 4294967296) → (joinD c l).length ≤ 231 * l.length
  | [], _, _ => by simp [joinD]
  | [n], h1, h2 => by
    rw [joinD_one]
    have := needT_len (h1 n (List.mem_cons_self)) (h2 n (List.mem_cons_self))
    simp; omega
  | n :: m :: r, h1, h2 => by
    rw [joinD_more c n (by simp), List.length_append, List.length_cons]
    have := needT_len (h1 n (List.mem_cons_self)) (h2 n (List.mem_cons_self))
    have := joinD_len c (m :: r) (fun x hx => h1 x (List.mem_cons_of_mem _ hx)) (fun x hx => h2 x (List.mem_cons_of_mem _ hx))
    simp only [List.length_cons] at this ⊢
    omega
def wordV (k : Nat) : Value := .string (strB (if k = 0 then [] else kindT k))
def rowW : Array Value := #[wordV 0, wordV 1, wordV 2, wordV 3, wordV 4, wordV 5]
def zW : Array Value := #[.string ⟨#[]⟩, .string ⟨#[]⟩, .string ⟨#[]⟩, .string ⟨#[]⟩, .string ⟨#[]⟩, .string ⟨#[]⟩]
theorem rowW_at {k : Nat} (h : 1 ≤ k ∧ k ≤ 5) : rowW[k]? = some (.string (strB (kindT k))) := by
  have : k = 1 ∨ k = 2 ∨ k = 3 ∨ k = 4 ∨ k = 5 := by omega
  rcases this with rfl | rfl | rfl | rfl | rfl <;> rfl
theorem zW_info : (Tryd.prog.info? 59).map (fun i => (i.zero, i.size)) = some (some (.agg zW), 6) := by kernel_rfl
theorem zW_val (w : World) : (zeroValue 59).run Tryd.prog w = .ok (.agg zW) w := (zero_of_info zW_info).1 w
theorem rowW_init (w : World) : (storeCells ⟨w.heap.size, 0, none⟩ rowW.toList 0).run Tryd.prog (w.alloc (.cells zW 59)) = .ok () (w.alloc (.cells rowW 59)) := by
  refine run_storeCells_new w _ _ _ ?_ rfl ?_
  · exact (zero_of_info zW_info).2
  · kernel_rfl
theorem sep_any (any : Bool) (w : World) : Calls Tryd.prog 28 #[.bool any] w fun e w' => e = .returned (.string (strB [sepA any])) ∧ w' = w := by
  cases any
  · go_enter Tryd.func28, Tryd.ntmps28
    go_wp2_with fail
    go_ret
    exact ⟨rfl, rfl⟩
  · go_enter Tryd.func28, Tryd.ntmps28
    go_wp2_with fail
    go_ret
    exact ⟨rfl, rfl⟩
set_option maxRecDepth 100000 in
set_option maxHeartbeats 8000000 in
theorem print8_any (any : Bool) (v : Value) (l : List NdM) (w : World) (h : NRw w v l) (hT : TabW w) :
    Calls Tryd.prog 14 #[.agg #[.bool any, v]] w fun e w' => e = .returned (.tuple #[.string (strB (printD any (ndsOf l)).1), .int .i64 (printD any (ndsOf l)).2]) ∧ Below w.heap.size w w' := by
  obtain ⟨a, c, rfl⟩ := h.row.slice
  obtain ⟨gx, hgx⟩ : ∃ g, g = w.heap.size := ⟨_, rfl⟩
  obtain ⟨X, hX⟩ : ∃ X, X = w.alloc (.cells #[.bool any, .slice a l.length c] 24) := ⟨_, rfl⟩
  have hbX : Below w.heap.size w X := by rw [hX]; exact (Below.refl _ _).alloc (Nat.le_refl _) _
  have hbk : Blk X gx #[.bool any, .slice a l.length c] 24 := by rw [hX, hgx]; exact Blk.new w _ _
  have CK := Lib.hid (check_any any (.slice a l.length c) l X (h.kept hbX))
  obtain ⟨N, hN⟩ : ∃ N, N = l.length := ⟨_, rfl⟩
  have HN := Lib.hid hN
  have HL := Lib.hid (h.kept hbX)
  have HT := Lib.hid (hT.next hbX)
  have HBG := Lib.hid h.small
  rw [← hN] at CK hX hbk ⊢
  have HBX := Lib.hid hbX
  have y0 := hbk.cell 0
  have y1 := hbk.cell 1
  simp at y0 y1
  have HXX := Lib.hid hX
  have HGX := Lib.hid hgx
  clear h hN hbX hbk hX hgx hT
  by_cases hok : okD any (ndsOf l)
  · have hck : chkD any (ndsOf l) = 0 := by unfold chkD; rw [if_pos hok]
    rw [hck] at CK
    have HOK := Lib.hid hok
    have hN20 : N ≤ 20 := by have := hok.1; rw [ndsOf_len, ← HN.out] at this; exact this
    have HPR : Hid (printD any (ndsOf l) = (joinD (sepA any) (ndsOf l), 0)) := if_pos hok
    rw [HPR.out]
    obtain ⟨R, hR⟩ : ∃ R, R = strB (joinD (sepA any) (ndsOf l)) := ⟨_, rfl⟩
    have HR := Lib.hid hR
    rw [← hR]
    have hst := rowW_init
    have hzv := zW_val
    have hzs : zW.size = 6 := rfl
    have hYs : rowW.size = 6 := rfl
    have hZ0 : ¬ zW = #[] := by intro e; rw [e] at hzs; simp at hzs
    have hY0 : ¬ rowW = #[] := by intro e; rw [e] at hYs; simp at hYs
    clear hck hok hR HPR
    go_enter Tryd.func14, Tryd.ntmps14
    go_upto_region 1 with fail
    rw [← HGX.out, ← HXX.out]
    go_wp2_with fail
    refine CK.out.mono ?_; rintro e w3 ⟨rfl, b1⟩
    have HB3 := Lib.hid b1
    clear b1 CK
    go_upto_region 4 with fail
    apply wp_region_lit
    refine wpList_buildTo rfl 59 _ rfl (some 17) rfl rowW (by as_aux_lemma => kernel_rfl) ?_
    go_upto_region 5 with fail
    obtain ⟨B4, hB4⟩ : ∃ b, b = w3.heap.size := ⟨_, rfl⟩
    obtain ⟨W4, hW4⟩ : ∃ x, x = w3.alloc (.cells rowW 59) := ⟨_, rfl⟩
    have hb4 : Blk W4 B4 rowW 59 := by rw [hW4, hB4]; exact Blk.new _ _ _
    have HK4 : Hid (∀ k : Nat, 1 ≤ k ∧ k ≤ 5 → W4.cell? ⟨B4, k, none⟩ = some (.string (strB (kindT k)))) := fun k hk => (hb4.cell k).trans (rowW_at hk)
    have HX4 : Hid (Below X.heap.size X W4) := by unfold Hid; rw [hW4]; exact HB3.out.alloc HB3.out.size _
    rw [← hB4, ← hW4]
    clear hB4 hW4 hb4 HB3
    obtain ⟨B0, hB0⟩ : ∃ b, b = W4.heap.size := ⟨_, rfl⟩
    obtain ⟨Y, hY⟩ : ∃ Y, Y = W4.alloc (.cells #[] 9) := ⟨_, rfl⟩
    have HBY : Hid (Below W4.heap.size W4 Y) := by unfold Hid; rw [hY]; exact (Below.refl _ _).alloc (Nat.le_refl _) _
    have HMY : Hid (SOwn Y B0 (.slice (some ⟨W4.heap.size, 0, none⟩) 0 0) []) := by unfold Hid SOwn; rw [hY, hB0]; exact World.ownsRow_made W4 #[] 0 (Nat.le_refl _) (Nat.zero_le _) (by simp)
    have HB0 := Lib.hid hB0
    clear hB0
    have yy1 := cell_next (below_next HBY.out HX4.out) y1
    go_upto_region 6 with fail
    rw [← hY]
    clear hY
    obtain ⟨i0, hi0, hz0, hz1, hz2⟩ := info_parts Tryd.infoStr8
    have HI := Lib.hid (And.intro hi0 (And.intro hz0 (And.intro hz1 hz2)))
    clear hi0 hz0 hz1 hz2
    go_wp2_with fail
    go_loopw [6, 22] (fun sv iv wr => ∃ i : Nat, i ≤ N ∧ iv = .int .i64 (i : Nat) ∧ Hid (SOwn wr B0 sv (((ndsOf l).take i).map needT)) ∧ Hid (Below W4.heap.size W4 wr)) (fun _ iv _ => N - (RowKit.intOf iv).toNat)
    case atStart => exact ⟨0, Nat.zero_le _, rfl, HMY.out, HBY.out⟩
    case round =>
      obtain ⟨i, hi, rfl, HO, HB⟩ := hrel
      by_cases hlt : i < N
      · have d1 : decide ((i : Int) < (N : Int)) = true := decide_eq_true (by omega)
        have d1' : decide (i < N) = true := decide_eq_true hlt
        have hii : (i : Int) < (N : Int) := by omega
        have hik : i < l.length := by rw [← HN.out]; exact hlt
        have hil : i < (ndsOf l).length := by rw [ndsOf_len]; exact hik
        have HXr := Lib.hid (below_next HB.out HX4.out)
        obtain ⟨bb, off, e, x0, x1, hu, hul⟩ := NRw.at HL.out HXr.out hik
        subst e
        have hokn := okD_mem HOK.out (List.getElem_mem hik)
        have hjs := HBG.out _ (List.getElem_mem hik)
        have HTK : Hid (((ndsOf l).take (i + 1)).map needT = ((ndsOf l).take i).map needT ++ [needT (toNd l[i])]) := by
          unfold Hid
          rw [List.take_add_one, List.getElem?_eq_getElem hil, List.map_append]
          simp [ndsOf]
        obtain ⟨p, hp⟩ : ∃ p, p = l[i] := ⟨_, rfl⟩
        rw [← hp] at x0 x1 hu hul hokn hjs HTK
        obtain ⟨k, pv, js⟩ := p
        unfold toNd at hokn HTK
        dsimp only at x0 x1 hu hul hokn hjs HTK
        have hj20 : js.length ≤ 20 := by
          rcases hokn with ⟨_, _, _, h4, _⟩ | ⟨_, h4⟩
          · exact h4
          · dsimp only at h4; omega
        have hk15 : 1 ≤ k ∧ k ≤ 5 := by
          rcases hokn with ⟨h1, h2, _⟩ | ⟨h1, _⟩
          · dsimp only at h1 h2; omega
          · dsimp only at h1; omega
        obtain ⟨k, rfl⟩ := Int.eq_ofNat_of_zero_le (show 0 ≤ k by omega)
        have hk1 : 1 ≤ k ∧ k ≤ 5 := by omega
        obtain ⟨W, hW⟩ : ∃ W, W = wr.alloc (.cells #[.int .i64 k, pv] 46) := ⟨_, rfl⟩
        have hbW : Below wr.heap.size wr W := by rw [hW]; exact (Below.refl _ _).alloc (Nat.le_refl _) _
        have hbn : Blk W wr.heap.size #[.int .i64 k, pv] 46 := by rw [hW]; exact Blk.new _ _ _
        have z0 := hbn.cell 0
        have z1 := hbn.cell 1
        simp at z0 z1
        have HBW := Lib.hid (below_next hbW HB.out)
        have k0 := cell_next HBW.out (HK4.out k hk1)
        have HOW : Hid (SOwn W B0 u6 (((ndsOf l).take i).map needT)) := own_older HO.out hbW
        have HUW := Lib.hid (hu.kept hbW)
        obtain ⟨pa, pc, rfl⟩ := hu.slice
        obtain ⟨M, hM⟩ : ∃ M, M = js.length := ⟨_, rfl⟩
        have HM := Lib.hid hM
        have hM20 : M ≤ 20 := by omega
        rw [← hM] at x1 z1 hW HUW
        have HJS := Lib.hid hjs
        obtain ⟨K, hK⟩ : ∃ K, K = strB (kindT k) := ⟨_, rfl⟩
        have hKs : K.size ≤ 10 := by rw [hK, strB_size]; exact kindT_len _
        rw [← hK] at k0
        have HK := Lib.hid hK
        have hk6 : (k : Int) < 6 := by omega
        have hk6' : k < 6 := by omega
        obtain ⟨BN, hBN⟩ : ∃ b, b = wr.heap.size := ⟨_, rfl⟩
        rw [← hBN] at z0 z1
        have HBN := Lib.hid hBN
        clear hu hul hp hbW hbn hM HO hokn hj20 hK hjs hil hk15 hk1 hBN
        go_upto_region 9 with fail
        rw [← hW, ← HBN.out]
        clear hW x0 x1
        have HTI : Hid (∀ q (h : q < js.length), jobsT (js.take (q + 1)) = jobsT (js.take q) ++ 58 :: Lib.decDigits js[q]) := fun q h => jobsT_take js h
        go_wp2_with fail
        go_loopw [9, 33] (fun tv qv wr => ∃ (q : Nat) (T : ByteArray), q ≤ M ∧ qv = .int .i64 (q : Nat) ∧ tv = .string T ∧ T.size ≤ 10 + 11 * q ∧ Hid (T = strB (kindT k ++ jobsT (js.take q))) ∧ Hid (Below W.heap.size W wr)) (fun _ qv _ => M - (RowKit.intOf qv).toNat)
        case atStart => exact ⟨0, K, Nat.zero_le _, rfl, rfl, by omega, by unfold Hid; rw [HK.out]; simp [jobsT], Below.refl _ _⟩
        case round =>
          obtain ⟨q, T, hq, rfl, rfl, hTs, HTT, HBq⟩ := hrel
          by_cases hql : q < M
          · have q1 : decide ((q : Int) < (M : Int)) = true := decide_eq_true (by omega)
            have q1' : decide (q < M) = true := decide_eq_true hql
            have qii : (q : Int) < (M : Int) := by omega
            have hqj : q < js.length := by rw [← HM.out]; exact hql
            obtain ⟨b2, off2, e, hc2⟩ := RowG.at (HUW.out.kept HBq.out) hqj
            subst e
            have u0 := hc2 wr (Below.refl _ _) 0 _ rfl
            simp only [Nat.mul_one, Nat.add_zero] at u0
            have HTQ := HTI.out q hqj
            have hj4 := HJS.out _ (List.getElem_mem hqj)
            obtain ⟨j, hj⟩ : ∃ x, x = js[q] := ⟨_, rfl⟩
            rw [← hj] at u0 HTQ hj4
            have FU := Lib.hid (fmtU_any j wr (by omega) (HT.out.next (below_next (below_next HBq.out HBW.out) HX4.out)))
            have hds := digS_len 9 j (by omega)
            have HTN : Hid (T ++ (⟨#[58]⟩ ++ digS j) = strB (kindT k ++ jobsT (js.take (q + 1)))) := by
              unfold Hid
              rw [HTQ, HTT.out, digS_strB, show (⟨#[58]⟩ : ByteArray) = strB [58] from rfl, strB_app, strB_app, List.append_assoc]
              rfl
            clear hc2 hj HTQ HTT
            go_wp2_with fail
            refine FU.out.mono ?_; rintro e w5 ⟨rfl, b5⟩
            have HB5 : Hid (Below W.heap.size W w5) := below_next b5 HBq.out
            clear b5 FU
            go_wp2_with fail
            go_roundw
            case rel => exact ⟨q + 1, _, hql, by go_num, rfl, by simp only [ByteArray.size_append]; show _ + (1 + _) ≤ _; omega, HTN.out, HB5.out⟩
            case measure => simp [RowKit.intOf]; omega
          · have q1 : decide ((q : Int) < (M : Int)) = false := decide_eq_false (by omega)
            have q1' : decide (q < M) = false := decide_eq_false hql
            have hqM : q = js.length := by rw [← HM.out]; omega
            have HTE : Hid (strB (needT ((k : Int), js)) = T) := by
              unfold Hid needT
              rw [HTT.out, hqM, List.take_length]
            have hIL : i ≤ 20 := by omega
            have hlen : (((ndsOf l).take i).map needT).length = i := by rw [List.length_map, List.length_take, ndsOf_len, ← HN.out]; omega
            have HLN := Lib.hid hlen
            have HOI : Hid (wr.ownsRow B0 9 1 u6 i (sL (((ndsOf l).take i).map needT))) := by
              have h := own_older HOW.out HBq.out
              rw [hlen] at h
              exact h
            obtain ⟨sa, sc, rfl⟩ := own_slice HOI.out
            have HBR := Lib.hid (below_next HBq.out HBW.out)
            have hBs : B0 ≤ wr.heap.size := by rw [HB0.out]; exact HBR.out.size
            obtain ⟨hi0, hz0, hz1, hz2⟩ := HI.out
            clear hlen hqM HTT HOW
            go_wp2_with (first | (at_builtin; refine wpList_app rfl _ _ 60 rfl B0 9 i0 _ 1 16 Tryd.underlying60 hi0 hz0 hz1 hz2 rfl (by decide) _ i _ rfl (HOI.out.alloc _) _ 1 [.string T] rfl ⟨rfl, .inr ⟨_, _, rfl, news_alloc wr [.string T] _⟩⟩ (fun u hu => by rw [List.mem_singleton.1 hu]; rfl) (by unfold maxLen; omega) (by omega) (by simp; omega) ?_; intro v8 w8 hown8 hgrow8 hat8))
            have HB8 : Hid (Below W4.heap.size W4 w8) := (HBR.out.alloc HBR.out.size _).grown hgrow8 (by have := HBR.out.size; simp; omega) (fun q hq => by have h1 := (HOI.out.lt q hq).1; rw [HB0.out] at h1; exact h1)
            have HO8 : Hid (SOwn w8 B0 v8 (((ndsOf l).take (i + 1)).map needT)) := by
              unfold Hid SOwn
              rw [HTK.out, sL_app, List.length_append, HLN.out]
              show w8.ownsRow B0 _ 1 v8 (i + 1) (_ ++ [.string (strB (needT _))])
              rw [HTE.out]
              exact hown8
            clear hown8 hgrow8 hat8
            go_wp2_with fail
            go_roundw
            case rel => exact ⟨i + 1, hlt, by go_num, HO8.out, HB8.out⟩
            case measure => simp [RowKit.intOf]; omega
      · have d1 : decide ((i : Int) < (N : Int)) = false := decide_eq_false (by omega)
        have d1' : decide (i < N) = false := decide_eq_false hlt
        obtain rfl : i = N := by omega
        have hjt : (ndsOf l).take i = ndsOf l := List.take_of_length_le (by rw [ndsOf_len]; exact Nat.le_of_eq HN.out.symm)
        have HO2 : Hid (SOwn wr B0 u6 ((ndsOf l).map needT)) := by have h := HO.out; rw [hjt] at h; exact h
        have hsm : ∀ n ∈ ndsOf l, ∀ j ∈ n.2, j < 4294967296 := fun n hn => by
          obtain ⟨p, hp, rfl⟩ := List.mem_map.1 hn
          exact HBG.out p hp
        have hll := joinD_len (sepA any) (ndsOf l) HOK.out.2.2 hsm
        rw [ndsOf_len, ← HN.out] at hll
        have JN := join_own HO2.out [sepA any] (by rw [List.length_map, ndsOf_len, ← HN.out]; omega) (by rw [joinD_eq]; omega)
        rw [joinD_eq, ← HR.out] at JN
        have HJN := Lib.hid JN
        have SE := Lib.hid (sep_any any wr)
        obtain ⟨S, hS⟩ : ∃ S, S = strB [sepA any] := ⟨_, rfl⟩
        rw [← hS] at HJN SE
        have HBW : Hid (Below w.heap.size w wr) := below_next (below_next HB.out HX4.out) HBX.out
        have y0' := cell_next (below_next HB.out HX4.out) y0
        have hln : ((ndsOf l).map needT).length = i := by rw [List.length_map, ndsOf_len, ← HN.out]
        have hOI := HO2.out
        unfold SOwn at hOI
        rw [hln] at hOI
        obtain ⟨sa, sc, rfl⟩ := own_slice hOI
        clear HO HO2 hjt JN hS hsm hll HB hOI hln
        go_wp2_with fail
        refine SE.out.mono ?_; rintro e w5 ⟨rfl, hw5⟩
        subst hw5
        go_wp2_with fail
        refine HJN.out.mono ?_; rintro e w6 ⟨rfl, b6⟩
        have HB6 := Lib.hid (below_next b6 HBW.out)
        clear b6
        go_wp2_with fail
        go_ret2
        exact ⟨rfl, HB6.out⟩
  · have hck : chkD any (ndsOf l) = 2 := by unfold chkD; rw [if_neg hok]
    rw [hck] at CK
    have HPR : printD any (ndsOf l) = ([], 2) := if_neg hok
    rw [HPR]
    clear hck hok
    go_enter Tryd.func14, Tryd.ntmps14
    go_upto_region 1 with fail
    rw [← HGX.out, ← HXX.out]
    go_wp2_with fail
    refine CK.out.mono ?_; rintro e w1 ⟨rfl, b1⟩
    have HB5 := Lib.hid (below_next b1 HBX.out)
    clear b1 CK
    go_wp2_with fail
    go_ret2
    exact ⟨rfl, HB5.out⟩
end Go.Proofs.YtpobghdiecfoaaaDoor
