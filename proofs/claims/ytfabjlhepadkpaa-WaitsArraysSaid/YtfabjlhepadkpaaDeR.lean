/-
  gangerref08.Say.
-/
import Derived.Test.YtfabjlhepadkpaaDeO
import Derived.Test.YtfabjlhepadkpaaDeD
import Derived.Test.YtfabjlhepadkpaaDeKZ
namespace Go.Proofs.Ytfabjlhepadkpaa
open Go Go.RowKit Go.Lib
set_option linter.unusedVariables false

theorem fold_take (l : List Wh) (k : Int) (js : List Nat) (a : Int) {i : Nat} (h : i < js.length) : (sayJs l k (js.take (i + 1))).foldl stepS a = stepS ((sayJs l k (js.take i)).foldl stepS a) (ofT k (howL l js[i])) := by
  rw [sayJs_take l k js h, List.foldl_append]; rfl
/-- What has been counted. -/
def Cnts (s : List Int) (nv wt rd : Nat) : Prop := (0 < nv ↔ 3 ∈ s) ∧ (0 < wt ↔ 1 ∈ s) ∧ (0 < rd ↔ 2 ∈ s)
theorem Cnts.one {s : List Int} {nv wt rd : Nat} (h : Cnts s nv wt rd) : Cnts (s ++ [1]) nv (wt + 1) rd := by
  obtain ⟨h1, h2, h3⟩ := h
  refine ⟨?_, ?_, ?_⟩ <;> simp [*]
theorem Cnts.two {s : List Int} {nv wt rd : Nat} (h : Cnts s nv wt rd) : Cnts (s ++ [2]) nv wt (rd + 1) := by
  obtain ⟨h1, h2, h3⟩ := h
  refine ⟨?_, ?_, ?_⟩ <;> simp [*]
theorem Cnts.three {s : List Int} {nv wt rd : Nat} (h : Cnts s nv wt rd) : Cnts (s ++ [3]) (nv + 1) wt rd := by
  obtain ⟨h1, h2, h3⟩ := h
  refine ⟨?_, ?_, ?_⟩ <;> simp [*]
set_option maxRecDepth 100000 in
set_option maxHeartbeats 8000000 in
theorem rsay_any (any : Bool) (v : Value) (l : List NdM) (lv : Value) (wl : List Wh) (alone : Bool) (w : World) (h : NRw w v l) (hw : RowG 2 whV w lv wl) (hwn : wl.length ≤ 1048576) :
    Calls Try.prog 34 #[.agg #[.bool any, v], lv, .bool alone] w fun e w' => e = .returned (.int .i64 (sayB any alone wl (ndsOf l))) ∧ Below w.heap.size w w' := by
  obtain ⟨a, c, rfl⟩ := h.row.slice
  obtain ⟨r, hr⟩ : ∃ r, r = sayB any alone wl (ndsOf l) := ⟨_, rfl⟩
  have HR := Lib.hid hr
  rw [← hr]
  obtain ⟨gx, hgx⟩ : ∃ g, g = w.heap.size := ⟨_, rfl⟩
  obtain ⟨X, hX⟩ : ∃ X, X = w.alloc (.cells #[.bool any, .slice a l.length c] 35) := ⟨_, rfl⟩
  have hbX : Below w.heap.size w X := by rw [hX]; exact (Below.refl _ _).alloc (Nat.le_refl _) _
  have hbk : Blk X gx #[.bool any, .slice a l.length c] 35 := by rw [hX, hgx]; exact Blk.new w _ _
  have CK := Lib.hid (rcheck_any any (.slice a l.length c) l X (h.kept hbX))
  have HOW0 : Hid (∀ j W, Below X.heap.size X W → Calls Try.prog 43 #[lv, .int .u32 (j : Nat)] W fun e w' => e = .returned (.int .i64 (howL wl j)) ∧ w' = W) := fun j W hb => rhow_any lv wl j W ((hw.kept hbX).kept hb) hwn
  obtain ⟨N, hN⟩ : ∃ N, N = l.length := ⟨_, rfl⟩
  have HN := Lib.hid hN
  have HL := Lib.hid (h.kept hbX)
  obtain ⟨la, lc, rfl⟩ := hw.slice
  rw [← hN] at CK hX hbk ⊢
  have HBX := Lib.hid hbX
  have y0 := hbk.cell 0
  have y1 := hbk.cell 1
  simp at y0 y1
  have HXX := Lib.hid hX
  have HGX := Lib.hid hgx
  generalize wl.length = LW at *
  clear h hw hr hN hbX hbk hX hgx
  by_cases hok : okD any (ndsOf l)
  · have hck : chkD any (ndsOf l) = 0 := by unfold chkD; rw [if_pos hok]
    rw [hck] at CK
    have HOK := Lib.hid hok
    have HRD : Hid (r = sayD any alone wl (ndsOf l)) := by unfold Hid; rw [HR.out]; unfold sayB; rw [if_pos hok]
    have hN20 : N ≤ 20 := by have := hok.1; rw [ndsOf_len, ← HN.out] at this; exact this
    clear hck hok HR
    go_enter Try.func34, Try.ntmps34
    go_upto_region 1 with fail
    rw [← HGX.out, ← HXX.out]
    go_wp2_with fail
    refine CK.out.mono ?_; rintro e w1 ⟨rfl, b1⟩
    have HB1 := Lib.hid b1
    clear b1 CK
    go_wp2_with fail
    go_loopw [8, 9, 10, 11] (fun nv wv rv iv wr => ∃ (i x y z : Nat), nv = .int .i64 (x : Nat) ∧ wv = .int .i64 (y : Nat) ∧ rv = .int .i64 (z : Nat) ∧ iv = .int .i64 (i : Nat) ∧ i ≤ N ∧ x ≤ i ∧ y ≤ i ∧ z ≤ i ∧ Hid (Cnts ((ndsOf (l.take i)).map (sayN alone wl)) x y z) ∧ Hid (Below X.heap.size X wr)) (fun _ _ _ iv _ => N - (RowKit.intOf iv).toNat)
    case atStart => exact ⟨0, 0, 0, 0, rfl, rfl, rfl, rfl, Nat.zero_le _, Nat.le_refl _, Nat.le_refl _, Nat.le_refl _, ⟨by simp [ndsOf], by simp [ndsOf], by simp [ndsOf]⟩, HB1.out⟩
    case round =>
      obtain ⟨i, x, y, z, rfl, rfl, rfl, rfl, hi, hx, hy, hz, HC, HB⟩ := hrel
      have yy0 := cell_next HB.out y0
      have yy1 := cell_next HB.out y1
      by_cases hlt : i < N
      · have d1 : decide ((i : Int) < (N : Int)) = true := decide_eq_true (by omega)
        have d1' : decide (i < N) = true := decide_eq_true hlt
        have hii : (i : Int) < (N : Int) := by omega
        have hik : i < l.length := by rw [← HN.out]; exact hlt
        obtain ⟨bb, off, e, x0, x1, hu, hul⟩ := NRw.at HL.out HB.out hik
        subst e
        have hokn := okD_mem HOK.out (List.getElem_mem hik)
        have HT : Hid ((ndsOf (l.take (i + 1))).map (sayN alone wl) = (ndsOf (l.take i)).map (sayN alone wl) ++ [sayN alone wl (toNd l[i])]) := sayNs_take alone wl l hik
        obtain ⟨p, hp⟩ : ∃ p, p = l[i] := ⟨_, rfl⟩
        rw [← hp] at x0 x1 hu hul HT hokn
        obtain ⟨k, pv, js⟩ := p
        unfold toNd at HT hokn
        dsimp only at x0 x1 hu hul HT hokn
        obtain ⟨W, hW⟩ : ∃ W, W = wr.alloc (.cells #[.int .i64 k, pv] 58) := ⟨_, rfl⟩
        have hbW : Below wr.heap.size wr W := by rw [hW]; exact (Below.refl _ _).alloc (Nat.le_refl _) _
        have hbn : Blk W wr.heap.size #[.int .i64 k, pv] 58 := by rw [hW]; exact Blk.new _ _ _
        have HU := Lib.hid (hu.kept hbW)
        have z0 := hbn.cell 0
        have z1 := hbn.cell 1
        simp at z0 z1
        have HBW := Lib.hid (below_next hbW HB.out)
        obtain ⟨pa, pc, rfl⟩ := hu.slice
        obtain ⟨M, hM⟩ : ∃ M, M = js.length := ⟨_, rfl⟩
        have HM := Lib.hid hM
        obtain ⟨os, hos⟩ : ∃ o, o = sayN alone wl (k, js) := ⟨_, rfl⟩
        have HOS := Lib.hid hos
        rw [← hos] at HT
        have HNX : Hid (∀ x' y' z' wq, Below W.heap.size W wq → x' ≤ i + 1 → y' ≤ i + 1 → z' ≤ i + 1 → Cnts ((ndsOf (l.take i)).map (sayN alone wl) ++ [os]) x' y' z' → ∃ (i' x'' y'' z'' : Nat), Value.int .i64 (x' : Int) = .int .i64 (x'' : Nat) ∧ Value.int .i64 (y' : Int) = .int .i64 (y'' : Nat) ∧ Value.int .i64 (z' : Int) = .int .i64 (z'' : Nat) ∧ Value.int .i64 ((i : Int) + 1) = .int .i64 (i' : Nat) ∧ i' ≤ N ∧ x'' ≤ i' ∧ y'' ≤ i' ∧ z'' ≤ i' ∧ Hid (Cnts ((ndsOf (l.take i')).map (sayN alone wl)) x'' y'' z'') ∧ Hid (Below X.heap.size X wq)) := fun x' y' z' wq hb q1 q2 q3 q4 =>
          ⟨i + 1, x', y', z', rfl, rfl, rfl, by rw [Int.natCast_add]; rfl, hlt, q1, q2, q3, by unfold Hid; rw [HT.out]; exact q4, below_next hb HBW.out⟩
        rw [← hM] at x1 z1 hW
        obtain ⟨gn, hgn⟩ : ∃ g, g = wr.heap.size := ⟨_, rfl⟩
        rw [← hgn] at z0 z1
        clear hu hul hp hbW hbn hM hos
        go_upto_region 11 with fail
        rw [← hW, ← hgn]
        clear hW x0 x1 hgn
        by_cases k5 : k = 5
        · have hM0 : M = 0 := by
            rcases hokn with ⟨_, h2, _⟩ | ⟨_, h2⟩
            · dsimp only at h2; omega
            · rw [HM.out]; exact h2
          subst hM0
          subst k5
          cases alone with
          | true =>
            have ho2 : os = 2 := by rw [HOS.out]; rfl
            rw [ho2] at HNX
            have HK := Lib.hid (HNX.out x y (z + 1) W (Below.refl _ _) (by omega) (by omega) (by omega) HC.out.two)
            clear HNX HT HOS ho2
            go_wp2_with fail
            refine wp_loop_rounds 1 ?_; rw [rounds_succ]
            go_wp2_with fail
            go_roundw
            case rel => exact HK.out
            case measure => simp [RowKit.intOf]; omega
          | false =>
            have ho2 : os = 1 := by rw [HOS.out]; rfl
            rw [ho2] at HNX
            have HK := Lib.hid (HNX.out x (y + 1) z W (Below.refl _ _) (by omega) (by omega) (by omega) HC.out.one)
            clear HNX HT HOS ho2
            go_wp2_with fail
            refine wp_loop_rounds 1 ?_; rw [rounds_succ]
            go_wp2_with fail
            go_roundw
            case rel => exact HK.out
            case measure => simp [RowKit.intOf]; omega
        · have e5 : (k == 5) = false := by simpa using k5
          have hk14 : (1 ≤ k ∧ k ≤ 4) ∧ M ≤ 20 := by
            rcases hokn with ⟨h1, h2, _, h4, _⟩ | ⟨h1, _⟩
            · exact ⟨⟨h1, h2⟩, by rw [HM.out]; exact h4⟩
            · exact absurd h1 k5
          have HK14 := Lib.hid hk14.1
          have hM20 := hk14.2
          have HOS2 : Hid (os = (sayJs wl k js).foldl stepS 2) := by unfold Hid; rw [HOS.out, fold_two (sayJs_le _ _ _)]; unfold sayN; rw [if_neg k5]
          have HO3 : Hid (os = 1 ∨ os = 2 ∨ os = 3) := by unfold Hid; rw [HOS.out]; exact sayN_le _ _ _
          clear k5 hk14 hokn HOS
          go_wp2_with fail
          obtain ⟨wv, hwv⟩ : ∃ x, x = wr := ⟨_, rfl⟩
          subst hwv
          go_loopw [13, 14] (fun sv jv wr => ∃ (j : Nat) (σ : Int), sv = .int .i64 σ ∧ jv = .int .i64 (j : Nat) ∧ j ≤ M ∧ Hid (σ = (sayJs wl k (js.take j)).foldl stepS 2) ∧ Hid (Below W.heap.size W wr)) (fun _ jv _ => M - (RowKit.intOf jv).toNat)
          case atStart => exact ⟨0, 2, rfl, rfl, Nat.zero_le _, rfl, Below.refl _ _⟩
          case round =>
            obtain ⟨j, σ, rfl, rfl, hj, HS, HBj⟩ := hrel
            have zz0 := cell_next HBj.out z0
            have zz1 := cell_next HBj.out z1
            by_cases hjl : j < M
            · have j1 : decide ((j : Int) < (M : Int)) = true := decide_eq_true (by omega)
              have j1' : decide (j < M) = true := decide_eq_true hjl
              have jii : (j : Int) < (M : Int) := by omega
              have hjk : j < js.length := by rw [← HM.out]; exact hjl
              obtain ⟨b2, off2, e, hc2⟩ := RowG.at (HU.out.kept HBj.out) hjk
              subst e
              have u0 := hc2 wr (Below.refl _ _) 0 _ rfl
              simp only [Nat.mul_one, Nat.add_zero] at u0
              have HFT : Hid ((sayJs wl k (js.take (j + 1))).foldl stepS 2 = stepS σ (ofT k (howL wl js[j]))) := by unfold Hid; rw [fold_take wl k js 2 hjk, ← HS.out]
              obtain ⟨jb, hjb⟩ : ∃ x, x = js[j] := ⟨_, rfl⟩
              rw [← hjb] at u0 HFT
              have HOW : Hid (∀ wq, Below wr.heap.size wr wq → Calls Try.prog 43 #[.slice la LW lc, .int .u32 (jb : Nat)] wq fun e w' => e = .returned (.int .i64 (howL wl jb)) ∧ w' = wq) := fun wq hb => HOW0.out jb wq (below_next (below_next hb HBj.out) HBW.out)
              have OF : Hid (∀ wq, Calls Try.prog 42 #[.int .i64 k, .int .i64 (howL wl jb)] wq fun e w' => e = .returned (.int .i64 (ofT k (howL wl jb))) ∧ Below wq.heap.size wq w') := fun wq => of_any k (howL wl jb) wq HK14.out (howL_le wl jb)
              have hof := ofT_le k (howL wl jb)
              obtain ⟨hw, hhw⟩ : ∃ x, x = howL wl jb := ⟨_, rfl⟩
              rw [← hhw] at HOW OF hof HFT
              obtain ⟨ov, hov⟩ : ∃ x, x = ofT k hw := ⟨_, rfl⟩
              rw [← hov] at OF hof HFT
              have HOV := Lib.hid hof
              clear hc2 hjb hhw hov hof
              go_upto_region 17 with fail
              go_cut [15] (fun s wx => s = .int .i64 ov ∧ Hid (Below wr.heap.size wr wx))
              case first =>
                go_region_held3 (fun w' => w'.cell? ⟨gn, 0, none⟩ = some (.int .i64 k) ∧ w'.cell? ⟨gn, 1, none⟩ = some (.slice (some ⟨b2, off2, none⟩) M pc) ∧ w'.cell? ⟨b2, off2 + j, none⟩ = some (.int .u32 (jb : Nat)) ∧ Below wr.heap.size wr w')
                  (first
                    | exact ⟨zz0, zz1, u0, (Below.refl _ _).drew⟩
                    | exact ⟨zz0, zz1, u0, Below.refl _ _⟩
                    | assumption
                    | (rcases ‹_ ∧ _ ∧ _ ∧ Below wr.heap.size _ _› with ⟨q0, q1, q2, q5⟩; exact ⟨cell_next (by assumption) q0, cell_next (by assumption) q1, cell_next (by assumption) q2, below_next (by assumption) q5⟩))
                  (first
                    | (go_at_call 43; ((with_reducible refine (HOW.out _ (‹_ ∧ _ ∧ _ ∧ Below wr.heap.size _ _›).2.2.2).mono ?_); rintro e wm ⟨rfl, hwm⟩; replace hwm := hwm.symm; subst hwm))
                    | (go_at_call 42; ((with_reducible refine (OF.out _).mono ?_); rintro e wm ⟨rfl, bm⟩)))
                all_goals (have HBz := (‹_ ∧ _ ∧ _ ∧ Below wr.heap.size _ _›).2.2.2)
                all_goals (go_wp2_with fail)
                all_goals go_meet
                case rel => exact ⟨rfl, HBz⟩
              case rest =>
                obtain ⟨rfl, HBz⟩ := hcut
                have HBq := Lib.hid (below_next HBz.out HBj.out)
                rcases HOV.out with h | h | h
                · subst h
                  by_cases s3 : σ = 3
                  · have q1 : (σ != 3) = false := by simp [s3]
                    have HQ : Hid (σ = (sayJs wl k (js.take (j + 1))).foldl stepS 2) := by unfold Hid; rw [HFT.out]; unfold stepS; rw [if_neg (by rintro (h | ⟨_, h⟩); omega; exact h s3)]
                    clear s3
                    clear HFT HOV HS HOW OF
                    go_wp2_with fail
                    go_roundw
                    case rel => exact ⟨j + 1, σ, rfl, by go_num, hjl, HQ.out, HBq.out⟩
                    case measure => simp [RowKit.intOf]; omega
                  · have q1 : (σ != 3) = true := by simpa using s3
                    have HQ : Hid (1 = (sayJs wl k (js.take (j + 1))).foldl stepS 2) := by unfold Hid; rw [HFT.out]; unfold stepS; rw [if_pos (.inr ⟨rfl, s3⟩)]
                    clear s3
                    clear HFT HOV HS HOW OF
                    go_wp2_with fail
                    go_roundw
                    case rel => exact ⟨j + 1, 1, rfl, by go_num, hjl, HQ.out, HBq.out⟩
                    case measure => simp [RowKit.intOf]; omega
                · subst h
                  have HQ : Hid (σ = (sayJs wl k (js.take (j + 1))).foldl stepS 2) := by unfold Hid; rw [HFT.out]; unfold stepS; rw [if_neg (by rintro (h | ⟨h, _⟩) <;> omega)]
                  clear HFT HOV HS HOW OF
                  go_wp2_with fail
                  go_roundw
                  case rel => exact ⟨j + 1, σ, rfl, by go_num, hjl, HQ.out, HBq.out⟩
                  case measure => simp [RowKit.intOf]; omega
                · subst h
                  have HQ : Hid (3 = (sayJs wl k (js.take (j + 1))).foldl stepS 2) := by unfold Hid; rw [HFT.out]; unfold stepS; rw [if_pos (.inl rfl)]
                  clear HFT HOV HS HOW OF
                  go_wp2_with fail
                  go_roundw
                  case rel => exact ⟨j + 1, 3, rfl, by go_num, hjl, HQ.out, HBq.out⟩
                  case measure => simp [RowKit.intOf]; omega
            · have j1 : decide ((j : Int) < (M : Int)) = false := decide_eq_false (by omega)
              have j1' : decide (j < M) = false := decide_eq_false hjl
              have hso : σ = os := by
                rw [HOS2.out, HS.out, show js.take j = js by rw [show j = js.length by have := HM.out; omega]; exact List.take_length]
              rcases HO3.out with h | h | h
              · rw [h] at hso HNX
                have HK := Lib.hid (HNX.out x (y + 1) z wr HBj.out (by omega) (by omega) (by omega) HC.out.one)
                subst hso
                clear HNX HT HS HOS2 HO3 h
                go_wp2_with fail
                go_roundw
                case rel => exact HK.out
                case measure => simp [RowKit.intOf]; omega
              · rw [h] at hso HNX
                have HK := Lib.hid (HNX.out x y (z + 1) wr HBj.out (by omega) (by omega) (by omega) HC.out.two)
                subst hso
                clear HNX HT HS HOS2 HO3 h
                go_wp2_with fail
                go_roundw
                case rel => exact HK.out
                case measure => simp [RowKit.intOf]; omega
              · rw [h] at hso HNX
                have HK := Lib.hid (HNX.out (x + 1) y z wr HBj.out (by omega) (by omega) (by omega) HC.out.three)
                subst hso
                clear HNX HT HS HOS2 HO3 h
                go_wp2_with fail
                go_roundw
                case rel => exact HK.out
                case measure => simp [RowKit.intOf]; omega
      · have d1 : decide ((i : Int) < (N : Int)) = false := decide_eq_false (by omega)
        have d1' : decide (i < N) = false := decide_eq_false hlt
        obtain ⟨S, hS⟩ : ∃ S, S = (ndsOf l).map (sayN alone wl) := ⟨_, rfl⟩
        have hjt : l.take i = l := by rw [show i = l.length by have := HN.out; omega]; exact List.take_length
        have HCC : Hid (Cnts S x y z) := by have h := HC.out; rw [hjt, ← hS] at h; exact h
        have HSD : Hid (r = if any = true then best3 S else worst S) := by unfold Hid; rw [HRD.out, hS]; rfl
        have HB6 := Lib.hid (below_next HB.out HBX.out)
        clear HC HRD hS hjt
        cases any with
        | true =>
          by_cases hz0 : 0 < z
          · have g1 : decide ((z : Int) > 0) = true := decide_eq_true (by omega)
            have g1' : decide (0 < (z : Int)) = true := decide_eq_true (by omega)
            have g1'' : decide (0 < z) = true := decide_eq_true hz0
            have HE : Hid (r = 2) := by unfold Hid; rw [HSD.out, if_pos rfl]; unfold best3; rw [if_pos (HCC.out.2.2.1 hz0)]
            go_wp2_with fail
            go_ret
            exact ⟨by rw [HE.out]; rfl, HB6.out⟩
          · have g1 : decide ((z : Int) > 0) = false := decide_eq_false (by omega)
            have g1' : decide (0 < (z : Int)) = false := decide_eq_false (by omega)
            have g1'' : decide (0 < z) = false := decide_eq_false hz0
            by_cases hy0 : 0 < y
            · have g2 : decide ((y : Int) > 0) = true := decide_eq_true (by omega)
              have g2' : decide (0 < (y : Int)) = true := decide_eq_true (by omega)
              have g2'' : decide (0 < y) = true := decide_eq_true hy0
              have HE : Hid (r = 1) := by unfold Hid; rw [HSD.out, if_pos rfl]; unfold best3; rw [if_neg (fun h => hz0 (HCC.out.2.2.2 h)), if_pos (HCC.out.2.1.1 hy0)]
              go_wp2_with fail
              go_ret
              exact ⟨by rw [HE.out]; rfl, HB6.out⟩
            · have g2 : decide ((y : Int) > 0) = false := decide_eq_false (by omega)
              have g2' : decide (0 < (y : Int)) = false := decide_eq_false (by omega)
              have g2'' : decide (0 < y) = false := decide_eq_false hy0
              have HE : Hid (r = 3) := by unfold Hid; rw [HSD.out, if_pos rfl]; unfold best3; rw [if_neg (fun h => hz0 (HCC.out.2.2.2 h)), if_neg (fun h => hy0 (HCC.out.2.1.2 h))]
              go_wp2_with fail
              go_ret
              exact ⟨by rw [HE.out]; rfl, HB6.out⟩
        | false =>
          by_cases hx0 : x = 0
          · have g1 : ((x : Int) == 0) = true := by simp; omega
            have g1' : (x == 0) = true := by simp; omega
            have n3 : ¬ 3 ∈ S := fun h => by have := HCC.out.1.2 h; omega
            by_cases hy0 : y = 0
            · have g2 : ((y : Int) == 0) = true := by simp; omega
              have g2' : (y == 0) = true := by simp; omega
              have HE : Hid (r = 2) := by unfold Hid; rw [HSD.out, if_neg (by simp)]; unfold worst; rw [if_neg n3, if_neg (fun h => by have := HCC.out.2.1.2 h; omega)]
              clear n3
              subst hx0; subst hy0
              go_wp2_with fail
              go_ret
              exact ⟨by rw [HE.out]; rfl, HB6.out⟩
            · have g2 : ((y : Int) == 0) = false := by simp; omega
              have g2' : (y == 0) = false := by simp; omega
              have HE : Hid (r = 1) := by unfold Hid; rw [HSD.out, if_neg (by simp)]; unfold worst; rw [if_neg n3, if_pos (HCC.out.2.1.1 (by omega))]
              clear n3
              subst hx0
              go_wp2_with fail
              go_ret
              exact ⟨by rw [HE.out]; rfl, HB6.out⟩
          · have g1 : ((x : Int) == 0) = false := by simp; omega
            have g1' : (x == 0) = false := by simp; omega
            have HE : Hid (r = 3) := by unfold Hid; rw [HSD.out, if_neg (by simp)]; unfold worst; rw [if_pos (HCC.out.1.1 (by omega))]
            go_wp2_with fail
            go_ret
            exact ⟨by rw [HE.out]; rfl, HB6.out⟩
  · have hck : chkD any (ndsOf l) = 2 := by unfold chkD; rw [if_neg hok]
    rw [hck] at CK
    have HE : Hid (r = 0) := by unfold Hid; rw [HR.out]; unfold sayB; rw [if_neg hok]
    clear hck hok HR
    go_enter Try.func34, Try.ntmps34
    go_upto_region 1 with fail
    rw [← HGX.out, ← HXX.out]
    go_wp2_with fail
    refine CK.out.mono ?_; rintro e w1 ⟨rfl, b1⟩
    have HB5 := Lib.hid (below_next b1 HBX.out)
    clear b1 CK
    go_wp2_with fail
    go_ret
    exact ⟨by rw [HE.out]; rfl, HB5.out⟩
end Go.Proofs.Ytfabjlhepadkpaa
