/-
  SpoolSure: behind a crash there is some first part of what was added, with all that was sure, whatever was added: so the law returns true for every input.
-/
import Derived.Test.YtifcmapicpnkgaaSpoolN
import Derived.Test.YtifcmapicpnkgaaOpen
import Derived.Test.YtifcmapicpnkgaaRows
import Derived.Test.YtifcmapicpnkgaaArgs2
namespace Go.Proofs.Ytifcmapicpnkgaa.spoolSure
open Go.ChangeShapes Go.WideShapes Go.ChangeAt Go.RowKit
set_option linter.unusedVariables false

theorem own : ownKnob Try.prog.godebug = none := by kernel_rfl

open Go.Lib
set_option maxRecDepth 100000 in
set_option maxHeartbeats 1000000 in
theorem short (vl : Value) (l : List (List UInt8)) (vs : Value) (syncs : List Bool) (keep : Int) (w : World) (hl : RowOf w 1 (fun cs (xs : List UInt8) => ∃ v, cs = [v] ∧ Rd w (· < w.heap.size) v (bts xs)) vl l)
    (hs : RowOf w 1 (fun cs (b : Bool) => cs = [.bool b]) vs syncs) :
    Calls Try.prog 4 #[vl, vs, .int .i64 keep] w fun e w' => e = .returned (.bool true) ∧ Below w.heap.size w w' := by
  have HL := Lib.hid hl
  have HS := Lib.hid hs
  obtain ⟨A, c, rfl, hc1, hc2, _⟩ := hl
  obtain ⟨B, d, rfl, hd1, hd2, _⟩ := hs
  have HN := Lib.hid (new_any 1048576 w w.heap.size (by decide) (by decide) (Nat.le_refl _))
  unfold maxLen at hc2 hd2
  obtain ⟨i0, hi, hz0, hz1, hz2⟩ := info_parts Try.infoB
  go_enter Try.func4, Try.ntmps4
  go_wp2_with fail
  refine HN.out.mono ?_; rintro e w1 ⟨rfl, hs1, hb1, hz1⟩
  have S1 := Lib.hid hs1
  have B1 := Lib.hid hb1
  clear hs1 hb1 hz1
  go_wp2_with fail
  go_loopw [9, 10, 11] (fun av su i wr => ∃ (k : Nat) (xs : List UInt8) (N : Nat → Prop) (sure : Nat), k ≤ l.length ∧ k ≤ 60 ∧ xs.length ≤ k * 300 ∧ i = .int .i64 k ∧ su = .int .i64 sure ∧
      Sp wr w.heap.size N w.heap.size ⟨1048576, xs, sure, -1, false⟩ ∧ wr.ownsRow w.heap.size 5 1 av xs.length (bts xs) ∧ (∀ g, av.ownBlock = some g → ¬ N g) ∧ Below w.heap.size w wr)
    (fun _ _ i _ => 60 - (intOf i).toNat)
  case atStart => exact ⟨0, [], _, 0, Nat.zero_le _, Nat.zero_le _, Nat.zero_le _, rfl, rfl, S1.out, World.ownsRow_nil _ _ _ _, (fun g hg => by cases hg), B1.out⟩
  case round =>
    obtain ⟨k, xs, N, sure, hk1, hk2, hx, rfl, rfl, hs, ho, hN, hB⟩ := hrel
    have HSp := Lib.hid hs
    have HO := Lib.hid ho
    have HNN := Lib.hid hN
    have HX := Lib.hid hx
    obtain ⟨Av, cv, rfl, hcv, hcv2⟩ := owned_form ho
    clear hs ho hN hx
    by_cases hlt : k < l.length ∧ k < 60
    · obtain ⟨hlt1, hlt2⟩ := hlt
      have t1 : decide (k < l.length) = true := decide_eq_true hlt1
      have t1' : (k : Int) < l.length := by omega
      have t2 : decide ((k : Int) < 60) = true := decide_eq_true (by omega)
      obtain ⟨b, off, u, rfl, ⟨v, hv, hR⟩, hc, hbW⟩ := HL.out.at1 hB hlt1
      injection hv with hv _
      subst hv
      generalize l[k] = y at hR
      have HR := Lib.hid (Rd.kept hR hB)
      obtain ⟨Ay, cy, rfl, hy⟩ := rd_form hR
      unfold maxLen at hy
      clear hR
      by_cases hy3 : 300 < y.length
      · have t3 : decide ((y.length : Int) > 300) = true := decide_eq_true (by omega)
        go_wp2_with fail
        refine (known18_any _).mono ?_; rintro e w2 ⟨rfl, b2⟩
        go_wp2_with fail
        go_returns
        exact ⟨rfl, hB.trans (b2.mono hB.size)⟩
      · have t3 : decide ((y.length : Int) > 300) = false := decide_eq_false (by omega)
        obtain ⟨zs, hzs⟩ : ∃ zs, zs = xs ++ y := ⟨_, rfl⟩
        have HZ := Lib.hid hzs
        have LZ : Hid (zs.length = xs.length + y.length) := by rw [hzs, List.length_append]; rfl
        have HAd : Hid (addS ⟨1048576, xs, sure, -1, false⟩ y = (⟨1048576, zs, sure, -1, false⟩, 0)) := by show _ = _; rw [addS_ok _ _ rfl (by have := HX.out; simp; omega) neg1, hzs]
        clear hzs
        go_wp2_with fail
        refine (add_at HAd.out HSp.out (by exact HR.out) (fun b hb h => by have := (HSp.out.2.1 b h).1; have hb' : b < w.heap.size := hb; omega)).mono ?_; rintro e w2 ⟨rfl, h2⟩
        obtain ⟨N2, hs2, hF2, hO2⟩ := h2.other
        have S2 := Lib.hid hs2
        have hB2 := hB.trans (HSp.out.below hF2)
        have O2 := Lib.hid (owns_fr HO.out hF2 HNN.out)
        have NN2 : Hid (∀ g, (Value.slice Av xs.length cv).ownBlock = some g → ¬ N2 g) := fun g hg => hO2 g (owns_lt HO.out hg) (HNN.out g hg)
        have R2 : Hid (Src w2 1 (.slice Ay y.length cy) y.length (bts y)) := by have := rd_src (HR.out.fr hF2 fun b hb _ hn => by have := (HSp.out.2.1 b hn).1; have hb' : b < w.heap.size := hb; omega); rw [bts_len] at this; exact this
        have hc2 : w2.cell? ⟨b, off + k, none⟩ = some (.slice Ay y.length cy) := by
          have hlt := World.block_lt_of_cell? _ _ hc
          rw [World.cell?_of_block (w := wr) (hF2.block b hlt fun hn => by have := (HSp.out.2.1 b hn).1; omega)]
          exact hc
        clear h2 hs2 hF2 hO2
        go_wp2_with (at_builtin; refine wpList_app rfl _ _ 32 rfl w.heap.size 5 i0 _ 1 1 Try.underlying32 hi hz0 hz1 hz2 rfl (by decide) _ xs.length _ rfl O2.out _ y.length (bts y) rfl R2.out (bts_one y) ?q1 ?q2 ?q3 ?_)
        case q1 => have := HX.out; unfold maxLen; omega
        case q2 => have := HX.out; omega
        case q3 => exact hB2.size
        intro v3 w3 ho3 hg3 hb3
        have hO3 : w3.ownsRow w.heap.size 5 1 v3 zs.length (bts zs) := by rw [LZ.out, HZ.out, bts_app]; exact ho3
        have hown : ∀ b, (Value.slice Av xs.length cv).ownBlock = some b → w.heap.size ≤ b := fun b hb => owns_base O2.out hb
        have S3 := Lib.hid (S2.out.fr (N := N2) (M := fun b => (Value.slice Av xs.length cv).ownBlock = some b) (Fr.grown (Fr.refl _ _) hg3 fun b hb => .inl hb) fun b hb hv => NN2.out b hv hb)
        have hB3 := hB2.grown hg3 hB2.size hown
        have NN3 : Hid (∀ g, v3.ownBlock = some g → ¬ N2 g) := fun g hg hn => by
          rcases hb3 with h | h
          · exact NN2.out g (h ▸ hg) hn
          · rw [h] at hg
            have := S2.out.lt g hn
            obtain rfl : w2.heap.size = g := by simpa using hg
            omega
        have O3 := Lib.hid hO3
        have hzl : zs.length ≤ (k + 1) * 300 := by have := LZ.out; have := HX.out; omega
        have HZL := Lib.hid hzl
        obtain ⟨A3, c3, rfl, _⟩ := owned_form hO3
        clear ho3 hg3 hb3 hO3 hown hzl hc hc2
        by_cases hs1 : k < syncs.length
        · have t4 : decide (k < syncs.length) = true := decide_eq_true hs1
          have t4' : (k : Int) < syncs.length := by omega
          obtain ⟨b2, off2, u2, rfl, hv2, hc2, _⟩ := HS.out.at1 hB3 hs1
          injection hv2 with hv2 _
          subst hv2
          generalize syncs[k] = bb at *
          cases bb with
          | true =>
            go_wp2_with fail
            refine (sync_at (s' := ⟨1048576, zs, zs.length, -1, false⟩) (n := 0) (syncS_ok _ rfl neg1) S3.out).mono ?_; rintro e w4 ⟨rfl, h4⟩
            obtain ⟨N4, hs4, hF4, hO4⟩ := h4.other
            have S4 := Lib.hid hs4
            have O4 := Lib.hid (owns_fr O3.out hF4 NN3.out)
            have NN4 : Hid (∀ g, (Value.slice A3 zs.length c3).ownBlock = some g → ¬ N4 g) := fun g hg => hO4 g (owns_lt O3.out hg) (NN3.out g hg)
            have hB4 := hB3.trans (S3.out.below hF4)
            clear h4 hs4 hF4 hO4 hc2
            go_wp2_with fail
            go_roundw
            case rel => exact ⟨k + 1, zs, N4, zs.length, hlt1, hlt2, HZL.out, by go_num, rfl, S4.out, O4.out, NN4.out, hB4⟩
            case measure => simp [intOf]; omega
          | false =>
            go_wp2_with fail
            go_roundw
            case rel => exact ⟨k + 1, zs, N2, sure, hlt1, hlt2, HZL.out, by go_num, rfl, S3.out, O3.out, NN3.out, hB3⟩
            case measure => simp [intOf]; omega
        · have t4 : decide (k < syncs.length) = false := decide_eq_false hs1
          go_wp2_with fail
          go_roundw
          case rel => exact ⟨k + 1, zs, N2, sure, hlt1, hlt2, HZL.out, by go_num, rfl, S3.out, O3.out, NN3.out, hB3⟩
          case measure => simp [intOf]; omega
    · have hexit : k < l.length → ¬ k < 60 := fun h1 h2 => hlt ⟨h1, h2⟩
      have SU : Hid (sure ≤ xs.length) := HSp.out.1.1
      have hx : xs.length ≤ 18000 := by have := HX.out; omega
      obtain ⟨m, hm⟩ : ∃ m, m = sure + min keep.toNat (xs.length - sure) := ⟨_, rfl⟩
      have hmx : m ≤ xs.length := by have := SU.out; omega
      obtain ⟨ys, hys⟩ : ∃ ys, ys = xs.take m := ⟨_, rfl⟩
      have YS := Lib.hid hys
      have LY : Hid (ys.length = m) := by rw [hys, List.length_take]; simp [Hid]; omega
      have CR := Lib.hid (crash_at (k := keep) (s' := ⟨1048576, ys, m, -1, false⟩) (by rw [hys, hm]; rfl) HSp.out)
      clear hys
      have hmc : m ≤ cv := by omega
      have fin : Hid (∀ X : Int, X = m → ∃ m' : Nat, X = m' ∧ m' = m) := fun X hX => ⟨m, hX, rfl⟩
      have tlen : (sure != sure) = false := by simp
      have tlen2 : (xs.length != xs.length) = false := by simp
      have SUR := Lib.hid (sure_at (n := (sure : Int)) rfl HSp.out)
      have LEN := Lib.hid (len_at (n := (xs.length : Int)) rfl HSp.out)
      unfold maxLen at hcv2
      have hsi : (sure : Int) ≤ xs.length := by have := SU.out; omega
      by_cases h1 : k < l.length
      all_goals
        first
          | (have h2 : ¬ k < 60 := hexit h1
             have t1 : decide (k < l.length) = true := decide_eq_true h1
             have t1' : (k : Int) < l.length := by omega
             have t2 : decide ((k : Int) < 60) = false := decide_eq_false (by omega))
          | (have t1 : decide (k < l.length) = false := decide_eq_false h1)
        clear hexit hlt
        go_wp2_with fail
        refine SUR.out.mono ?_; rintro e wr ⟨rfl, rfl⟩
        go_wp2_with fail
        refine LEN.out.mono ?_; rintro e wr ⟨rfl, rfl⟩
        go_wp2_with fail
        refine CR.out.mono ?_; rintro e w4 ⟨rfl, h4⟩
        obtain ⟨N4, hs4, hF4, hO4⟩ := h4.other
        have S4 := Lib.hid hs4
        have O4 := Lib.hid (owns_fr HO.out hF4 HNN.out)
        have hB4 := hB.trans (HSp.out.below hF4)
        clear h4 hs4 hF4 hO4
        have SM : Hid (∀ wr g, Below w4.heap.size w4 wr → Blk wr g (bts ys).toArray 5 → Calls Try.prog 27 #[.slice (some ⟨g, 0, none⟩) ys.length ys.length, .slice Av m cv] wr fun e w' => e = .returned (.bool true) ∧ w' = wr) := fun wr g hb hg => by
          have := bySame_any (bytes_rd hg (by have := LY.out; unfold maxLen; omega)) (rd_take ((Rd.of_owns (K := fun _ => True) (by rw [bts_len]; exact O4.out) fun _ _ => trivial).kept hb) m hmx)
          rw [← YS.out, beq_self_eq_true] at this; exact this
        have BY : Hid (∀ wr, Below w4.heap.size w4 wr → Calls Try.prog 26 #[.pointer (some ⟨w.heap.size, 0, none⟩)] wr (BytesTo wr ys)) := fun wr hb => bytes_any (S4.out.kept hb) rfl
        have SU4 : Hid (∀ wr, Below w4.heap.size w4 wr → Calls Try.prog 29 #[.pointer (some ⟨w.heap.size, 0, none⟩)] wr fun e w' => e = .returned (.int .i64 m) ∧ w' = wr) := fun wr hb => sure_at (n := (m : Int)) rfl (S4.out.kept hb)
        have ON4 : Hid (∀ wr, Below w4.heap.size w4 wr → Calls Try.prog 30 #[.pointer (some ⟨w.heap.size, 0, none⟩)] wr fun e w' => e = .returned (.bool true) ∧ w' = wr) := fun wr hb => on_at (b := true) rfl (S4.out.kept hb)
        have KN : Hid (∀ wr, Calls Try.prog 9 #[] wr fun e w' => e = .returned (.bool true) ∧ Below wr.heap.size wr w') := fun wr => known18_any wr
        go_upto_region 21 with fail
        go_cut [12] (fun sl wx => sl = .int .i64 m ∧ wx = w4)
        case first =>
          go_wp2_with fail
          all_goals
            go_meet
            refine ⟨?_, rfl⟩
            congr 1
            have := SU.out
            split at * <;> omega
        case rest =>
          obtain ⟨hsl, hwx⟩ := hcut
          subst hsl
          have hwx' := hwx.symm
          clear hwx
          subst hwx'
          have hmi : (m : Int) ≤ cv := by omega
          clear hm
          go_wp2_with fail
          go_region_held3 (fun w' => Below w4.heap.size w4 w')
            (first
              | exact (Below.refl _ _).drew
              | assumption
              | exact below_next (by assumption) (by assumption))
            (first
              | (go_at_call 26; ((with_reducible refine (BY.out _ (by assumption)).mono ?_); rintro e w1 ⟨g, hg, rfl, hblk, bk⟩; have hbn := below_next bk (by assumption)))
              | (go_at_call 27; ((refine (SM.out _ _ (by assumption) (by assumption)).mono ?_); rintro e w1 ⟨rfl, rfl⟩))
              | (go_at_call 29; ((with_reducible refine (SU4.out _ (by assumption)).mono ?_); rintro e w1 ⟨rfl, rfl⟩))
              | (go_at_call 30; ((with_reducible refine (ON4.out _ (by assumption)).mono ?_); rintro e w1 ⟨rfl, rfl⟩))
              | (go_at_call 9; ((with_reducible refine (KN.out _).mono ?_); rintro e w1 ⟨rfl, bk⟩)))
          all_goals
            go_wp2_with fail
            go_returns
            exact ⟨rfl, hB4.trans ((by assumption : Below w4.heap.size w4 _).mono hB4.size)⟩
theorem walk (vl : Value) (l : List (List UInt8)) (vs : Value) (syncs : List Bool) (keep : Int) (w : World) (hl : RowOf w 1 (fun cs (xs : List UInt8) => ∃ v, cs = [v] ∧ Rd w (· < w.heap.size) v (bts xs)) vl l)
    (hs : RowOf w 1 (fun cs (b : Bool) => cs = [.bool b]) vs syncs) (w2 : (Lit.int .i64 keep).wf = true) :
    Calls Try.prog 4 #[vl, vs, .int .i64 keep] w fun e w' => e = .returned (.bool true) ∧ Below w.heap.size w w' :=
  short vl l vs syncs keep w hl hs


set_option maxRecDepth 100000 in
theorem lifted (os : Os) (started : os.Started) (H : Type) (enc : TypeId × Value → H) :
    ReturnsInHanded {} Try.checked os 4 .any (Rows.spoolSureSpec.pre6 enc Try.prog Try.f4 Rows.spoolSureRow.domain false) (Rows.spoolSureSpec.post enc Try.prog Try.f4 false true false false) := by
  refine returnsInHanded_of_change (C := Try.checked) own started (by kernel_rfl) Try.func4
    (ChangeSpec.witness6 (enc := enc) (C := Try.checked) false ⟨#[], #[.slice none 0 0, .slice none 0 0, .int .i64 0], []⟩ 8 (by kernel_rfl) (by kernel_rfl) (by kernel_rfl) (by kernel_rfl)) ?_
  intro W base args ds gs before hval0 hW _ _
  have hval : ∀ (j : Nat) t v, Try.f4.params[j]? = some t → args[j]? = some v → Value.okWide Try.prog W .any base t v := hval0
  have hW' := hW
  obtain ⟨p, q, hA0, hV, rfl, hfz, hnd⟩ := hW
  have hA : DataW.TrodAll enc Try.prog W 0 (fun _ => true) true Try.f4.params.toList args.toList ds p := hA0
  rw [Try.params4] at hA hval
  obtain ⟨v0, vs0, d0, ds0, p0, q0, hargs, rfl, rfl, h0, r0⟩ := trodAll_cons hA
  obtain ⟨v1, vs1, d1, ds1, p1, q1, rfl, rfl, rfl, h1, r1⟩ := trodAll_cons r0
  obtain ⟨v2, vs2, d2, ds2, p2, q2, rfl, rfl, rfl, h2, r2⟩ := trodAll_cons r1
  obtain ⟨rfl, rfl, rfl⟩ := trodAll_nil r2
  obtain rfl : args = #[v0, v1, v2] := by cases args; simp_all
  obtain ⟨l, w0⟩ := open_reader (reader_slice (size := 1) Try.underlying49 (by kernel_rfl) (by decide) (reader_bytes Try.underlying32 Try.underlying5 (by kernel_rfl))) h0 (okWide_slice Try.underlying49 (hval 0 49 v0 rfl rfl))
  obtain ⟨syncs, w1⟩ := open_reader (reader_slice (size := 1) Try.underlying50 (by kernel_rfl) (by decide) (reader_bool Try.underlying4)) h1 (okWide_slice Try.underlying50 (hval 1 50 v1 rfl rfl))
  obtain ⟨keep, rfl, rfl, rfl, w2⟩ := open_int Try.underlying3 (hval 2 3 v2 rfl rfl) h2
  clear hA0 hval0
  refine (walk v0 l v1 syncs keep W w0 w1 w2).mono fun e W' ⟨he, hb⟩ => ?_
  subst he
  exact ⟨_, rfl, law_post (by kernel_rfl) (by kernel_rfl) rfl Try.underlying4 rfl hW' rfl hb⟩

theorem over : Rows.spoolSureRow.holds Try.pinned (OpenSpec.ofChange Rows.spoolSureSpec) :=
  OpenClaim.holds_of_wide 4 Try.f4 rfl rfl rfl rfl rfl rfl rfl ⟨rfl, rfl, rfl, rfl, rfl⟩ rfl rfl rfl rfl rfl (by kernel_rfl) Try.func4 (by kernel_rfl)
    (of_decide_eq_true (by kernel_rfl)) (by unfold Func.isWrapper; first | (rw [if_pos (by decide +kernel)]; kernel_rfl) | (rw [if_neg (by decide +kernel)]; exact ⟨rfl, rfl⟩))
    (fun os started H enc _ => lifted os started H enc)

theorem proved : Rows.SpoolSureSaid :=
  over
#print axioms proved
end Go.Proofs.Ytifcmapicpnkgaa.spoolSure
