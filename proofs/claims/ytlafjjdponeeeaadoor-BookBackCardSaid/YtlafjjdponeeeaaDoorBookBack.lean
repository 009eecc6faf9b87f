/-
  BookBack: a line that was written is read again as the charge was; what is read is written as the line was: so the law returns true for every input, the listed tables of Go's library reading as the program's text lays them.
-/
import Derived.Test.YtlafjjdponeeeaaDoorBkW
import Derived.Test.YtlafjjdponeeeaaDoorRows
import Derived.Test.YtlafjjdponeeeaaDoorArgs2
import Derived.Test.YtlafjjdponeeeaaDoorLaid
import Derived.Test.YtlafjjdponeeeaaDoorCards
import Derived.Test.YtlafjjdponeeeaaDoorTie
import Derived.MakeChecks
import Derived.SevenTiedAt
namespace Go.Proofs.YtlafjjdponeeeaaDoor.bookBack
open Go.ChangeShapes Go.WideShapes Go.ChangeAt Go.RowKit
set_option linter.unusedVariables false

theorem own : ownKnob Tryd.prog.godebug = none := by kernel_rfl

open Go Go.RowKit Go.Lib in
theorem wf_ok {c : Chg} (h : okCh c = true) (h0 : 0 ≤ c.id) (h1 : c.id ≤ 4294967295) : ChWf c := by
  obtain ⟨p1, p2, p3, p4, p5, p6⟩ := ok_parts h
  have := name_len p6
  exact ⟨h0, h1, by unfold I64; omega, by unfold I64; omega, by unfold I64; omega, by unfold I64; omega, by omega⟩
open Go Go.RowKit Go.Lib in
attribute [local go_sem ↓] chg_eql chg_neq chg_grd in
set_option maxRecDepth 100000 in
set_option maxHeartbeats 8000000 in
theorem walk (cid : Int) (ca : ByteArray) (cw cs ch cx : Int) (line : ByteArray) (w : World) (hE : EnvB w) (u0 : (Lit.int .u32 cid).wf = true) (u1 : ca.size ≤ maxLen) (u2 : (Lit.int .i64 cw).wf = true) (u3 : (Lit.int .i64 cs).wf = true) (u4 : (Lit.int .i64 ch).wf = true) (u5 : (Lit.int .i64 cx).wf = true) (hline : line.size ≤ maxLen) :
    Calls Tryd.prog 3 #[.agg #[.int .u32 cid, .string ca, .int .i64 cw, .int .i64 cs, .int .i64 ch, .int .i64 cx], .string line] w fun e w' => e = .returned (.bool true) ∧ Below w.heap.size w w' := by
  have K : Hid (∀ w1, Below w.heap.size w w1 → Calls Tryd.prog 8 #[] w1 fun e w' => e = .returned (.bool true) ∧ Below w1.heap.size w1 w') := fun w1 hb => known20_any w1 (hE.next hb)
  have hC := Lib.hid (Blk.new w #[.int .u32 cid, .string ca, .int .i64 cw, .int .i64 cs, .int .i64 ch, .int .i64 cx] 24)
  have B0 := Lib.hid ((Below.refl w.heap.size w).alloc (Nat.le_refl _) (.cells #[.int .u32 cid, .string ca, .int .i64 cw, .int .i64 cs, .int .i64 ch, .int .i64 cx] 24))
  obtain ⟨gC, hgC⟩ : ∃ g, g = w.heap.size := ⟨_, rfl⟩
  rw [← hgC] at hC
  have t1 : decide ((ca.size : Int) > 300) = decide (300 < ca.size) := decide_eq_decide.2 (by omega)
  have t2 : decide ((line.size : Int) > 600) = decide (600 < line.size) := decide_eq_decide.2 (by omega)
  by_cases hq1 : 300 < ca.size
  · have q1 : decide (300 < ca.size) = true := decide_eq_true hq1
    rw [q1] at t1
    have K0 := Lib.hid (K.out _ B0.out)
    clear hE u0 u1 u2 u3 u4 u5 hline hq1
    go_enter Tryd.func3, Tryd.ntmps3
    go_upto_region 1 with fail
    rw [← hgC]
    generalize w.alloc (.cells #[.int .u32 cid, .string ca, .int .i64 cw, .int .i64 cs, .int .i64 ch, .int .i64 cx] 24) = W0 at *
    clear hgC
    obtain ⟨c0, c1, c2, c3, c4, c5⟩ := ch0 (c := ⟨cid, ca, cw, cs, ch, cx⟩) hC.out
    dsimp only at c0 c1 c2 c3 c4 c5
    go_wp2_with fail
    refine K0.out.mono ?_; rintro e w1 ⟨rfl, b1⟩
    have B1 := Lib.hid (below_next b1 B0.out)
    clear b1 c0 c1 c2 c3 c4 c5
    go_wp2_with fail
    go_ret
    exact ⟨rfl, B1.out⟩
  have q1 : decide (300 < ca.size) = false := decide_eq_false hq1
  rw [q1] at t1
  by_cases hq2 : 600 < line.size
  · have q2 : decide (600 < line.size) = true := decide_eq_true hq2
    rw [q2] at t2
    have K0 := Lib.hid (K.out _ B0.out)
    clear hE u0 u1 u2 u3 u4 u5 hline hq1 hq2
    go_enter Tryd.func3, Tryd.ntmps3
    go_upto_region 1 with fail
    rw [← hgC]
    generalize w.alloc (.cells #[.int .u32 cid, .string ca, .int .i64 cw, .int .i64 cs, .int .i64 ch, .int .i64 cx] 24) = W0 at *
    clear hgC
    obtain ⟨c0, c1, c2, c3, c4, c5⟩ := ch0 (c := ⟨cid, ca, cw, cs, ch, cx⟩) hC.out
    dsimp only at c0 c1 c2 c3 c4 c5
    go_wp2_with fail
    refine K0.out.mono ?_; rintro e w1 ⟨rfl, b1⟩
    have B1 := Lib.hid (below_next b1 B0.out)
    clear b1 c0 c1 c2 c3 c4 c5
    go_wp2_with fail
    go_ret
    exact ⟨rfl, B1.out⟩
  have q2 : decide (600 < line.size) = false := decide_eq_false hq2
  rw [q2] at t2
  have hcw : ChWf ⟨cid, ca, cw, cs, ch, cx⟩ := ⟨(wf_u32' u0).1, (wf_u32' u0).2, wf_i64' u2, wf_i64' u3, wf_i64' u4, wf_i64' u5, by dsimp only; omega⟩
  have LN : Hid (∀ c w', Below w.heap.size w w' → ChWf c → Calls Tryd.prog 9 #[chV c] w' fun e w'' => e = .returned (.tuple #[.string (lineR c).1, .int .i64 (lineR c).2]) ∧ Below w'.heap.size w' w'') := fun c w' hb hw => lineBk_any c w' hw (hE.next hb)
  have PL : Hid (∀ w', Below w.heap.size w w' → Calls Tryd.prog 10 #[.string line] w' fun e w'' => e = .returned (.tuple #[chV (parseL line.data.toList).1, .int .i64 (parseL line.data.toList).2]) ∧ Below w'.heap.size w' w'') := fun w' hb => parseBk_any line w' (by omega) (hE.next hb)
  have PE : Hid ((∃ x, parseL line.data.toList = (x, 0) ∧ okCh x = true ∧ ChWf x ∧ lineR x = (line, 0)) ∨ ∃ E : Int, parseL line.data.toList = (zeroCh, E) ∧ (E = 60 ∨ E = 200)) := by
    rcases parse_end line.data.toList with ⟨x, h⟩ | h | h
    · obtain ⟨h1, h2, h3, h4⟩ := line_parse h
      refine .inl ⟨x, h, h1, wf_ok h1 h3 h4, ?_⟩
      unfold lineR; rw [if_pos h1, h2]
    · exact .inr ⟨_, h, .inl rfl⟩
    · exact .inr ⟨_, h, .inr rfl⟩
  have HL0 := Lib.hid (LN.out _ _ B0.out hcw)
  have LK : Hid (okCh ⟨cid, ca, cw, cs, ch, cx⟩ = true → lineR ⟨cid, ca, cw, cs, ch, cx⟩ = (⟨(lineT ⟨cid, ca, cw, cs, ch, cx⟩).toArray⟩, 0) ∧ ∀ w', Below w.heap.size w w' → Calls Tryd.prog 10 #[.string ⟨(lineT ⟨cid, ca, cw, cs, ch, cx⟩).toArray⟩] w' fun e w'' => e = .returned (.tuple #[chV ⟨cid, ca, cw, cs, ch, cx⟩, .int .i64 0]) ∧ Below w'.heap.size w' w'') := fun h => by
    refine ⟨by unfold lineR; rw [if_pos h], fun w' hb => ?_⟩
    have hsz : (lineT ⟨cid, ca, cw, cs, ch, cx⟩).length ≤ 1000 := by
      obtain ⟨p1, p2, p3, p4, p5, p6⟩ := ok_parts h
      have i1 := hcw.id1
      have l1 : (Lib.decDigits cid.toNat).length ≤ 19 := D_short 18 _ (by have := hcw.id1; dsimp only at this; omega)
      have l2 : (Lib.decDigits cw.toNat).length ≤ 19 := D_short 18 _ (by dsimp only at p2; omega)
      have l3 : (Lib.decDigits cs.toNat).length ≤ 19 := D_short 18 _ (by dsimp only at p3; omega)
      have l4 : (Lib.decDigits cx.toNat).length ≤ 19 := D_short 18 _ (by dsimp only at p4; omega)
      have l5 := howT_len ch
      have l6 : ca.data.toList.length = ca.size := sl_size ca
      unfold lineT
      simp only [List.length_append, List.length_cons]
      omega
    have := parseBk_any ⟨(lineT ⟨cid, ca, cw, cs, ch, cx⟩).toArray⟩ w' (by rw [mk_size]; omega) (hE.next hb)
    rw [mk_toList, parse_line h (wf_u32' u0).1 (wf_u32' u0).2] at this
    exact this
  have LZ : Hid (okCh ⟨cid, ca, cw, cs, ch, cx⟩ = false → lineR ⟨cid, ca, cw, cs, ch, cx⟩ = (⟨#[]⟩, 200)) := fun h => by unfold lineR; rw [h]; rfl
  have CE := ceqB_refl ⟨cid, ca, cw, cs, ch, cx⟩
  generalize okCh ⟨cid, ca, cw, cs, ch, cx⟩ = ok at *
  clear hE u0 u1 u2 u3 u4 u5 hline hcw
  go_enter Tryd.func3, Tryd.ntmps3
  go_upto_region 1 with fail
  rw [← hgC]
  generalize w.alloc (.cells #[.int .u32 cid, .string ca, .int .i64 cw, .int .i64 cs, .int .i64 ch, .int .i64 cx] 24) = W0 at *
  clear hgC
  obtain ⟨c0, c1, c2, c3, c4, c5⟩ := ch0 (c := ⟨cid, ca, cw, cs, ch, cx⟩) hC.out
  dsimp only at c0 c1 c2 c3 c4 c5
  go_wp2_with fail
  refine HL0.out.mono ?_; rintro e w1 ⟨rfl, b1⟩
  have hC1 := Lib.hid (hC.out.kept b1)
  have B1 := Lib.hid (below_next b1 B0.out)
  clear c0 c1 c2 c3 c4 c5 hC B0 b1 HL0
  have q600 : ((600 : Int) > 600) = False := by simp
  cases ok
  · have hl := LZ.out rfl
    rw [hl]
    clear LK LZ hl CE hC1
    go_wp2_with fail
    refine (PL.out _ B1.out).mono ?_; rintro e w9 ⟨rfl, b9⟩
    have B9 := Lib.hid (below_next b9 B1.out)
    clear b9
    rcases PE.out with ⟨x, hx, hxo, hxw, hxl⟩ | ⟨E, hx, hE2⟩
    · rw [hx]
      have hX := Lib.hid (Blk.new w9 (chCs x) 24)
      have B10 := Lib.hid (B9.out.alloc B9.out.size (.cells (chCs x) 24))
      obtain ⟨gX, hgX⟩ : ∃ g, g = w9.heap.size := ⟨_, rfl⟩
      rw [← hgX] at hX
      have HL10 := Lib.hid (LN.out x _ B10.out hxw)
      rw [hxl] at HL10
      obtain ⟨i0, i1, i2, i3, i4, i5⟩ := x
      dsimp only at *
      clear hx hxo hxw hxl
      go_upto_region 9 with fail
      rw [← hgX]
      generalize w9.alloc (.cells #[.int .u32 i0, .string i1, .int .i64 i2, .int .i64 i3, .int .i64 i4, .int .i64 i5] 24) = W9 at *
      clear hgX
      obtain ⟨x0, x1, x2, x3, x4, x5⟩ := ch0 (c := ⟨i0, i1, i2, i3, i4, i5⟩) hX.out
      dsimp only at x0 x1 x2 x3 x4 x5
      go_wp2_with fail
      refine HL10.out.mono ?_; rintro e w11 ⟨rfl, b11⟩
      have B11 := Lib.hid (below_next b11 B10.out)
      have K11 := Lib.hid (K.out _ B11.out)
      clear b11 HL10 hX B10 B9 x0 x1 x2 x3 x4 x5
      go_wp2_with fail
      refine K11.out.mono ?_; rintro e w12 ⟨rfl, b12⟩
      have B12 := Lib.hid (below_next b12 B11.out)
      clear b12 B11 K11
      go_wp2_with fail
      go_ret
      exact ⟨rfl, B12.out⟩
    · rw [hx]
      have hX := Lib.hid (Blk.new w9 (chCs zeroCh) 24)
      have B10 := Lib.hid (B9.out.alloc B9.out.size (.cells (chCs zeroCh) 24))
      obtain ⟨gX, hgX⟩ : ∃ g, g = w9.heap.size := ⟨_, rfl⟩
      rw [← hgX] at hX
      have K10 := Lib.hid (K.out _ B10.out)
      unfold zeroCh at *
      clear hx
      go_upto_region 9 with fail
      rw [← hgX]
      generalize w9.alloc (.cells #[.int .u32 0, .string ⟨#[]⟩, .int .i64 0, .int .i64 0, .int .i64 0, .int .i64 0] 24) = W9 at *
      clear hgX
      obtain ⟨x0, x1, x2, x3, x4, x5⟩ := ch0 (c := ⟨0, ⟨#[]⟩, 0, 0, 0, 0⟩) hX.out
      dsimp only at x0 x1 x2 x3 x4 x5
      rcases hE2 with rfl | rfl
      · go_wp2_with fail
        refine K10.out.mono ?_; rintro e w12 ⟨rfl, b12⟩
        have B12 := Lib.hid (below_next b12 B10.out)
        clear b12 B10 K10
        go_wp2_with fail
        go_ret
        exact ⟨rfl, B12.out⟩
      · go_wp2_with fail
        refine K10.out.mono ?_; rintro e w12 ⟨rfl, b12⟩
        have B12 := Lib.hid (below_next b12 B10.out)
        clear b12 B10 K10
        go_wp2_with fail
        go_ret
        exact ⟨rfl, B12.out⟩
  · obtain ⟨hl, hp⟩ := LK.out rfl
    rw [hl]
    have PK := Lib.hid (hp _ B1.out)
    clear LK LZ hl hp
    generalize (⟨(lineT ⟨cid, ca, cw, cs, ch, cx⟩).toArray⟩ : ByteArray) = txt at *
    go_wp2_with fail
    refine PK.out.mono ?_; rintro e w2 ⟨rfl, b2⟩
    have hC2 := Lib.hid (hC1.out.kept b2)
    have B2 := Lib.hid (below_next b2 B1.out)
    have hY := Lib.hid (Blk.new w2 #[.int .u32 cid, .string ca, .int .i64 cw, .int .i64 cs, .int .i64 ch, .int .i64 cx] 24)
    have hC3 := Lib.hid (hC2.out.old (.cells #[.int .u32 cid, .string ca, .int .i64 cw, .int .i64 cs, .int .i64 ch, .int .i64 cx] 24))
    have B3 := Lib.hid (B2.out.alloc B2.out.size (.cells #[.int .u32 cid, .string ca, .int .i64 cw, .int .i64 cs, .int .i64 ch, .int .i64 cx] 24))
    obtain ⟨gY, hgY⟩ : ∃ g, g = w2.heap.size := ⟨_, rfl⟩
    rw [← hgY] at hY
    clear b2 hC1 B1 hC2 B2 PK
    go_upto_region 6 with fail
    rw [← hgY]
    generalize w2.alloc (.cells #[.int .u32 cid, .string ca, .int .i64 cw, .int .i64 cs, .int .i64 ch, .int .i64 cx] 24) = W2 at *
    clear hgY
    obtain ⟨c0, c1, c2, c3, c4, c5⟩ := ch0 (c := ⟨cid, ca, cw, cs, ch, cx⟩) hC3.out
    obtain ⟨y0, y1, y2, y3, y4, y5⟩ := ch0 (c := ⟨cid, ca, cw, cs, ch, cx⟩) hY.out
    dsimp only at c0 c1 c2 c3 c4 c5 y0 y1 y2 y3 y4 y5
    have EQ2 : ∀ W : World, Sem.run Tryd.prog (binOp .neq 24 (.agg #[.int .u32 cid, .string ca, .int .i64 cw, .int .i64 cs, .int .i64 ch, .int .i64 cx]) (.agg #[.int .u32 cid, .string ca, .int .i64 cw, .int .i64 cs, .int .i64 ch, .int .i64 cx])) W = .ok (.bool false) W := fun W => by
      have := chg_neq ⟨cid, ca, cw, cs, ch, cx⟩ ⟨cid, ca, cw, cs, ch, cx⟩ W
      rwa [CE] at this
    go_upto_region 8 with fail
    clear c0 c1 c2 c3 c4 c5 y0 y1 y2 y3 y4 y5 hC3 hY EQ2 CE
    go_wp2_with fail
    refine (PL.out _ B3.out).mono ?_; rintro e w9 ⟨rfl, b9⟩
    have B9 := Lib.hid (below_next b9 B3.out)
    clear b9
    rcases PE.out with ⟨x, hx, hxo, hxw, hxl⟩ | ⟨E, hx, hE2⟩
    · rw [hx]
      have hX := Lib.hid (Blk.new w9 (chCs x) 24)
      have B10 := Lib.hid (B9.out.alloc B9.out.size (.cells (chCs x) 24))
      obtain ⟨gX, hgX⟩ : ∃ g, g = w9.heap.size := ⟨_, rfl⟩
      rw [← hgX] at hX
      have HL10 := Lib.hid (LN.out x _ B10.out hxw)
      rw [hxl] at HL10
      obtain ⟨i0, i1, i2, i3, i4, i5⟩ := x
      dsimp only at *
      clear hx hxo hxw hxl
      go_upto_region 9 with fail
      rw [← hgX]
      generalize w9.alloc (.cells #[.int .u32 i0, .string i1, .int .i64 i2, .int .i64 i3, .int .i64 i4, .int .i64 i5] 24) = W9 at *
      clear hgX
      obtain ⟨x0, x1, x2, x3, x4, x5⟩ := ch0 (c := ⟨i0, i1, i2, i3, i4, i5⟩) hX.out
      dsimp only at x0 x1 x2 x3 x4 x5
      go_wp2_with fail
      refine HL10.out.mono ?_; rintro e w11 ⟨rfl, b11⟩
      have B11 := Lib.hid (below_next b11 B10.out)
      have K11 := Lib.hid (K.out _ B11.out)
      clear b11 HL10 hX B10 B9 x0 x1 x2 x3 x4 x5
      go_wp2_with fail
      refine K11.out.mono ?_; rintro e w12 ⟨rfl, b12⟩
      have B12 := Lib.hid (below_next b12 B11.out)
      clear b12 B11 K11
      go_wp2_with fail
      go_ret
      exact ⟨rfl, B12.out⟩
    · rw [hx]
      have hX := Lib.hid (Blk.new w9 (chCs zeroCh) 24)
      have B10 := Lib.hid (B9.out.alloc B9.out.size (.cells (chCs zeroCh) 24))
      obtain ⟨gX, hgX⟩ : ∃ g, g = w9.heap.size := ⟨_, rfl⟩
      rw [← hgX] at hX
      have K10 := Lib.hid (K.out _ B10.out)
      unfold zeroCh at *
      clear hx
      go_upto_region 9 with fail
      rw [← hgX]
      generalize w9.alloc (.cells #[.int .u32 0, .string ⟨#[]⟩, .int .i64 0, .int .i64 0, .int .i64 0, .int .i64 0] 24) = W9 at *
      clear hgX
      obtain ⟨x0, x1, x2, x3, x4, x5⟩ := ch0 (c := ⟨0, ⟨#[]⟩, 0, 0, 0, 0⟩) hX.out
      dsimp only at x0 x1 x2 x3 x4 x5
      rcases hE2 with rfl | rfl
      · go_wp2_with fail
        refine K10.out.mono ?_; rintro e w12 ⟨rfl, b12⟩
        have B12 := Lib.hid (below_next b12 B10.out)
        clear b12 B10 K10
        go_wp2_with fail
        go_ret
        exact ⟨rfl, B12.out⟩
      · go_wp2_with fail
        refine K10.out.mono ?_; rintro e w12 ⟨rfl, b12⟩
        have B12 := Lib.hid (below_next b12 B10.out)
        clear b12 B10 K10
        go_wp2_with fail
        go_ret
        exact ⟨rfl, B12.out⟩


set_option maxRecDepth 100000 in
theorem lifted (os : Os) (started : os.Started) (H : Type) (enc : TypeId × Value → H) :
    ReturnsInHanded {} Tryd.checked os 3 .any (fun w args => (Rows.bookBackSpec.pre enc Tryd.prog Tryd.f3 Rows.bookBackRow.domain false w args ∧ laidMetH Tryd.prog laid20 w) ∧ sizedMet enc Tryd.prog Tryd.f3 (OpenSpec.ofChange Rows.bookBackSpec) false w args) (Rows.bookBackSpec.post enc Tryd.prog Tryd.f3 false true false false) := by
  refine laid_lift (C := Tryd.checked) (X := fun w _ => laidMetH Tryd.prog laid20 w) (fun _ _ _ hh h => h.of_heap hh) own started (by kernel_rfl) Tryd.func3
    (ChangeSpec.witness_shaped (enc := enc) (C := Tryd.checked) (os := os) (X := fun w _ => laidMetH Tryd.prog laid20 w) false (World.laidAll Tryd.prog os laid20) #[.agg #[.int .u32 0, .string ByteArray.empty, .int .i64 0, .int .i64 0, .int .i64 0, .int .i64 0], .string ByteArray.empty] 8 (World.laidAll_os _ _ _)
      (World.shaped_of_ZipB (by kernel_rfl) (by kernel_rfl)) (by kernel_rfl) (by kernel_rfl) (by kernel_rfl)
      (by rw [MakeChecks.laidMetH_plain _ _ _ (by kernel_rfl)]; exact laidMet_laidAll _ (by kernel_rfl) (by kernel_rfl))) ?_
  intro W base args ds gs before hval0 hW hsz0 hL hS
  have hE := env20_of hL hS
  have hval : ∀ (j : Nat) t v, Tryd.f3.params[j]? = some t → args[j]? = some v → Value.okWide Tryd.prog W .any base t v := hval0
  have hW' := hW
  obtain ⟨p, q, hA0, hV, rfl, hfz, hnd⟩ := hW
  have hA : DataW.TrodAll enc Tryd.prog W 0 (fun _ => true) true Tryd.f3.params.toList args.toList ds p := hA0
  rw [Tryd.params3] at hA hval
  obtain ⟨v0, vs0, d0, ds0, p0, q0, hargs, rfl, rfl, h0, r0⟩ := trodAll_cons hA
  obtain ⟨v1, vs1, d1, ds1, p1, q1, rfl, rfl, rfl, h1, r1⟩ := trodAll_cons r0
  obtain ⟨rfl, rfl, rfl⟩ := trodAll_nil r1
  obtain rfl : args = #[v0, v1] := by cases args; simp_all
  obtain ⟨cs0, rfl, hs0, hf0⟩ := open_plain_struct Tryd.underlying24 (by kernel_rfl) (by kernel_rfl) (hval 0 24 v0 rfl rfl) h0
  obtain ⟨c0_0, y0_0, n0_0, e0_0, t0_0⟩ := hf0 0 _ rfl
  obtain ⟨cid, rfl, w0_0⟩ := field_int Tryd.underlying22 t0_0
  obtain ⟨c0_1, y0_1, n0_1, e0_1, t0_1⟩ := hf0 1 _ rfl
  obtain ⟨ca, rfl, w0_1⟩ := field_string Tryd.underlying9 t0_1
  obtain ⟨c0_2, y0_2, n0_2, e0_2, t0_2⟩ := hf0 2 _ rfl
  obtain ⟨cw, rfl, w0_2⟩ := field_int Tryd.underlying3 t0_2
  obtain ⟨c0_3, y0_3, n0_3, e0_3, t0_3⟩ := hf0 3 _ rfl
  obtain ⟨cs, rfl, w0_3⟩ := field_int Tryd.underlying3 t0_3
  obtain ⟨c0_4, y0_4, n0_4, e0_4, t0_4⟩ := hf0 4 _ rfl
  obtain ⟨ch, rfl, w0_4⟩ := field_int Tryd.underlying3 t0_4
  obtain ⟨c0_5, y0_5, n0_5, e0_5, t0_5⟩ := hf0 5 _ rfl
  obtain ⟨cx, rfl, w0_5⟩ := field_int Tryd.underlying3 t0_5
  obtain rfl : cs0 = #[.int .u32 cid, .string ca, .int .i64 cw, .int .i64 cs, .int .i64 ch, .int .i64 cx] := arr_of cs0 [.int .u32 cid, .string ca, .int .i64 cw, .int .i64 cs, .int .i64 ch, .int .i64 cx] hs0 (fun j hj => by match j, hj with | 0, _ => exact e0_0 | 1, _ => exact e0_1 | 2, _ => exact e0_2 | 3, _ => exact e0_3 | 4, _ => exact e0_4 | 5, _ => exact e0_5 | j + 6, hj => exact absurd hj (by simp))
  obtain ⟨line, rfl, w1⟩ := open_string_arg Tryd.underlying9 (hval 1 9 v1 rfl rfl) h1
  clear hA0 hval0
  refine (walk cid ca cw cs ch cx line W hE w0_0 w0_1 w0_2 w0_3 w0_4 w0_5 w1).mono fun e W' ⟨he, hb⟩ => ?_
  subst he
  exact ⟨_, rfl, law_post (by kernel_rfl) (by kernel_rfl) rfl Tryd.underlying4 rfl hW' rfl hb⟩

theorem over : Rows.bookBackRow.holds Tryd.pinned (OpenSpec.ofChange Rows.bookBackSpec) :=
  OpenClaim.holds_of_wide 3 Tryd.f3 rfl rfl rfl rfl rfl rfl rfl ⟨rfl, rfl, rfl, rfl, rfl⟩ rfl rfl rfl rfl rfl (by kernel_rfl) Tryd.func3 (by kernel_rfl)
    (of_decide_eq_true (by kernel_rfl)) (by unfold Func.isWrapper; first | (rw [if_pos (by decide +kernel)]; kernel_rfl) | (rw [if_neg (by decide +kernel)]; exact ⟨rfl, rfl⟩))
    (fun os started H enc _ => lifted os started H enc)

theorem proved : Rows.BookBackCardSaid :=
  Claim7.holds_tied_plain_at .later [] _ true _ false over (fun _ h => by cases h) (by kernel_rfl) (fun _ h => by cases h) bookBack_row_tie rfl ⟨rfl, rfl⟩ (by kernel_rfl) rfl
    (fun f fn hf hfn => by
      obtain rfl : f = 3 := Option.some.inj ((show Tryd.prog.funcNamed "ganger/gangerlaw20.BookBack" = some 3 by kernel_rfl).symm.trans hf) |>.symm
      obtain rfl : fn = Tryd.f3 := (Option.some.inj (Tryd.func3.symm.trans hfn)).symm
      exact ⟨by kernel_rfl, fun j t ht => by
        rw [Tryd.params3] at ht
        have hm : t ∈ [24, 9] := by simpa using Array.mem_of_getElem? ht
        have hall : ([24, 9].all fun u => !Tryd.prog.wantsStandIn u) = true := by kernel_rfl
        exact (show Tryd.prog.wantsStandIn t = false by simpa using List.all_eq_true.1 hall t hm)⟩)
    (by kernel_rfl)
#print axioms proved
end Go.Proofs.YtlafjjdponeeeaaDoor.bookBack
