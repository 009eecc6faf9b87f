/-
  DependBack: what was printed is read again as it was; what is read is printed as it was: so the law returns true for every input, the listed tables of Go's library reading as the program's text lays them.
-/
import Derived.Test.YtpobghdiecfoaaaDoorDeW8
import Derived.Test.YtpobghdiecfoaaaDoorDeAr
import Derived.Test.YtpobghdiecfoaaaDoorLaw
import Derived.Test.YtpobghdiecfoaaaDoorDeSm
import Derived.Test.YtpobghdiecfoaaaDoorRows
import Derived.Test.YtpobghdiecfoaaaDoorArgs2
import Derived.Test.YtpobghdiecfoaaaDoorLaid
import Derived.Test.YtpobghdiecfoaaaDoorCards
import Derived.Test.YtpobghdiecfoaaaDoorTie
import Derived.MakeChecks
import Derived.SevenTiedAt
namespace Go.Proofs.YtpobghdiecfoaaaDoor.dependBack
open Go.ChangeShapes Go.WideShapes Go.ChangeAt Go.RowKit
set_option linter.unusedVariables false

theorem own : ownKnob Tryd.prog.godebug = none := by kernel_rfl

open Go Go.RowKit Go.Lib in
set_option maxRecDepth 100000 in
set_option maxHeartbeats 4000000 in
theorem walk (any : Bool) (dv : Value) (dl : List NdM) (s : ByteArray) (w : World) (hE : Env8 w) (hd : NRx w dv dl) (hs : s.size ≤ maxLen) :
    Calls Tryd.prog 6 #[.agg #[.bool any, dv], .string s] w fun e w' => e = .returned (.bool true) ∧ Below w.heap.size w w' := by
  have K : Hid (∀ w1, Below w.heap.size w w1 → Calls Tryd.prog 11 #[] w1 fun e w' => e = .returned (.bool true) ∧ Below w1.heap.size w1 w') := fun w1 hb => known8_any w1 (hE.next hb)
  have HE : Hid (∀ w1, Below w.heap.size w w1 → Env8 w1) := fun w1 hb => hE.next hb
  have HD := Lib.hid hd
  obtain ⟨da, dc, rfl⟩ := hd.row.slice
  obtain ⟨LD, hLD⟩ : ∃ n, n = dl.length := ⟨_, rfl⟩
  have HLE : Hid (LD = dl.length) := hLD
  rw [← hLD] at HD ⊢
  have MN : Hid (∀ w1, Below w.heap.size w w1 → Calls Tryd.prog 10 #[.agg #[.bool any, .slice da LD dc], .slice none 0 0] w1 fun e w' => ManyTo (dl.length + 0 + lensOf dl) e ∧ Below w1.heap.size w1 w') := fun w1 hb => many_any any (.slice da LD dc) dl none 0 0 w1 (HD.out.kept hb) (by omega)
  obtain ⟨g3, hg3⟩ : ∃ g, g = w.heap.size := ⟨_, rfl⟩
  obtain ⟨X, hX⟩ : ∃ X, X = w.alloc (.cells #[.bool any, .slice da LD dc] 24) := ⟨_, rfl⟩
  have HBX : Hid (Below w.heap.size w X) := by unfold Hid; rw [hX]; exact (Below.refl _ _).alloc (Nat.le_refl _) _
  have hbk : Blk X g3 #[.bool any, .slice da LD dc] 24 := by rw [hX, hg3]; exact Blk.new w _ _
  have x0 := hbk.cell 0
  have x1 := hbk.cell 1
  simp at x0 x1
  have HXX := Lib.hid hX
  have HG3 := Lib.hid hg3
  clear hE hd hLD hX hg3 hbk
  go_enter Tryd.func6, Tryd.ntmps6
  go_upto_region 1 with fail
  rw [← HG3.out, ← HXX.out]
  go_wp2_with fail
  refine (MN.out X HBX.out).mono ?_; rintro e w1 ⟨⟨β, rfl, hβ⟩, b1⟩
  have HB1 := Lib.hid (below_next b1 HBX.out)
  have c0 := cell_next b1 x0
  have c1 := cell_next b1 x1
  have HBB := Lib.hid hβ
  clear b1 MN hβ x0 x1
  cases β with
  | true =>
    go_wp2_with fail
    refine (K.out w1 HB1.out).mono ?_; rintro e w2 ⟨rfl, b2⟩
    have HB2 := below_next b2 HB1.out
    clear b2
    go_wp2_with fail
    go_returns
    exact ⟨rfl, HB2⟩
  | false =>
  by_cases hbig : 2000 < s.size
  · have q1 : decide (2000 < s.size) = true := decide_eq_true hbig
    have q2 : decide ((s.size : Int) > 2000) = true := decide_eq_true (by omega)
    go_wp2_with fail
    refine (K.out w1 HB1.out).mono ?_; rintro e w2 ⟨rfl, b2⟩
    have HB2 := below_next b2 HB1.out
    clear b2
    go_wp2_with fail
    go_returns
    exact ⟨rfl, HB2⟩
  have q1 : decide (2000 < s.size) = false := decide_eq_false hbig
  have q2 : decide ((s.size : Int) > 2000) = false := decide_eq_false (by omega)
  have hsm := HBB.out rfl
  have HN : Hid (NRw w (.slice da LD dc) dl) := HD.out.few (by omega)
  obtain ⟨t, ht⟩ : ∃ t, t = s.data.toList := ⟨_, rfl⟩
  have hst : s = strB t := by rw [ht]; rfl
  have htl : t.length ≤ 1000000 := by have : t.length = s.size := by rw [ht]; exact Array.length_toList
                                      omega
  have PT : Hid (∀ w1, Below w.heap.size w w1 → Calls Tryd.prog 21 #[.string s] w1 fun e w2 => DepTo (parseA8 t) w1.heap.size e w2 ∧ Below w1.heap.size w1 w2) := fun w1 hb => by
    obtain ⟨m, hm⟩ := (HE.out w1 hb).1
    rw [hst]
    exact parse8_any t m w1 htl hm
  have HST := Lib.hid hst
  have PD := Lib.hid (fun w1 (hb : Below w.heap.size w w1) => print8_any any (.slice da LD dc) dl w1 (HN.out.kept hb) (HE.out w1 hb).2)
  have CD := Lib.hid (fun w1 (hb : Below w.heap.size w w1) => check_any any (.slice da LD dc) dl w1 (HN.out.kept hb))
  clear ht hst htl hsm HBB HLE hbig
  by_cases hok : okD any (ndsOf dl)
  · have hp : printD any (ndsOf dl) = (joinD (sepA any) (ndsOf dl), 0) := if_pos hok
    have hc : chkD any (ndsOf dl) = 0 := if_pos hok
    have hsml : ∀ n ∈ ndsOf dl, ∀ j ∈ n.2, j < 4294967296 := fun n hn => by
      obtain ⟨p, hp, rfl⟩ := List.mem_map.1 hn
      exact HN.out.small p hp
    have hpb := parse_print8 hok hsml
    have hjl := joinD_len (sepA any) (ndsOf dl) hok.2.2 hsml
    have hll : (ndsOf dl).length ≤ 20 := hok.1
    obtain ⟨J, hJ⟩ : ∃ j, j = joinD (sepA any) (ndsOf dl) := ⟨_, rfl⟩
    rw [← hJ] at hp hpb hjl
    rw [hp] at PD
    rw [hc] at CD
    have PJ : Hid (∀ w1, Below w.heap.size w w1 → Calls Tryd.prog 21 #[.string (strB J)] w1 fun e w2 => DepTo (any, ndsOf dl, 0) w1.heap.size e w2 ∧ Below w1.heap.size w1 w2) := fun w1 hb => by
      obtain ⟨m, hm⟩ := (HE.out w1 hb).1
      have h := parse8_any J m w1 (by omega) hm
      rw [hpb] at h
      exact h
    obtain ⟨SJ, hSJ⟩ : ∃ j, j = strB J := ⟨_, rfl⟩
    have PD2 : Hid (∀ w1, Below w.heap.size w w1 → Calls Tryd.prog 14 #[.agg #[.bool any, .slice da LD dc]] w1 fun e w' => e = .returned (.tuple #[.string SJ, .int .i64 0]) ∧ Below w1.heap.size w1 w') := fun w1 hb => by rw [hSJ]; exact PD.out w1 hb
    rw [← hSJ] at PJ
    have HLN : Hid ((ndsOf dl).length = LD) := by unfold Hid; rw [ndsOf_len]; have := HN.out.row.slice; obtain ⟨a, c, h⟩ := this; injection h with _ h _; exact h.symm
    clear hp hc hsml hpb hjl hll hJ hSJ PD hok
    go_wp2_with fail
    refine (PD2.out w1 HB1.out).mono ?_; rintro e w2 ⟨rfl, b2⟩
    have HB2 := Lib.hid (below_next b2 HB1.out)
    have HB12 := Lib.hid b2
    have d0 := cell_next b2 c0
    have d1 := cell_next b2 c1
    clear b2 PD2
    go_wp2_with fail
    refine (CD.out w2 HB2.out).mono ?_; rintro e w3 ⟨rfl, b3⟩
    have HB3 := Lib.hid (below_next b3 HB2.out)
    have HB13 := Lib.hid (below_next b3 HB12.out)
    clear b3 CD HB2 HB12 d0 d1
    go_wp2_with fail
    refine (PJ.out w3 HB3.out).mono ?_; rintro e w4 ⟨hd4, b4⟩
    obtain ⟨vx, vy, l4, rfl, -, hr4, hn4⟩ := hd4.out
    have HB4 := Lib.hid (below_next b4 HB3.out)
    have HB14 := Lib.hid (below_next b4 HB13.out)
    rw [HLN.out] at hr4
    rw [HLN.out]
    obtain ⟨g7, hg7⟩ : ∃ g, g = w4.heap.size := ⟨_, rfl⟩
    obtain ⟨W4, hW4⟩ : ∃ x, x = w4.alloc (.cells #[.bool any, .slice vx LD vy] 24) := ⟨_, rfl⟩
    have hbW4 : Below w4.heap.size w4 W4 := by rw [hW4]; exact (Below.refl _ _).alloc (Nat.le_refl _) _
    have hbk7 : Blk W4 g7 #[.bool any, .slice vx LD vy] 24 := by rw [hW4, hg7]; exact Blk.new _ _ _
    have HB5 := Lib.hid (below_next hbW4 HB4.out)
    have HB15 := Lib.hid (below_next hbW4 HB14.out)
    have e0 := hbk7.cell 0
    have e1 := hbk7.cell 1
    simp at e0 e1
    have k0 := cell_next HB15.out c0
    have k1 := cell_next HB15.out c1
    have SM : Hid (Calls Tryd.prog 20 #[.agg #[.bool any, .slice vx LD vy], .agg #[.bool any, .slice da LD dc]] W4 fun e w' => e = .returned (.bool true) ∧ Below W4.heap.size W4 w') := by
      have h := same8_any any any (.slice vx LD vy) (.slice da LD dc) l4 dl W4 (hr4.kept hbW4) (HN.out.kept HB5.out)
      have hb : decide (any = any ∧ ndsOf l4 = ndsOf dl) = true := decide_eq_true ⟨rfl, hn4⟩
      rw [hb] at h
      exact h
    have HW4 := Lib.hid hW4
    have HG7 := Lib.hid hg7
    clear hd4 b4 hr4 hn4 hg7 hW4 hbW4 hbk7 PJ HB3 HB13 HB4 HB14
    go_upto_region 8 with fail
    rw [← HW4.out, ← HG7.out]
    clear HW4 HG7
    go_wp2_with fail
    refine SM.out.mono ?_; rintro e w6 ⟨rfl, b6⟩
    have HB6 := Lib.hid (below_next b6 HB5.out)
    clear b6 SM HB5 HB15 k0 k1 e0 e1
    go_wp2_with fail
    refine (PT.out w6 HB6.out).mono ?_; rintro e w7 ⟨hd7, b7⟩
    have HB7 := Lib.hid (below_next b7 HB6.out)
    clear b7 PT HB6
    by_cases hcode : (parseA8 t).2.2 = 0
    · obtain ⟨pa, pl, hpe⟩ : ∃ pa pl, parseA8 t = (pa, pl, 0) := ⟨(parseA8 t).1, (parseA8 t).2.1, by rw [← hcode]⟩
      obtain ⟨hok2, hjt, hsm2⟩ := parse_read8 hpe
      rw [hpe] at hd7
      obtain ⟨vp, vq, l7, rfl, -, hr7, hn7⟩ := hd7.out
      obtain ⟨LP, hLP⟩ : ∃ n, n = pl.length := ⟨_, rfl⟩
      rw [← hLP] at hr7 ⊢
      obtain ⟨g9, hg9⟩ : ∃ g, g = w7.heap.size := ⟨_, rfl⟩
      obtain ⟨W7, hW7⟩ : ∃ x, x = w7.alloc (.cells #[.bool pa, .slice vp LP vq] 24) := ⟨_, rfl⟩
      have hbW7 : Below w7.heap.size w7 W7 := by rw [hW7]; exact (Below.refl _ _).alloc (Nat.le_refl _) _
      have hbk9 : Blk W7 g9 #[.bool pa, .slice vp LP vq] 24 := by rw [hW7, hg9]; exact Blk.new _ _ _
      have HB8 := Lib.hid (below_next hbW7 HB7.out)
      have m0 := hbk9.cell 0
      have m1 := hbk9.cell 1
      simp at m0 m1
      have PP : Hid (Calls Tryd.prog 14 #[.agg #[.bool pa, .slice vp LP vq]] W7 fun e w' => e = .returned (.tuple #[.string s, .int .i64 0]) ∧ Below W7.heap.size W7 w') := by
        have h := print8_any pa (.slice vp LP vq) l7 W7 (hr7.kept hbW7) (HE.out W7 HB8.out).2
        have hpp : printD pa (ndsOf l7) = (t, 0) := by rw [hn7]; unfold printD; rw [if_pos hok2, hjt]
        rw [hpp] at h
        rw [HST.out]
        exact h
      have HW7 := Lib.hid hW7
      have HG9 := Lib.hid hg9
      have q3 : (s.toList == s.toList) = true := by simp
      clear hd7 hr7 hn7 hg9 hW7 hbW7 hbk9 hok2 hjt hsm2 hpe hcode hLP HB7
      go_upto_region 11 with fail
      rw [← HW7.out, ← HG9.out]
      clear HW7 HG9
      go_wp2_with fail
      refine PP.out.mono ?_; rintro e w8 ⟨rfl, b8⟩
      have HB9 := Lib.hid (below_next b8 HB8.out)
      clear b8 PP HB8
      go_wp2_with fail
      refine (K.out w8 HB9.out).mono ?_; rintro e w9 ⟨rfl, b9⟩
      have HB10 := Lib.hid (below_next b9 HB9.out)
      clear b9
      go_wp2_with fail
      go_returns
      exact ⟨rfl, HB10.out⟩
    · obtain ⟨x, hx, hpe⟩ : ∃ x : Int, x ≠ 0 ∧ parseA8 t = (false, [], x) := by
        rcases parse_code8 t with h | h | h
        · exact absurd h hcode
        · exact ⟨60, by decide, h⟩
        · exact ⟨2, by decide, h⟩
      rw [hpe] at hd7
      obtain ⟨vp, vq, l7, rfl, -, hr7, hn7⟩ := hd7.out
      obtain ⟨g9, hg9⟩ : ∃ g, g = w7.heap.size := ⟨_, rfl⟩
      obtain ⟨W7, hW7⟩ : ∃ x, x = w7.alloc (.cells #[.bool false, .slice vp 0 vq] 24) := ⟨_, rfl⟩
      have hbW7 : Below w7.heap.size w7 W7 := by rw [hW7]; exact (Below.refl _ _).alloc (Nat.le_refl _) _
      have hbk9 : Blk W7 g9 #[.bool false, .slice vp 0 vq] 24 := by rw [hW7, hg9]; exact Blk.new _ _ _
      have HB8 := Lib.hid (below_next hbW7 HB7.out)
      have m0 := hbk9.cell 0
      have m1 := hbk9.cell 1
      simp at m0 m1
      have HW7 := Lib.hid hW7
      have HG9 := Lib.hid hg9
      have q3 : (x != 0) = true := by simpa using hx
      have hlen3 : ([] : List Nd).length = 0 := rfl
      clear hd7 hr7 hn7 hg9 hW7 hbW7 hbk9 hpe hcode HB7
      go_upto_region 11 with fail
      rw [← HW7.out, ← HG9.out]
      clear HW7 HG9
      go_wp2_with fail
      refine (K.out W7 HB8.out).mono ?_; rintro e w9 ⟨rfl, b9⟩
      have HB10 := Lib.hid (below_next b9 HB8.out)
      clear b9
      go_wp2_with fail
      go_returns
      exact ⟨rfl, HB10.out⟩
  · have hp : printD any (ndsOf dl) = ([], 2) := if_neg hok
    have hc : chkD any (ndsOf dl) = 2 := if_neg hok
    rw [hp] at PD
    rw [hc] at CD
    have PD2 : Hid (∀ w1, Below w.heap.size w w1 → Calls Tryd.prog 14 #[.agg #[.bool any, .slice da LD dc]] w1 fun e w' => e = .returned (.tuple #[.string ⟨#[]⟩, .int .i64 2]) ∧ Below w1.heap.size w1 w') := fun w1 hb => PD.out w1 hb
    clear hp hc PD hok
    go_wp2_with fail
    refine (PD2.out w1 HB1.out).mono ?_; rintro e w2 ⟨rfl, b2⟩
    have HB2 := Lib.hid (below_next b2 HB1.out)
    have d0 := cell_next b2 c0
    have d1 := cell_next b2 c1
    clear b2 PD2
    go_wp2_with fail
    refine (CD.out w2 HB2.out).mono ?_; rintro e w6 ⟨rfl, b3⟩
    have HB6 := Lib.hid (below_next b3 HB2.out)
    clear b3 CD HB2 d0 d1
    go_wp2_with fail
    refine (PT.out w6 HB6.out).mono ?_; rintro e w7 ⟨hd7, b7⟩
    have HB7 := Lib.hid (below_next b7 HB6.out)
    clear b7 PT HB6
    by_cases hcode : (parseA8 t).2.2 = 0
    · obtain ⟨pa, pl, hpe⟩ : ∃ pa pl, parseA8 t = (pa, pl, 0) := ⟨(parseA8 t).1, (parseA8 t).2.1, by rw [← hcode]⟩
      obtain ⟨hok2, hjt, hsm2⟩ := parse_read8 hpe
      rw [hpe] at hd7
      obtain ⟨vp, vq, l7, rfl, -, hr7, hn7⟩ := hd7.out
      obtain ⟨LP, hLP⟩ : ∃ n, n = pl.length := ⟨_, rfl⟩
      rw [← hLP] at hr7 ⊢
      obtain ⟨g9, hg9⟩ : ∃ g, g = w7.heap.size := ⟨_, rfl⟩
      obtain ⟨W7, hW7⟩ : ∃ x, x = w7.alloc (.cells #[.bool pa, .slice vp LP vq] 24) := ⟨_, rfl⟩
      have hbW7 : Below w7.heap.size w7 W7 := by rw [hW7]; exact (Below.refl _ _).alloc (Nat.le_refl _) _
      have hbk9 : Blk W7 g9 #[.bool pa, .slice vp LP vq] 24 := by rw [hW7, hg9]; exact Blk.new _ _ _
      have HB8 := Lib.hid (below_next hbW7 HB7.out)
      have m0 := hbk9.cell 0
      have m1 := hbk9.cell 1
      simp at m0 m1
      have PP : Hid (Calls Tryd.prog 14 #[.agg #[.bool pa, .slice vp LP vq]] W7 fun e w' => e = .returned (.tuple #[.string s, .int .i64 0]) ∧ Below W7.heap.size W7 w') := by
        have h := print8_any pa (.slice vp LP vq) l7 W7 (hr7.kept hbW7) (HE.out W7 HB8.out).2
        have hpp : printD pa (ndsOf l7) = (t, 0) := by rw [hn7]; unfold printD; rw [if_pos hok2, hjt]
        rw [hpp] at h
        rw [HST.out]
        exact h
      have HW7 := Lib.hid hW7
      have HG9 := Lib.hid hg9
      have q3 : (s.toList == s.toList) = true := by simp
      clear hd7 hr7 hn7 hg9 hW7 hbW7 hbk9 hok2 hjt hsm2 hpe hcode hLP HB7
      go_upto_region 11 with fail
      rw [← HW7.out, ← HG9.out]
      clear HW7 HG9
      go_wp2_with fail
      refine PP.out.mono ?_; rintro e w8 ⟨rfl, b8⟩
      have HB9 := Lib.hid (below_next b8 HB8.out)
      clear b8 PP HB8
      go_wp2_with fail
      refine (K.out w8 HB9.out).mono ?_; rintro e w9 ⟨rfl, b9⟩
      have HB10 := Lib.hid (below_next b9 HB9.out)
      clear b9
      go_wp2_with fail
      go_returns
      exact ⟨rfl, HB10.out⟩
    · obtain ⟨x, hx, hpe⟩ : ∃ x : Int, x ≠ 0 ∧ parseA8 t = (false, [], x) := by
        rcases parse_code8 t with h | h | h
        · exact absurd h hcode
        · exact ⟨60, by decide, h⟩
        · exact ⟨2, by decide, h⟩
      rw [hpe] at hd7
      obtain ⟨vp, vq, l7, rfl, -, hr7, hn7⟩ := hd7.out
      obtain ⟨g9, hg9⟩ : ∃ g, g = w7.heap.size := ⟨_, rfl⟩
      obtain ⟨W7, hW7⟩ : ∃ x, x = w7.alloc (.cells #[.bool false, .slice vp 0 vq] 24) := ⟨_, rfl⟩
      have hbW7 : Below w7.heap.size w7 W7 := by rw [hW7]; exact (Below.refl _ _).alloc (Nat.le_refl _) _
      have hbk9 : Blk W7 g9 #[.bool false, .slice vp 0 vq] 24 := by rw [hW7, hg9]; exact Blk.new _ _ _
      have HB8 := Lib.hid (below_next hbW7 HB7.out)
      have m0 := hbk9.cell 0
      have m1 := hbk9.cell 1
      simp at m0 m1
      have HW7 := Lib.hid hW7
      have HG9 := Lib.hid hg9
      have q3 : (x != 0) = true := by simpa using hx
      have hlen3 : ([] : List Nd).length = 0 := rfl
      clear hd7 hr7 hn7 hg9 hW7 hbW7 hbk9 hpe hcode HB7
      go_upto_region 11 with fail
      rw [← HW7.out, ← HG9.out]
      clear HW7 HG9
      go_wp2_with fail
      refine (K.out W7 HB8.out).mono ?_; rintro e w9 ⟨rfl, b9⟩
      have HB10 := Lib.hid (below_next b9 HB8.out)
      clear b9
      go_wp2_with fail
      go_returns
      exact ⟨rfl, HB10.out⟩


set_option maxRecDepth 100000 in
theorem lifted (os : Os) (started : os.Started) (H : Type) (enc : TypeId × Value → H) :
    ReturnsInHanded {} Tryd.checked os 6 .any (fun w args => (Rows.dependBackSpec.pre enc Tryd.prog Tryd.f6 Rows.dependBackRow.domain false w args ∧ laidMetH Tryd.prog laid8 w) ∧ sizedMet enc Tryd.prog Tryd.f6 (OpenSpec.ofChange Rows.dependBackSpec) false w args) (Rows.dependBackSpec.post enc Tryd.prog Tryd.f6 false true false false) := by
  refine laid_lift (C := Tryd.checked) (X := fun w _ => laidMetH Tryd.prog laid8 w) (fun _ _ _ hh h => h.of_heap hh) own started (by kernel_rfl) Tryd.func6
    (ChangeSpec.witness_shaped (enc := enc) (C := Tryd.checked) (os := os) (X := fun w _ => laidMetH Tryd.prog laid8 w) false (World.laidAll Tryd.prog os laid8) #[.agg #[.bool false, .slice none 0 0], .string ByteArray.empty] 8 (World.laidAll_os _ _ _)
      (World.shaped_of_ZipB (by kernel_rfl) (by kernel_rfl)) (by kernel_rfl) (by kernel_rfl) (by kernel_rfl)
      (by rw [MakeChecks.laidMetH_plain _ _ _ (by kernel_rfl)]; exact laidMet_laidAll _ (by kernel_rfl) (by kernel_rfl))) ?_
  intro W base args ds gs before hval0 hW hsz0 hL hS
  have hE := env8_of hL hS
  have hval : ∀ (j : Nat) t v, Tryd.f6.params[j]? = some t → args[j]? = some v → Value.okWide Tryd.prog W .any base t v := hval0
  have hW' := hW
  obtain ⟨p, q, hA0, hV, rfl, hfz, hnd⟩ := hW
  have hA : DataW.TrodAll enc Tryd.prog W 0 (fun _ => true) true Tryd.f6.params.toList args.toList ds p := hA0
  rw [Tryd.params6] at hA hval
  obtain ⟨v0, vs0, d0, ds0, p0, q0, hargs, rfl, rfl, h0, r0⟩ := trodAll_cons hA
  obtain ⟨v1, vs1, d1, ds1, p1, q1, rfl, rfl, rfl, h1, r1⟩ := trodAll_cons r0
  obtain ⟨rfl, rfl, rfl⟩ := trodAll_nil r1
  obtain rfl : args = #[v0, v1] := by cases args; simp_all
  have hz0 : ∀ k ∈ d0.weights Tryd.prog 24, k ≤ reachBytes := fun k hk => by
    have := List.all_eq_true.1 hsz0 k (DataW.weights_mem_each (j := 0) (t := 24) (d := d0) rfl rfl k hk)
    simpa using this
  obtain ⟨cs0, rfl, hs0, hf0⟩ := open_structZ Tryd.underlying24 (by kernel_rfl) (by kernel_rfl) (hval 0 24 v0 rfl rfl) hz0 h0
  obtain ⟨c0_0, y0_0, n0_0, e0_0, t0_0, z0_0⟩ := hf0 0 _ rfl
  obtain ⟨any, rfl⟩ := field_bool Tryd.underlying4 t0_0
  obtain ⟨c0_1, y0_1, n0_1, e0_1, t0_1, z0_1⟩ := hf0 1 _ rfl
  obtain ⟨dl, w0_1⟩ := field_needs t0_1 z0_1
  obtain rfl : cs0 = #[.bool any, c0_1] := arr_of cs0 [.bool any, c0_1] hs0 (fun j hj => by match j, hj with | 0, _ => exact e0_0 | 1, _ => exact e0_1 | j + 2, hj => exact absurd hj (by simp))
  obtain ⟨s, rfl, w1⟩ := open_string_arg Tryd.underlying9 (hval 1 9 v1 rfl rfl) h1
  clear hA0 hval0
  refine (walk any c0_1 dl s W hE w0_1 w1).mono fun e W' ⟨he, hb⟩ => ?_
  subst he
  exact ⟨_, rfl, law_post (by kernel_rfl) (by kernel_rfl) rfl Tryd.underlying4 rfl hW' rfl hb⟩

theorem over : Rows.dependBackRow.holds Tryd.pinned (OpenSpec.ofChange Rows.dependBackSpec) :=
  OpenClaim.holds_of_wide 6 Tryd.f6 rfl rfl rfl rfl rfl rfl rfl ⟨rfl, rfl, rfl, rfl, rfl⟩ rfl rfl rfl rfl rfl (by kernel_rfl) Tryd.func6 (by kernel_rfl)
    (of_decide_eq_true (by kernel_rfl)) (by unfold Func.isWrapper; first | (rw [if_pos (by decide +kernel)]; kernel_rfl) | (rw [if_neg (by decide +kernel)]; exact ⟨rfl, rfl⟩))
    (fun os started H enc _ => lifted os started H enc)

theorem proved : Rows.DependBackCardSaid :=
  Claim7.holds_tied_plain_at .later [] _ true _ false over (fun _ h => by cases h) (by kernel_rfl) (fun _ h => by cases h) dependBack_row_tie rfl ⟨rfl, rfl⟩ (by kernel_rfl) rfl
    (fun f fn hf hfn => by
      obtain rfl : f = 6 := Option.some.inj ((show Tryd.prog.funcNamed "ganger/gangerlaw08.DependBack" = some 6 by kernel_rfl).symm.trans hf) |>.symm
      obtain rfl : fn = Tryd.f6 := (Option.some.inj (Tryd.func6.symm.trans hfn)).symm
      exact ⟨by kernel_rfl, fun j t ht => by
        rw [Tryd.params6] at ht
        have hm : t ∈ [24, 9] := by simpa using Array.mem_of_getElem? ht
        have hall : ([24, 9].all fun u => !Tryd.prog.wantsStandIn u) = true := by kernel_rfl
        exact (show Tryd.prog.wantsStandIn t = false by simpa using List.all_eq_true.1 hall t hm)⟩)
    (by kernel_rfl)
#print axioms proved
end Go.Proofs.YtpobghdiecfoaaaDoor.dependBack
