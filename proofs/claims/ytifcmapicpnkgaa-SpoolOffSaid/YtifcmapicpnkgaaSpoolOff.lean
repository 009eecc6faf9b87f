/-
  SpoolOff: just as many acts go well as were let, then none, whatever the acts: so the law returns true for every input.
-/
import Derived.Test.YtifcmapicpnkgaaSpoolN
import Derived.Test.YtifcmapicpnkgaaSpoolAct
import Derived.Test.YtifcmapicpnkgaaRows
import Derived.Test.YtifcmapicpnkgaaArgs2
namespace Go.Proofs.Ytifcmapicpnkgaa.spoolOff
open Go.ChangeShapes Go.WideShapes Go.ChangeAt Go.RowKit
set_option linter.unusedVariables false

theorem own : ownKnob Try.prog.godebug = none := by kernel_rfl

open Go.Lib
theorem u64_bd (x : Int) : 0 ≤ IntKind.u64.wrap x ∧ IntKind.u64.wrap x ≤ 18446744073709551615 := by rw [IntKind.wrap_u64]; omega
theorem long_yes (after : Int) (A : Option Addr) (n c : Nat) (w : World) (HLo : Calls Try.prog 8 #[.slice A n c] w fun e w' => e = .returned (.bool true) ∧ w' = w) :
    Calls Try.prog 6 #[.int .i64 after, .slice A n c] w fun e w' => e = .returned (.bool true) ∧ Below w.heap.size w w' := by
  have H := Lib.hid HLo
  clear HLo
  go_enter Try.func6, Try.ntmps6
  go_wp2_with fail
  refine H.out.mono ?_; rintro e w ⟨rfl, rfl⟩
  go_wp2_with fail
  refine (known18_any _).mono ?_; rintro e w2 ⟨rfl, b2⟩
  go_wp2_with fail
  go_returns
  exact ⟨rfl, b2⟩
theorem tick_dec (n d : Nat) (h : d < n) : tick ((n : Int) - d) = (n : Int) - ((d + 1 : Nat) : Int) := by unfold tick; rw [if_pos (by omega)]; omega
theorem sync_go (xs : List UInt8) (sure n d : Nat) (h : d < n) : syncS ⟨1048576, xs, sure, (n : Int) - d, false⟩ = (⟨1048576, xs, xs.length, (n : Int) - ((d + 1 : Nat) : Int), false⟩, 0) := by
  unfold syncS; dsimp only; rw [if_neg (by decide), if_neg (by omega), tick_dec n d h]
theorem add_go (xs y : List UInt8) (sure n d : Nat) (h : d < n) (hx : xs.length + y.length ≤ 1048576) : addS ⟨1048576, xs, sure, (n : Int) - d, false⟩ y = (⟨1048576, xs ++ y, sure, (n : Int) - ((d + 1 : Nat) : Int), false⟩, 0) := by
  unfold addS; dsimp only; rw [if_neg (by decide), if_neg (by omega), if_neg (by omega), tick_dec n d h]
theorem sync_no (xs : List UInt8) (sure n d : Nat) (off : Bool) (h : off = true ∨ d = n) : syncS ⟨1048576, xs, sure, (n : Int) - d, off⟩ = (⟨1048576, xs, sure, (n : Int) - d, true⟩, 190) := by
  unfold syncS; dsimp only
  cases off with
  | true => rw [if_pos rfl]
  | false =>
    have : d = n := by rcases h with h | h; cases h; exact h
    rw [if_neg (by decide), if_pos (by omega)]
theorem add_no (xs y : List UInt8) (sure n d : Nat) (off : Bool) (h : off = true ∨ d = n) (hx : xs.length + y.length ≤ 1048576) : addS ⟨1048576, xs, sure, (n : Int) - d, off⟩ y = (⟨1048576, xs, sure, (n : Int) - d, true⟩, 190) := by
  unfold addS; dsimp only
  cases off with
  | true => rw [if_pos rfl]
  | false =>
    have : d = n := by rcases h with h | h; cases h; exact h
    rw [if_neg (by decide), if_neg (by omega), if_pos (by omega)]
def Lp (w : World) (l : List ActV) (n : Nat) (dn av i : Value) (wr : World) : Prop :=
  ∃ (k : Nat) (xs : List UInt8) (N : Nat → Prop) (sure d : Nat) (off : Bool), k ≤ l.length ∧ k ≤ 60 ∧ xs.length ≤ k * 300 ∧ d ≤ n ∧ (off = true → d = n) ∧ i = .int .i64 k ∧ dn = .int .i64 d ∧
      Sp wr w.heap.size N w.heap.size ⟨1048576, xs, sure, (n : Int) - d, off⟩ ∧ wr.ownsRow w.heap.size 5 1 av xs.length (bts xs) ∧ (∀ g, av.ownBlock = some g → ¬ N g) ∧ Below w.heap.size w wr
set_option maxRecDepth 100000 in
set_option maxHeartbeats 1000000 in
theorem short (after : Int) (vl : Value) (l : List ActV) (w : World) (hl : RowOf w 3 (ActIs w) vl l) (hlo : longB l = false) :
    Calls Try.prog 6 #[.int .i64 after, vl] w fun e w' => e = .returned (.bool true) ∧ Below w.heap.size w w' := by
  have hl0 := hl
  obtain ⟨A, c, rfl, hc1, hc2, _⟩ := hl
  have HL := Lib.hid hl0
  have HLo : Hid (Calls Try.prog 8 #[.slice A l.length c] w fun e w' => e = .returned (.bool false) ∧ w' = w) := by have := long_any hl0 (Below.refl _ _); rw [hlo] at this; exact this
  have HB3 : Hid (∀ k (h : k < l.length), k < 200 → (l[k]).b.length ≤ 300) := by
    intro k h hk
    unfold longB at hlo
    rw [List.any_eq_false] at hlo
    have := hlo (l[k]) (by rw [List.mem_take_iff_getElem]; exact ⟨k, by omega, rfl⟩)
    simpa using this
  clear hl0 hlo
  unfold maxLen at hc2
  have u0 := u64_bd after
  obtain ⟨n, hn⟩ := Int.eq_ofNat_of_zero_le (a := IntKind.u64.wrap after % 20) (by omega)
  have ln : (n : Int) < 20 := by omega
  have q0 : ∀ (w : World) (C : Array Value) (n c : Nat), (convert 32 32 (.slice (some ⟨w.heap.size, 0, none⟩) n c)).run Try.prog (w.alloc (.cells C 5)) = .ok (.slice (some ⟨w.heap.size, 0, none⟩) n c) (w.alloc (.cells C 5 (C.size, C.size + 1))) := fun w C n c => run_convert_bytes_const w 32 5 C n c Try.underlying32 Try.underlying5
  have HN := Lib.hid (new_any 1048576 w w.heap.size (by decide) (by decide) (Nat.le_refl _))
  obtain ⟨i0, hi, hz0, hz1, hz2⟩ := info_parts Try.infoB
  go_enter Try.func6, Try.ntmps6
  go_wp2_with fail
  refine HLo.out.mono ?_; rintro e w ⟨rfl, rfl⟩
  go_wp2_with fail
  refine HN.out.mono ?_; rintro e w1 ⟨rfl, hs1, hb1, hz1'⟩
  have S1 := Lib.hid hs1
  have B1 := Lib.hid hb1
  clear hs1 hb1 hz1'
  go_wp2_with fail
  refine (off_at (k := (n : Int)) (s' := ⟨1048576, [], 0, (n : Int) - (0 : Nat), false⟩) (by unfold offS; congr 1; show max (n : Int) (-1) = _; omega) (by omega) S1.out).mono ?_; rintro e w2 ⟨rfl, h2⟩
  obtain ⟨N2, hs2, hF2, _⟩ := h2.other
  have S2 := Lib.hid hs2
  have B2 := Lib.hid (B1.out.trans (S1.out.below hF2))
  clear h2 hs2 hF2
  go_wp2_with fail
  go_loopw [8, 9, 10] (Lp w l n) (fun _ _ i _ => 60 - (intOf i).toNat)
  case atStart => exact ⟨0, [], N2, 0, 0, false, Nat.zero_le _, Nat.zero_le _, Nat.zero_le _, Nat.zero_le _, (fun h => by cases h), rfl, rfl, S2.out, World.ownsRow_nil _ _ _ _, (fun g hg => by cases hg), B2.out⟩
  case round =>
    obtain ⟨k, xs, N, sure, d, off, hk1, hk2, hx, hd, hoff, rfl, rfl, hs, ho, hN, hB⟩ := hrel
    have HSp := Lib.hid hs
    have HO := Lib.hid ho
    have HNN := Lib.hid hN
    have HX := Lib.hid hx
    have HD := Lib.hid hd
    have HOff := Lib.hid hoff
    obtain ⟨Av, cv, rfl, hcv, hcv2⟩ := owned_form ho
    clear hs ho hN hx hd hoff
    by_cases hlt : k < l.length ∧ k < 60
    · obtain ⟨hlt1, hlt2⟩ := hlt
      have t1 : decide (k < l.length) = true := decide_eq_true hlt1
      have t1' : (k : Int) < l.length := by omega
      have t2 : decide ((k : Int) < 60) = true := decide_eq_true (by omega)
      obtain ⟨b, off_, u, rfl, c0, c1, c2, hR, _, _, hbW⟩ := acts_at HL.out hB hlt1
      have hy3 : (l[k]).b.length ≤ 300 := HB3.out k hlt1 (by omega)
      generalize l[k] = y at *
      have HR := Lib.hid hR
      have HY := Lib.hid hy3
      obtain ⟨Ay, cy, rfl, hy⟩ := rd_len hR
      unfold maxLen at hy
      clear hR c2 hy3
      have LX : Hid (xs.length + y.b.length ≤ 1048576) := by have := HX.out; have := HY.out; unfold Hid; omega
      have nN : Hid (¬ N b) := fun hn => by have := (HSp.out.2.1 b hn).1; omega
      have KA : Hid (∀ b, b < w.heap.size → ¬ N b) := fun b hb hn => by have := (HSp.out.2.1 b hn).1; omega
      by_cases hgo : d < n ∧ off = false
      · obtain ⟨hdn, rfl⟩ := hgo
        have t3 : decide ((d : Int) < n) = true := decide_eq_true (by omega)
        have t3' : decide (d < n) = true := decide_eq_true hdn
        have SG := Lib.hid (sync_go xs sure n d hdn)
        have AG := Lib.hid (add_go xs y.b sure n d hdn LX.out)
        by_cases hk3 : y.kind.tmod 4 = 3
        · have t4 : (y.kind.tmod 4 == 3) = true := by simpa using hk3
          have t5 : (y.kind.tmod 4 != 3) = false := by simpa using hk3
          clear hk3
          go_wp2_with fail
          refine (sync_at SG.out HSp.out).mono ?_; rintro e w3 ⟨rfl, h3⟩
          obtain ⟨N3, hs3, hF3, hO3⟩ := h3.other
          have S3 := Lib.hid hs3
          have O3 := Lib.hid (owns_fr HO.out hF3 HNN.out)
          have NN3 : Hid (∀ g, (Value.slice Av xs.length cv).ownBlock = some g → ¬ N3 g) := fun g hg => hO3 g (owns_lt HO.out hg) (HNN.out g hg)
          have hB3 := hB.trans (HSp.out.below hF3)
          have d0 := cell_fr c0 hF3 nN.out
          have hdn' : d + 1 ≤ n := hdn
          clear h3 hs3 hF3 hO3 c0 c1
          go_wp2_with fail
          go_roundw
          case rel => exact ⟨k + 1, xs, N3, xs.length, d + 1, false, hlt1, hlt2, by have := HX.out; omega, hdn', (fun h => by cases h), by go_num, by go_num, S3.out, O3.out, NN3.out, hB3⟩
          case measure => simp [intOf]; omega
        · have t4 : (y.kind.tmod 4 == 3) = false := by simpa using hk3
          have t5 : (y.kind.tmod 4 != 3) = true := by simpa using hk3
          clear hk3
          obtain ⟨zs, hzs⟩ : ∃ zs, zs = xs ++ y.b := ⟨_, rfl⟩
          have AG2 : Hid (addS ⟨1048576, xs, sure, (n : Int) - d, false⟩ y.b = (⟨1048576, zs, sure, (n : Int) - ((d + 1 : Nat) : Int), false⟩, 0)) := by rw [hzs]; exact AG.out
          have HZ := Lib.hid hzs
          clear hzs
          go_wp2_with fail
          refine (add_at AG2.out HSp.out (by exact HR.out) KA.out).mono ?_; rintro e w3 ⟨rfl, h3⟩
          obtain ⟨N3, hs3, hF3, hO3⟩ := h3.other
          have S3 := Lib.hid hs3
          have O3 := Lib.hid (owns_fr HO.out hF3 HNN.out)
          have NN3 : Hid (∀ g, (Value.slice Av xs.length cv).ownBlock = some g → ¬ N3 g) := fun g hg => hO3 g (owns_lt HO.out hg) (HNN.out g hg)
          have hB3 := hB.trans (HSp.out.below hF3)
          have d0 := cell_fr c0 hF3 nN.out
          have d1 := cell_fr c1 hF3 nN.out
          have R3 : Hid (Src w3 1 (.slice Ay y.b.length cy) y.b.length (bts y.b)) := by have := rd_src (HR.out.fr hF3 fun b hb _ => KA.out b hb); rw [bts_len] at this; exact this
          have hdn' : d + 1 ≤ n := hdn
          clear h3 hs3 hF3 hO3 c0 c1
          go_wp2_with (at_builtin; refine wpList_app rfl _ _ 32 rfl w.heap.size 5 i0 _ 1 1 Try.underlying32 hi hz0 hz1 hz2 rfl (by decide) _ xs.length _ rfl O3.out _ y.b.length (bts y.b) rfl R3.out (bts_one y.b) ?q1 ?q2 ?q3 ?_)
          case q1 => have := LX.out; unfold maxLen; omega
          case q2 => have := LX.out; omega
          case q3 => exact hB3.size
          intro v4 w4 ho4 hg4 hb4
          have hO4 : w4.ownsRow w.heap.size 5 1 v4 zs.length (bts zs) := by rw [HZ.out, List.length_append, bts_app]; exact ho4
          have hown : ∀ b, (Value.slice Av xs.length cv).ownBlock = some b → w.heap.size ≤ b := fun b hb => owns_base O3.out hb
          have S4 := Lib.hid (S3.out.fr (N := N3) (M := fun b => (Value.slice Av xs.length cv).ownBlock = some b) (Fr.grown (Fr.refl _ _) hg4 fun b hb => .inl hb) fun b hb hv => NN3.out b hv hb)
          have hB4 := hB3.grown hg4 hB3.size hown
          have NN4 : Hid (∀ g, v4.ownBlock = some g → ¬ N3 g) := fun g hg hn => by
            rcases hb4 with h | h
            · exact NN3.out g (h ▸ hg) hn
            · rw [h] at hg
              have := S3.out.lt g hn
              obtain rfl : w3.heap.size = g := by simpa using hg
              omega
          have O4 := Lib.hid hO4
          have hzl : zs.length ≤ (k + 1) * 300 := by rw [HZ.out, List.length_append]; have := HX.out; have := HY.out; omega
          have HZL := Lib.hid hzl
          obtain ⟨A4, c4, rfl, _⟩ := owned_form hO4
          clear ho4 hg4 hb4 hO4 hown hzl d0 d1
          go_wp2_with fail
          go_roundw
          case rel => exact ⟨k + 1, zs, N3, sure, d + 1, false, hlt1, hlt2, HZL.out, hdn', (fun h => by cases h), by go_num, by go_num, S4.out, O4.out, NN4.out, hB4⟩
          case measure => simp [intOf]; omega
      · have hno : off = true ∨ d = n := by
          cases off with
          | true => exact .inl rfl
          | false => exact .inr (by have := HD.out; have : ¬ d < n := fun h => hgo ⟨h, rfl⟩; omega)
        have hdn : d = n := by rcases hno with h | h; exact HOff.out h; exact h
        have t3 : decide ((d : Int) < n) = false := decide_eq_false (by omega)
        have t3' : decide (d < n) = false := decide_eq_false (by omega)
        have SG := Lib.hid (sync_no xs sure n d off hno)
        have AG := Lib.hid (add_no xs y.b sure n d off hno LX.out)
        have HDN := Lib.hid hdn
        clear hgo hno hdn
        by_cases hk3 : y.kind.tmod 4 = 3
        · have t4 : (y.kind.tmod 4 == 3) = true := by simpa using hk3
          have t5 : (y.kind.tmod 4 != 3) = false := by simpa using hk3
          clear hk3
          go_wp2_with fail
          refine (sync_at SG.out HSp.out).mono ?_; rintro e w3 ⟨rfl, h3⟩
          obtain ⟨N3, hs3, hF3, hO3⟩ := h3.other
          have S3 := Lib.hid hs3
          have O3 := Lib.hid (owns_fr HO.out hF3 HNN.out)
          have NN3 : Hid (∀ g, (Value.slice Av xs.length cv).ownBlock = some g → ¬ N3 g) := fun g hg => hO3 g (owns_lt HO.out hg) (HNN.out g hg)
          have hB3 := hB.trans (HSp.out.below hF3)
          clear h3 hs3 hF3 hO3 c0 c1
          go_wp2_with fail
          refine (on_at (b := false) rfl S3.out).mono ?_; rintro e w3 ⟨rfl, rfl⟩
          go_wp2_with fail
          refine (bytes_dim S3.out rfl).mono ?_; rintro e w3 ⟨rfl, rfl⟩
          go_wp2_with fail
          go_roundw
          case rel => exact ⟨k + 1, xs, N3, sure, d, true, hlt1, hlt2, by have := HX.out; omega, HD.out, (fun _ => HDN.out), by go_num, rfl, S3.out, O3.out, NN3.out, hB3⟩
          case measure => simp [intOf]; omega
        · have t4 : (y.kind.tmod 4 == 3) = false := by simpa using hk3
          have t5 : (y.kind.tmod 4 != 3) = true := by simpa using hk3
          clear hk3
          go_wp2_with fail
          refine (add_at AG.out HSp.out (by exact HR.out) KA.out).mono ?_; rintro e w3 ⟨rfl, h3⟩
          obtain ⟨N3, hs3, hF3, hO3⟩ := h3.other
          have S3 := Lib.hid hs3
          have O3 := Lib.hid (owns_fr HO.out hF3 HNN.out)
          have NN3 : Hid (∀ g, (Value.slice Av xs.length cv).ownBlock = some g → ¬ N3 g) := fun g hg => hO3 g (owns_lt HO.out hg) (HNN.out g hg)
          have hB3 := hB.trans (HSp.out.below hF3)
          clear h3 hs3 hF3 hO3 c0 c1
          go_wp2_with fail
          refine (on_at (b := false) rfl S3.out).mono ?_; rintro e w3 ⟨rfl, rfl⟩
          go_wp2_with fail
          refine (bytes_dim S3.out rfl).mono ?_; rintro e w3 ⟨rfl, rfl⟩
          go_wp2_with fail
          go_roundw
          case rel => exact ⟨k + 1, xs, N3, sure, d, true, hlt1, hlt2, by have := HX.out; omega, HD.out, (fun _ => HDN.out), by go_num, rfl, S3.out, O3.out, NN3.out, hB3⟩
          case measure => simp [intOf]; omega
    · have hexit : k < l.length → ¬ k < 60 := fun h1 h2 => hlt ⟨h1, h2⟩
      have hx : xs.length ≤ 18000 := by have := HX.out; omega
      have HXX := Lib.hid hx
      have CR := Lib.hid (crash_at (k := 1048576) (s' := ⟨1048576, xs, xs.length, -1, false⟩) (by
        have h0 : sure ≤ xs.length := HSp.out.1.1
        have e : crashN ⟨1048576, xs, sure, (n : Int) - d, off⟩ 1048576 = xs.length := by unfold crashN; show sure + min (1048576 : Int).toNat (xs.length - sure) = _; omega
        unfold crashS; rw [e]; simp) HSp.out)
      clear hx
      by_cases h1 : k < l.length
      all_goals
        first
          | (have h2 : ¬ k < 60 := hexit h1
             have t1 : decide (k < l.length) = true := decide_eq_true h1
             have t1' : (k : Int) < l.length := by omega
             have t2 : decide ((k : Int) < 60) = false := decide_eq_false (by omega))
          | (have t1 : decide (k < l.length) = false := decide_eq_false h1)
        clear hexit hlt
        go_wp2_with fail
        refine CR.out.mono ?_; rintro e w4 ⟨rfl, h4⟩
        obtain ⟨N4, hs4, hF4, hO4⟩ := h4.other
        have S4 := Lib.hid hs4
        have O4 := Lib.hid (owns_fr HO.out hF4 HNN.out)
        have hB4 := hB.trans (HSp.out.below hF4)
        clear h4 hs4 hF4 hO4
        go_wp2_with fail
        refine (bytes_any S4.out rfl).mono ?_; rintro e w5 ⟨g, hg, rfl, hblk, hb5⟩
        have SM : Hid (Calls Try.prog 27 #[.slice (some ⟨g, 0, none⟩) xs.length xs.length, .slice Av xs.length cv] w5 fun e w' => e = .returned (.bool true) ∧ w' = w5) := by
          have := bySame_any (bytes_rd (xs := xs) hblk (by have := HXX.out; unfold maxLen; omega)) ((Rd.of_owns (K := fun _ => True) (by rw [bts_len]; exact O4.out) fun _ _ => trivial).kept hb5)
          rw [beq_self_eq_true] at this; exact this
        have S5 := Lib.hid (S4.out.kept hb5)
        have hB5 := hB4.trans (hb5.mono hB4.size)
        clear hblk hb5 hg
        go_wp2_with fail
        refine SM.out.mono ?_; rintro e w5 ⟨rfl, rfl⟩
        go_wp2_with fail
        refine (on_at (b := true) rfl S5.out).mono ?_; rintro e w5 ⟨rfl, rfl⟩
        go_wp2_with fail
        refine (add_at (s' := ⟨1048576, xs ++ [120], xs.length, -1, false⟩) (n := 0) (addS_ok _ _ rfl (by have := HXX.out; simp; omega) neg1) (S5.out.alloc _) (rd_lit w5 [120] 1 rfl (by decide) _ rfl _) (fun b hb h => by have := S5.out.lt b h; omega)).mono ?_; rintro e w6 ⟨rfl, N6, _, hs6, hF6⟩
        have S6 := Lib.hid hs6
        have hB6 := (hB5.alloc hB5.size _).trans ((S5.out.alloc _).below hF6)
        clear hs6 hF6
        go_wp2_with fail
        refine (sync_at (n := 0) (syncS_ok _ rfl neg1) S6.out).mono ?_; rintro e w7 ⟨rfl, N7, _, hs7, hF7⟩
        have hB7 := hB6.trans (S6.out.below hF7)
        clear hs7 hF7
        go_wp2_with fail
        refine (known18_any _).mono ?_; rintro e w8 ⟨rfl, bk⟩
        go_wp2_with fail
        go_returns
        exact ⟨rfl, hB7.trans (bk.mono hB7.size)⟩
theorem walk (after : Int) (vl : Value) (l : List ActV) (w : World) (w0 : (Lit.int .i64 after).wf = true) (hl : RowOf w 3 (ActIs w) vl l) :
    Calls Try.prog 6 #[.int .i64 after, vl] w fun e w' => e = .returned (.bool true) ∧ Below w.heap.size w w' := by
  cases h : longB l with
  | true =>
    have hl0 := hl
    obtain ⟨A, c, rfl, _⟩ := hl
    refine long_yes after A _ c w ?_
    have := long_any hl0 (Below.refl _ _); rw [h] at this; exact this
  | false => exact short after vl l w hl h


set_option maxRecDepth 100000 in
theorem lifted (os : Os) (started : os.Started) (H : Type) (enc : TypeId × Value → H) :
    ReturnsInHanded {} Try.checked os 6 .any (Rows.spoolOffSpec.pre6 enc Try.prog Try.f6 Rows.spoolOffRow.domain false) (Rows.spoolOffSpec.post enc Try.prog Try.f6 false true false false) := by
  refine returnsInHanded_of_change (C := Try.checked) own started (by kernel_rfl) Try.func6
    (ChangeSpec.witness6 (enc := enc) (C := Try.checked) false ⟨#[], #[.int .i64 0, .slice none 0 0], []⟩ 8 (by kernel_rfl) (by kernel_rfl) (by kernel_rfl) (by kernel_rfl)) ?_
  intro W base args ds gs before hval0 hW _ _
  have hval : ∀ (j : Nat) t v, Try.f6.params[j]? = some t → args[j]? = some v → Value.okWide Try.prog W .any base t v := hval0
  have hW' := hW
  obtain ⟨p, q, hA0, hV, rfl, hfz, hnd⟩ := hW
  have hA : DataW.TrodAll enc Try.prog W 0 (fun _ => true) true Try.f6.params.toList args.toList ds p := hA0
  rw [Try.params6] at hA hval
  obtain ⟨v0, vs0, d0, ds0, p0, q0, hargs, rfl, rfl, h0, r0⟩ := trodAll_cons hA
  obtain ⟨v1, vs1, d1, ds1, p1, q1, rfl, rfl, rfl, h1, r1⟩ := trodAll_cons r0
  obtain ⟨rfl, rfl, rfl⟩ := trodAll_nil r1
  obtain rfl : args = #[v0, v1] := by cases args; simp_all
  obtain ⟨after, rfl, rfl, rfl, w0⟩ := open_int Try.underlying3 (hval 0 3 v0 rfl rfl) h0
  obtain ⟨l, w1⟩ := open_reader (reader_slice (size := 3) Try.underlying22 (by kernel_rfl) (by decide) reader_act) h1 (okWide_slice Try.underlying22 (hval 1 22 v1 rfl rfl))
  clear hA0 hval0
  refine (walk after v1 l W w0 w1).mono fun e W' ⟨he, hb⟩ => ?_
  subst he
  exact ⟨_, rfl, law_post (by kernel_rfl) (by kernel_rfl) rfl Try.underlying4 rfl hW' rfl hb⟩

theorem over : Rows.spoolOffRow.holds Try.pinned (OpenSpec.ofChange Rows.spoolOffSpec) :=
  OpenClaim.holds_of_wide 6 Try.f6 rfl rfl rfl rfl rfl rfl rfl ⟨rfl, rfl, rfl, rfl, rfl⟩ rfl rfl rfl rfl rfl (by kernel_rfl) Try.func6 (by kernel_rfl)
    (of_decide_eq_true (by kernel_rfl)) (by unfold Func.isWrapper; first | (rw [if_pos (by decide +kernel)]; kernel_rfl) | (rw [if_neg (by decide +kernel)]; exact ⟨rfl, rfl⟩))
    (fun os started H enc _ => lifted os started H enc)

theorem proved : Rows.SpoolOffSaid :=
  over
#print axioms proved
end Go.Proofs.Ytifcmapicpnkgaa.spoolOff
