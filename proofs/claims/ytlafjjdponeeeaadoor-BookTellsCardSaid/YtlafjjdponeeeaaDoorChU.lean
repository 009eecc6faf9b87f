/-
  book.Usage: at any charges.
-/
import Derived.Test.YtlafjjdponeeeaaDoorChT
import Derived.Test.YtlafjjdponeeeaaDoorDec3
import Derived.Deep.RegionHeld3
namespace Go.Proofs.YtlafjjdponeeeaaDoor
open Go Go.RowKit Go.Lib
set_option linter.unusedVariables false

def costN (c : Chg) : Nat := (endV (c.wk * c.sc)).toNat
/-- What an account's charges count for, and since when. -/
def usG (acct : ByteArray) (h : Nat) : List Chg → Nat → Nat → Nat × Nat
  | [], N, A => (N, A)
  | c :: r, N, A => if c.acct = acct then usG acct h r (endV (((aftN N (c.ax.toNat - A) h : Nat) : Int) + (costN c : Int))).toNat c.ax.toNat else usG acct h r N A
def halfOk (h : Int) : Prop := 1 ≤ h ∧ h ≤ 1099511627776
def lastAx (cs : List Chg) : Int := prevAx cs cs.length
open Classical in
noncomputable def usCh (cs : List Chg) (acct : ByteArray) (now half : Int) : Int × Int :=
  if bookB cs = true then
    if now < lastAx cs ∨ now < 0 ∨ 1099511627776 < now ∨ ¬ halfOk half then (0, 2)
    else (endV (((aftN (usG acct half.toNat cs 0 0).1 (now.toNat - (usG acct half.toNat cs 0 0).2) half.toNat : Nat) : Int) + (0 : Int)), 0)
  else (0, 200)
theorem endV_nn {n : Int} (h : 0 ≤ n) : 0 ≤ endV n ∧ endV n ≤ 9223372036854775807 := by
  have := endV_I64 n
  unfold I64 at this
  refine ⟨?_, this.2⟩
  unfold endV; split <;> (try split) <;> omega
theorem ok_cost {c : Chg} (h : okCh c = true) : endV (c.wk * c.sc) = (costN c : Int) ∧ costN c ≤ 9223372036854775807 := by
  obtain ⟨_, h1, h2, _⟩ := ok_nums h
  have h0 : 0 ≤ c.wk * c.sc := Int.mul_nonneg (by omega) h2.1
  obtain ⟨q1, q2⟩ := endV_nn h0
  unfold costN
  omega
theorem book_le {cs : List Chg} (h : bookB cs = true) {k : Nat} (hk : k < cs.length) : okCh (chAt cs k) = true := (book_mem h).2 _ (chAt_mem hk)
theorem bookF_at (cs : List Chg) (h : bookF 0 cs = true) : ∀ k, k ≤ cs.length → bookF (prevAx cs k) (cs.drop k) = true
  | 0, _ => h
  | k + 1, hk => by
    have ih := bookF_at cs h k (by omega)
    rw [bookF_step (by omega)] at ih
    simp only [Bool.and_eq_true] at ih
    exact ih.2
theorem book_up {cs : List Chg} (h : bookB cs = true) {k : Nat} (hk : k < cs.length) : prevAx cs k ≤ (chAt cs k).ax := by
  have hb : bookF 0 cs = true := by unfold bookB at h; simp only [Bool.and_eq_true] at h; exact h.2
  have := bookF_at cs hb k (by omega)
  rw [bookF_step hk] at this
  simp only [Bool.and_eq_true, decide_eq_true_eq] at this
  exact this.1.2
theorem prev_nn {cs : List Chg} (h : bookB cs = true) : ∀ k, k ≤ cs.length → 0 ≤ prevAx cs k ∧ prevAx cs k ≤ 1099511627776
  | 0, _ => by unfold prevAx; rw [if_pos rfl]; omega
  | k + 1, hk => by rw [prev_succ]; exact (ok_nums (book_le h (k := k) (by omega))).2.2.2.1
theorem prev_last {cs : List Chg} (h : bookB cs = true) : ∀ d k, k + d = cs.length → prevAx cs k ≤ lastAx cs
  | 0, k, e => by unfold lastAx; rw [← e]; exact Int.le_refl _
  | d + 1, k, e => by
    have h1 := prev_last h d (k + 1) (by omega)
    have h2 := book_up h (k := k) (by omega)
    rw [prev_succ] at h1
    omega
/-- decay.Charge, as Usage calls it. -/
theorem charge_at (N A : Nat) (now more h : Int) (w : World) (hN : N ≤ 9223372036854775807) (hm0 : 0 ≤ more) (hm : more ≤ 9223372036854775807) (ha : (A : Int) ≤ now) (hn : now ≤ 1099511627776) (hh : halfOk h) :
    Calls Tryd.prog 35 #[.agg #[.int .i64 N, .int .i64 A], .int .i64 now, .int .i64 more, .int .i64 h] w
      fun e w' => e = .returned (.tuple #[.agg #[.int .i64 (endV (((aftN N (now.toNat - A) h.toNat : Nat) : Int) + more)), .int .i64 now], .int .i64 0]) ∧ Below w.heap.size w w' := by
  obtain ⟨n', rfl⟩ := Int.eq_ofNat_of_zero_le (show 0 ≤ now by omega)
  obtain ⟨m', rfl⟩ := Int.eq_ofNat_of_zero_le hm0
  obtain ⟨h', rfl⟩ := Int.eq_ofNat_of_zero_le (show 0 ≤ h by have := hh.1; omega)
  have h1 := hh.1
  have h2 := hh.2
  exact charge_ok N A n' m' h' w hN (by omega) (by omega) (by omega) (by omega) (by omega)
theorem charge_bad (N A : Nat) (now more h : Int) (w : World) (hh : ¬ (A ≤ now ∧ now ≤ 1099511627776 ∧ 0 ≤ more ∧ halfOk h)) :
    Calls Tryd.prog 35 #[.agg #[.int .i64 N, .int .i64 A], .int .i64 now, .int .i64 more, .int .i64 h] w
      fun e w' => e = .returned (.tuple #[.agg #[.int .i64 0, .int .i64 0], .int .i64 2]) ∧ Below w.heap.size w w' :=
  charge_no N A now more h w fun hc => hh ⟨hc.2.2.1, hc.2.2.2.1, hc.2.2.2.2.1, hc.2.2.2.2.2⟩
set_option maxRecDepth 100000 in
set_option maxHeartbeats 8000000 in
/-- Usage's loop body's call, once: where the account is the charge's. -/
theorem usage_ok (v : Value) (cs : List Chg) (acct : ByteArray) (now half : Int) (w : World) (hr : ChRow w v cs) (hwf : ∀ c ∈ cs, ChWf c) (hT : U8W w) (hs : acct.size ≤ 4611686018427387904) (hI : I64 now ∧ I64 half)
    (hB : bookB cs = true) (hnow : lastAx cs ≤ now) (hh : halfOk half) :
    Calls Tryd.prog 18 #[v, .string acct, .int .i64 now, .int .i64 half] w fun e w' => e = .returned (.tuple #[.int .i64 (usCh cs acct now half).1, .int .i64 (usCh cs acct now half).2]) ∧ Below w.heap.size w w' := by
  have HCK := Lib.hid (check_ch v cs w hr hwf hT)
  have hE : chkCh cs = 0 := by unfold chkCh; rw [if_pos hB]
  rw [hE] at HCK
  obtain ⟨a, c, rfl, hcl, hcm, hrow⟩ := hr
  obtain ⟨hlen, _⟩ := book_mem hB
  have HROW := Lib.hid hrow
  have HWF := Lib.hid hwf
  have HPN : Hid (∀ k, k ≤ cs.length → 0 ≤ prevAx cs k ∧ prevAx cs k ≤ 1099511627776) := prev_nn hB
  have HUP : Hid (∀ k, k < cs.length → prevAx cs k ≤ (chAt cs k).ax ∧ okCh (chAt cs k) = true) := fun k hk => ⟨book_up hB hk, book_le hB hk⟩
  have HCO : Hid (∀ c ∈ cs, okCh c = true → ∀ w1, Calls Tryd.prog 31 #[chV c] w1 fun e w' => e = .returned (.int .i64 (costN c : Nat)) ∧ Below w1.heap.size w1 w') := fun c hc ho w1 => by
    have := cost_any c w1 (hwf c hc)
    rwa [(ok_cost ho).1] at this
  have HLA : Hid (∀ (_ : 0 < cs.length), lastAx cs = (chAt cs (cs.length - 1)).ax) := fun h0 => by unfold lastAx prevAx; rw [if_neg (by omega)]
  have hlast := hnow
  obtain ⟨RU, hRU⟩ : ∃ R, R = usG acct half.toNat cs 0 0 := ⟨_, rfl⟩
  have HRES : Hid (usCh cs acct now half = if now < 0 ∨ 1099511627776 < now then (0, 2) else (endV (((aftN RU.1 (now.toNat - RU.2) half.toNat : Nat) : Int) + (0 : Int)), 0)) := by
    unfold Hid usCh; rw [if_pos hB, ← hRU]
    by_cases h : now < 0 ∨ 1099511627776 < now
    · rw [if_pos h, if_pos (by rcases h with h | h; exact .inr (.inl h); exact .inr (.inr (.inl h)))]
    · rw [if_neg h, if_neg (by rintro (q | q | q | q); omega; exact h (.inl q); exact h (.inr q); exact q hh)]
  generalize usCh cs acct now half = R at *
  have HNOW := Lib.hid hnow
  have HH := Lib.hid hh
  have HRU := Lib.hid hRU
  clear hrow hwf hT hB hE hRU hnow hh
  go_enter Tryd.func18, Tryd.ntmps18
  go_wp2_with fail
  refine HCK.out.mono ?_; rintro e w1 ⟨rfl, b1⟩
  have B1 := Lib.hid b1
  clear HCK
  go_upto_region 4 with fail
  go_cut [35] (fun bv wx => bv = .bool false ∧ wx = w1)
  case first =>
    by_cases h0 : 0 < cs.length
    · have t1 : decide ((cs.length : Int) > 0) = true := decide_eq_true (by omega)
      have t1n : decide (0 < cs.length) = true := decide_eq_true h0
      obtain ⟨b, off, rfl, hbw, hc⟩ := HROW.out h0
      have c5 := (((hc (cs.length - 1) (by omega)).kept b1)).c5
      rw [← HLA.out h0] at c5
      obtain ⟨t, ht⟩ : ∃ t, t = cs.length - 1 := ⟨_, rfl⟩
      have et : (cs.length : Int) - 1 = (t : Int) := by omega
      have tl : (t : Int) < cs.length := by omega
      rw [← ht] at c5
      have t2 : decide (now < lastAx cs) = false := decide_eq_false (by omega)
      generalize lastAx cs = La at *
      clear hc ht b1 HLA HROW HPN HUP HCO HWF
      go_wp2_with fail
      go_meet
      case rel => exact ⟨rfl, rfl⟩
    · have t1 : decide ((cs.length : Int) > 0) = false := decide_eq_false (by omega)
      have t1n : decide (0 < cs.length) = false := decide_eq_false h0
      clear b1 HLA HROW HPN HUP HCO HWF
      go_wp2_with fail
      go_meet
      case rel => exact ⟨rfl, rfl⟩
  case rest =>
    obtain ⟨rfl, rfl⟩ := hcut
    have hU := Lib.hid (Blk.new wc #[.int .i64 0, .int .i64 0] 69)
    have B2 := Lib.hid (below_next ((Below.refl wc.heap.size wc).alloc (Nat.le_refl _) (.cells #[.int .i64 0, .int .i64 0] 69)) B1.out)
    obtain ⟨gU, hgU⟩ : ∃ g, g = wc.heap.size := ⟨_, rfl⟩
    have hgw : w.heap.size ≤ gU := by rw [hgU]; exact b1.size
    rw [← hgU] at hU
    clear b1 B1 HLA
    go_upto_region 7 with fail
    rw [← hgU]
    generalize wc.alloc (.cells #[.int .i64 0, .int .i64 0] 69) = W0 at *
    clear hgU
    go_wp2_with fail
    go_loopw [39] (fun i wr => ∃ (k N A : Nat), k ≤ cs.length ∧ i = .int .i64 k ∧ N ≤ 9223372036854775807 ∧ (A : Int) ≤ prevAx cs k ∧ Hid (RU = usG acct half.toNat (cs.drop k) N A) ∧ Hid (Blk wr gU #[.int .i64 (N : Int), .int .i64 (A : Int)] 69) ∧ Below w.heap.size w wr) (fun i _ => cs.length - (RowKit.intOf i).toNat)
    case atStart => exact ⟨0, 0, 0, Nat.zero_le _, rfl, by omega, by unfold prevAx; rw [if_pos rfl]; omega, HRU.out, hU.out, B2.out⟩
    case round =>
      obtain ⟨k, N, A, hk, rfl, hN, hA, hst, hUb, hBW⟩ := hrel
      by_cases hlt : k < cs.length
      · have hlt' : decide (k < cs.length) = true := decide_eq_true hlt
        have hlt2 : decide ((k : Int) < cs.length) = true := decide_eq_true (by omega)
        have hkl : (k : Int) < cs.length := by omega
        obtain ⟨b, off, rfl, hbw, hc⟩ := HROW.out (by omega)
        obtain ⟨c0, c1, c2, c3, c4, c5⟩ := (hc k hlt).kept hBW
        have hst' := hst.out
        rw [drop_ch hlt, usG] at hst'
        have hmem := chAt_mem hlt
        obtain ⟨hup, hokc⟩ := HUP.out k hlt
        have HCOk := Lib.hid (HCO.out _ hmem hokc)
        have hcm := (ok_cost hokc).2
        have hps : Hid (prevAx cs (k + 1) = (chAt cs k).ax) := prev_succ cs k
        have hax := (ok_nums hokc).2.2.2.1
        have HBW := Lib.hid hBW
        have HCH : Hid (∀ more w1, more ≤ 9223372036854775807 → Calls Tryd.prog 35 #[.agg #[.int .i64 N, .int .i64 A], .int .i64 (chAt cs k).ax, .int .i64 (more : Nat), .int .i64 half] w1 fun e w' => e = .returned (.tuple #[.agg #[.int .i64 (endV (((aftN N ((chAt cs k).ax.toNat - A) half.toNat : Nat) : Int) + (more : Int))), .int .i64 (chAt cs k).ax], .int .i64 0]) ∧ Below w1.heap.size w1 w') := fun more w1 hm => charge_at N A _ more half w1 hN (by omega) (by omega) (by omega) (by omega) HH.out
        clear hc hmem hst hBW HCO HUP hokc
        generalize costN (chAt cs k) = C at *
        generalize chAt cs k = x at *
        obtain ⟨id, ac, wk, sc, how, ax⟩ := x
        dsimp only at *
        have HCHk := Lib.hid (HCH.out C · hcm)
        clear HCH
        have hq0 : 0 ≤ ((aftN N (ax.toNat - A) half.toNat : Nat) : Int) + (C : Int) := by omega
        obtain ⟨hq1, hq2⟩ := endV_nn hq0
        generalize endV (((aftN N (ax.toNat - A) half.toNat : Nat) : Int) + (C : Int)) = V at *
        obtain ⟨N', rfl⟩ := Int.eq_ofNat_of_zero_le hq1
        obtain ⟨A', rfl⟩ := Int.eq_ofNat_of_zero_le hax.1
        have hb := Blk.new wr #[.int .u32 id, .string ac, .int .i64 wk, .int .i64 sc, .int .i64 how, .int .i64 (A' : Int)] 24
        have HB1 := Lib.hid (HBW.out.alloc HBW.out.size (.cells #[.int .u32 id, .string ac, .int .i64 wk, .int .i64 sc, .int .i64 how, .int .i64 (A' : Int)] 24))
        have HU1 := Lib.hid (hUb.out.old (.cells #[.int .u32 id, .string ac, .int .i64 wk, .int .i64 sc, .int .i64 how, .int .i64 (A' : Int)] 24))
        have HBL := Lib.hid hb
        obtain ⟨gc, hgc⟩ : ∃ g, g = wr.heap.size := ⟨_, rfl⟩
        rw [← hgc] at HBL
        have d0 := HBL.out.cell 0
        have d1 := HBL.out.cell 1
        have d2 := HBL.out.cell 2
        have d3 := HBL.out.cell 3
        have d4 := HBL.out.cell 4
        have d5 := HBL.out.cell 5
        have u0 := HU1.out.cell 0
        have u1 := HU1.out.cell 1
        simp only [List.getElem?_toArray, List.getElem?_cons_zero, List.getElem?_cons_succ] at d0 d1 d2 d3 d4 d5 u0 u1
        clear hb HROW
        go_upto_region 10 with fail
        rw [← hgc]
        generalize wr.alloc (.cells #[.int .u32 id, .string ac, .int .i64 wk, .int .i64 sc, .int .i64 how, .int .i64 (A' : Int)] 24) = W1 at *
        clear hgc c0 c1 c2 c3 c4 c5 hUb HBW
        by_cases qa : ac = acct
        · have hst2 : Hid (RU = usG acct half.toNat (cs.drop (k + 1)) N' A') := by
            unfold Hid; rw [hst', if_pos qa]; rfl
          have q1 : (ac.toList == acct.toList) = true := by rw [str_beq]; exact decide_eq_true qa
          have q2 : (ac.toList != acct.toList) = false := by rw [bne, q1]; rfl
          have HS : Hid (∀ w', Below W1.heap.size W1 w' → w'.cell? ⟨gU, 0, none⟩ = some (.int .i64 (N : Int)) ∧ w'.cell? ⟨gU, 1, none⟩ = some (.int .i64 (A : Int)) ∧ w'.cell? ⟨gc, 0, none⟩ = some (.int .u32 id) ∧ w'.cell? ⟨gc, 1, none⟩ = some (.string ac) ∧ w'.cell? ⟨gc, 2, none⟩ = some (.int .i64 wk) ∧ w'.cell? ⟨gc, 3, none⟩ = some (.int .i64 sc) ∧ w'.cell? ⟨gc, 4, none⟩ = some (.int .i64 how) ∧ w'.cell? ⟨gc, 5, none⟩ = some (.int .i64 (A' : Int)) ∧ Below W1.heap.size W1 w') := by
            have D := Lib.hid (And.intro u0 (And.intro u1 (And.intro d0 (And.intro d1 (And.intro d2 (And.intro d3 (And.intro d4 d5)))))))
            intro w' hb
            obtain ⟨e0, e1, e2, e3, e4, e5, e6, e7⟩ := D.out
            exact ⟨cell_next hb e0, cell_next hb e1, cell_next hb e2, cell_next hb e3, cell_next hb e4, cell_next hb e5, cell_next hb e6, cell_next hb e7, hb⟩
          clear hst' qa
          go_upto_region 11 with fail
          go_cut [14, 15] (fun pv ev wx => ev = .int .i64 0 ∧ ∃ g2, pv = .pointer (some ⟨g2, 0, none⟩) ∧ W1.heap.size ≤ g2 ∧ ∃ wq, wq = wx ∧ Blk wq g2 #[.int .i64 (N' : Int), .int .i64 (A' : Int)] 69 ∧ Below W1.heap.size W1 wq)
          case first =>
            clear HWF HPN HRES HRU HB1 HU1 HBL B2 hU hlast hI hcl hlt' hlt2 q1 q2 hst2 hps
            have HBd : Below W1.heap.size W1 W1.drew := (Below.refl _ _).drew
            first
              | (go_region_held3 (fun w' => w'.cell? ⟨gU, 0, none⟩ = some (.int .i64 (N : Int)) ∧ w'.cell? ⟨gU, 1, none⟩ = some (.int .i64 (A : Int)) ∧ w'.cell? ⟨gc, 0, none⟩ = some (.int .u32 id) ∧ w'.cell? ⟨gc, 1, none⟩ = some (.string ac) ∧ w'.cell? ⟨gc, 2, none⟩ = some (.int .i64 wk) ∧ w'.cell? ⟨gc, 3, none⟩ = some (.int .i64 sc) ∧ w'.cell? ⟨gc, 4, none⟩ = some (.int .i64 how) ∧ w'.cell? ⟨gc, 5, none⟩ = some (.int .i64 (A' : Int)) ∧ Below W1.heap.size W1 w')
                  (first
                    | exact HS.out _ HBd
                    | (rcases ‹_ ∧ _ ∧ _ ∧ _ ∧ _ ∧ _ ∧ _ ∧ _ ∧ Below _ _ _› with ⟨_, _, _, _, _, _, _, _, s6⟩; exact HS.out _ (s6.alloc s6.size _))
                    | (rcases ‹_ ∧ _ ∧ _ ∧ _ ∧ _ ∧ _ ∧ _ ∧ _ ∧ Below _ _ _› with ⟨_, _, _, _, _, _, _, _, s6⟩; exact HS.out _ (below_next (by assumption) s6))
                    | exact HS.out _ (hB5.alloc hB5.size _)
                    | (rcases ‹_ ∧ _ ∧ _ ∧ _ ∧ _ ∧ _ ∧ _ ∧ _ ∧ Below _ _ _› with ⟨_, _, _, _, _, _, _, _, s6⟩; exact HS.out _ ((s6.setCell (by first | exact Nat.le_refl _ | exact hsz4 | exact s6.size) _).setCell (by first | exact Nat.le_refl _ | exact hsz4 | exact s6.size) _)))
                  (first
                    | (go_at_call 31; ((with_reducible refine (HCOk.out _).mono ?_); rintro e w4 ⟨rfl, b4⟩); have hsz4 := (below_next b4 (‹_ ∧ _ ∧ _ ∧ _ ∧ _ ∧ _ ∧ _ ∧ _ ∧ Below _ _ _›).2.2.2.2.2.2.2.2).size; first
                        | (have hz := Blk.kept (w := (W1.alloc (.cells #[.int .i64 0, .int .i64 0] 69)).drew) (Blk.new W1 #[.int .i64 0, .int .i64 0] 69) b4; have s0 := hz.cell 0; have s1 := hz.cell 1; have s2 := hz.free 0; have s3 := hz.free 1; simp only [List.getElem?_toArray, List.getElem?_cons_zero, List.getElem?_cons_succ] at s0 s1)
                        | (have hz := Blk.kept (w := W1.drew.alloc (.cells #[.int .i64 0, .int .i64 0] 69)) (Blk.new W1.drew #[.int .i64 0, .int .i64 0] 69) b4; have s0 := hz.cell 0; have s1 := hz.cell 1; have s2 := hz.free 0; have s3 := hz.free 1; simp only [List.getElem?_toArray, List.getElem?_cons_zero, List.getElem?_cons_succ] at s0 s1)
                        | skip)
                    | (go_at_call 35; ((with_reducible refine (HCHk.out _).mono ?_); rintro e w5 ⟨rfl, b5⟩); have hB5 := below_next b5 (‹_ ∧ _ ∧ _ ∧ _ ∧ _ ∧ _ ∧ _ ∧ _ ∧ Below _ _ _›).2.2.2.2.2.2.2.2; first
                        | (have hz2 := Blk.kept hz b5; have r0 := hz2.cell 0; have r1 := hz2.cell 1; have r2 := hz2.free 0; have r3 := hz2.free 1; simp only [List.getElem?_toArray, List.getElem?_cons_zero, List.getElem?_cons_succ] at r0 r1)
                        | (have hz2 := Blk.kept (w := w4.alloc (.cells #[.int .i64 0, .int .i64 0] 69)) (Blk.new w4 #[.int .i64 0, .int .i64 0] 69) b5; have r0 := hz2.cell 0; have r1 := hz2.cell 1; have r2 := hz2.free 0; have r3 := hz2.free 1; simp only [List.getElem?_toArray, List.getElem?_cons_zero, List.getElem?_cons_succ] at r0 r1)
                        | skip)))
              | fail "held"
            all_goals
              go_wp2_with fail
              go_meet
              case rel =>
                first
                  | exact ⟨rfl, _, rfl, hB5.size, _, rfl, Blk.new w5 _ _, hB5.alloc hB5.size _⟩
                  | exact ⟨rfl, _, rfl, hsz4, _, rfl, (hz2.set 0 _).set 1 _, (hB5.setCell hsz4 _).setCell hsz4 _⟩
                  | exact ⟨rfl, _, rfl, Nat.le_refl _, _, rfl, (hz2.set 0 _).set 1 _, (hB5.setCell (Nat.le_refl _) _).setCell (Nat.le_refl _) _⟩
          case rest =>
            obtain ⟨rfl, g2, rfl, hg2, wq, hwq, hP, hBq⟩ := hcut
            subst hwq
            have p0 := hP.cell 0
            have p1 := hP.cell 1
            have HUq := HU1.out.kept hBq
            have o0 := HUq.cell 0
            have o1 := HUq.cell 1
            have f0 := HUq.free 0
            have f1 := HUq.free 1
            simp only [List.getElem?_toArray, List.getElem?_cons_zero, List.getElem?_cons_succ] at p0 p1 o0 o1
            have HU3 : Hid (Blk ((wq.setCell ⟨gU, 0, none⟩ (.int .i64 (N' : Int))).setCell ⟨gU, 1, none⟩ (.int .i64 (A' : Int))) gU #[.int .i64 (N' : Int), .int .i64 (A' : Int)] 69) := (HUq.set 0 _).set 1 _
            have HB3 := Lib.hid (((below_next hBq HB1.out).setCell (p := ⟨gU, 0, none⟩) hgw (.int .i64 (N' : Int))).setCell (p := ⟨gU, 1, none⟩) hgw (.int .i64 (A' : Int)))
            clear hP HUq HU1 HBL HB1 HS hBq HCOk HCHk d0 d1 d2 d3 d4 d5 u0 u1 HRES HRU HWF HPN
            have HA' : Hid ((A' : Int) ≤ prevAx cs (k + 1)) := by unfold Hid; rw [hps.out]; exact Int.le_refl _
            go_wp2_with fail
            go_roundw
            case rel => exact ⟨k + 1, N', A', hlt, by go_num, by omega, HA'.out, hst2, HU3.out, HB3.out⟩
            case measure => simp [RowKit.intOf]; omega
        · have hst2 : Hid (RU = usG acct half.toNat (cs.drop (k + 1)) N A) := by unfold Hid; rw [hst', if_neg qa]
          have q1 : (ac.toList == acct.toList) = false := by rw [str_beq]; exact decide_eq_false qa
          have q2 : (ac.toList != acct.toList) = true := by rw [bne, q1]; rfl
          have HA' : Hid ((A : Int) ≤ prevAx cs (k + 1)) := by unfold Hid; rw [hps.out]; omega
          clear hst' qa HCOk HCHk HBL u0 u1 d0 d2 d3 d4 d5
          go_wp2_with fail
          go_roundw
          case rel => exact ⟨k + 1, N, A, hlt, by go_num, hN, HA'.out, hst2, HU1.out, HB1.out⟩
          case measure => simp [RowKit.intOf]; omega
      · obtain rfl : k = cs.length := by omega
        have hlt' : decide (cs.length < cs.length) = false := decide_eq_false hlt
        have hlt2 : decide ((cs.length : Int) < cs.length) = false := decide_eq_false (by omega)
        have hRU2 : RU = (N, A) := by rw [hst.out, List.drop_length]; rfl
        have hAn : (A : Int) ≤ now := by have := HNOW.out; unfold lastAx at this; omega
        have o0 := hUb.out.cell 0
        have o1 := hUb.out.cell 1
        simp only [List.getElem?_toArray, List.getElem?_cons_zero, List.getElem?_cons_succ] at o0 o1
        have HBW := Lib.hid hBW
        by_cases hbig : now ≤ 1099511627776
        · have HCH := Lib.hid (fun w1 => charge_at N A now 0 half w1 hN (by omega) (by omega) hAn hbig HH.out)
          have hr : Hid (R = (endV (((aftN N (now.toNat - A) half.toNat : Nat) : Int) + 0), 0)) := by unfold Hid; rw [HRES.out, if_neg (by omega), hRU2]
          clear HRES hRU2 HRU HWF HPN HROW HUP HCO hst hlast hAn hbig
          generalize endV (((aftN N (now.toNat - A) half.toNat : Nat) : Int) + 0) = V at *
          go_wp2_with fail
          refine (HCH.out _).mono ?_; rintro e w2 ⟨rfl, b2⟩
          have HU2 := hUb.out.kept b2
          have m0 := HU2.cell 0
          have m1 := HU2.cell 1
          have f0 := HU2.free 0
          have f1 := HU2.free 1
          simp only [List.getElem?_toArray, List.getElem?_cons_zero, List.getElem?_cons_succ] at m0 m1
          have HB3 := Lib.hid (((below_next b2 HBW.out).setCell (p := ⟨gU, 0, none⟩) hgw (.int .i64 V)).setCell (p := ⟨gU, 1, none⟩) hgw (.int .i64 now))
          clear HU2 hUb b2 HBW HCH o0 o1
          go_wp2_with fail
          go_returns
          rw [hr.out]
          exact ⟨rfl, HB3.out⟩
        · have HCH := Lib.hid (fun w1 => charge_bad N A now 0 half w1 (fun h => hbig h.2.1))
          have hr : Hid (R = (0, 2)) := by unfold Hid; rw [HRES.out, if_pos (.inr (by omega))]
          clear HRES hRU2 HRU HWF HPN HROW HUP HCO hst hlast hAn hbig
          go_wp2_with fail
          refine (HCH.out _).mono ?_; rintro e w2 ⟨rfl, b2⟩
          have HU2 := hUb.out.kept b2
          have m0 := HU2.cell 0
          have m1 := HU2.cell 1
          have f0 := HU2.free 0
          have f1 := HU2.free 1
          simp only [List.getElem?_toArray, List.getElem?_cons_zero, List.getElem?_cons_succ] at m0 m1
          have HB3 := Lib.hid (((below_next b2 HBW.out).setCell (p := ⟨gU, 0, none⟩) hgw (.int .i64 0)).setCell (p := ⟨gU, 1, none⟩) hgw (.int .i64 0))
          clear HU2 hUb b2 HBW HCH o0 o1
          go_wp2_with fail
          go_returns
          rw [hr.out]
          exact ⟨rfl, HB3.out⟩
end Go.Proofs.YtlafjjdponeeeaaDoor
