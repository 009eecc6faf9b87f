/-
  TapePlays: whatever is added and packed, whenever the power goes, the tape and gangerref19's answer alike: so the law returns true for every input.
-/
import Derived.Test.YtgohnidndjbjiaaTapeY
import Derived.Test.YtgohnidndjbjiaaOpen
import Derived.Test.YtgohnidndjbjiaaRows
import Derived.Test.YtgohnidndjbjiaaArgs2
namespace Go.Proofs.Ytgohnidndjbjiaa.tapePlays
open Go.ChangeShapes Go.WideShapes Go.ChangeAt Go.RowKit
set_option linter.unusedVariables false

theorem own : ownKnob Try.prog.godebug = none := by kernel_rfl

open Go.Lib
def PlLp (w : World) (l : List ActT) (pb sb mb : Nat) (room : Int) (iv : Value) (wr : World) : Prop :=
  ∃ i : Nat, i ≤ l.length ∧ i ≤ 60 ∧ iv = .int .i64 i ∧ DoTo w pb sb mb room wr
theorem DoTo.below {w wr : World} {pb sb mb : Nat} {room : Int} (h : DoTo w pb sb mb room wr) : Below w.heap.size w wr := by
  rcases h with ⟨_, _, _, _, _, h, _⟩ | ⟨_, _, _, h, _⟩
  · exact h.below
  · exact h.below
/-- What is not spoiled yet. -/
def SpLp (w0 : World) (w : World) (pb sb tb mb rb : Nat) (N M : Nat → Prop) (t : TS) (B : Nat) (av : Value) (avs : List Value) (iv : Value) (wr : World) : Prop :=
  ∃ k : Nat, k ≤ avs.length ∧ iv = .int .i64 k ∧ PO w pb sb tb mb rb N M t t wr ∧ wr.ownsRow B 37 1 av avs.length avs ∧ ∀ (j : Nat) (v : Value) (x : List UInt8), k ≤ j → avs[j]? = some v → t.l[j]? = some x → wr.ownsRow B 5 1 v x.length (bts x)
set_option maxRecDepth 100000 in
theorem toobig (room : Int) (A : Option Addr) (c : Nat) (l : List ActT) (w : World) (h : RowOf w 4 (ActIsT w) (.slice A l.length c) l) (hr : 100000 < room) :
    Calls Try.prog 3 #[.int .i64 room, .slice A l.length c] w fun e w' => e = .returned (.bool true) ∧ Below w.heap.size w w' := by
  have LG := Lib.hid (longT_any h)
  have t1 : decide (room > 100000) = true := decide_eq_true hr
  clear h
  go_enter Try.func3, Try.ntmps3
  go_wp2_with fail
  refine LG.out.mono ?_; rintro e w1 ⟨F, rfl, ⟨q, rfl⟩, _⟩
  cases F
  all_goals
    go_wp2_with fail
    refine (known19_any _).mono ?_; rintro e w2 ⟨rfl, b2⟩
    go_wp2_with fail
    go_returns
    exact ⟨rfl, (below_drewn w q).trans b2⟩
set_option maxRecDepth 100000 in
theorem toosmall (room : Int) (A : Option Addr) (c : Nat) (l : List ActT) (w : World) (h : RowOf w 4 (ActIsT w) (.slice A l.length c) l) (hr : room < 1) :
    Calls Try.prog 3 #[.int .i64 room, .slice A l.length c] w fun e w' => e = .returned (.bool true) ∧ Below w.heap.size w w' := by
  have LG := Lib.hid (longT_any h)
  have t1 : decide (room > 100000) = false := decide_eq_false (by omega)
  have t2 : decide (room ≥ 1) = false := decide_eq_false (by omega)
  have OP : Hid (∀ W, Calls Try.prog 10 #[.int .i64 room] W fun e w' => e = .returned (.pointer none) ∧ w' = W) := fun W => opened_bad room W (.inl hr)
  have NW : Hid (∀ W, Calls Try.prog 11 #[.int .i64 room] W fun e w' => e = .returned (.tuple #[.pointer none, .int .i64 2]) ∧ w' = W) := fun W => new_bad room W (.inl hr)
  clear h hr
  go_enter Try.func3, Try.ntmps3
  go_wp2_with fail
  refine LG.out.mono ?_; rintro e w1 ⟨F, rfl, ⟨q, rfl⟩, _⟩
  cases F
  · go_wp2_with fail
    refine (OP.out _).mono ?_; rintro e w2 ⟨rfl, rfl⟩
    go_wp2_with fail
    refine (NW.out _).mono ?_; rintro e w2 ⟨rfl, rfl⟩
    go_wp2_with fail
    refine (known19_any _).mono ?_; rintro e w2 ⟨rfl, b2⟩
    go_wp2_with fail
    go_returns
    exact ⟨rfl, (below_drewn w q).trans b2⟩
  · go_wp2_with fail
    refine (known19_any _).mono ?_; rintro e w2 ⟨rfl, b2⟩
    go_wp2_with fail
    go_returns
    exact ⟨rfl, (below_drewn w q).trans b2⟩
set_option maxRecDepth 100000 in
set_option maxHeartbeats 2000000 in
theorem middle (room : Int) (A : Option Addr) (c : Nat) (l : List ActT) (w : World) (h : RowOf w 4 (ActIsT w) (.slice A l.length c) l) (hr1 : 1 ≤ room) (hr2 : room ≤ 100000) :
    Calls Try.prog 3 #[.int .i64 room, .slice A l.length c] w fun e w' => e = .returned (.bool true) ∧ Below w.heap.size w w' := by
  have LG := Lib.hid (longT_any h)
  have HL := Lib.hid h
  obtain ⟨A', c', h1, hc1, hc2, _⟩ := h
  injection h1 with h1a _ h1b
  subst h1a h1b
  unfold maxLen at hc2
  have t1 : decide (room > 100000) = false := decide_eq_false (by omega)
  have OP : Hid (∀ W, Calls Try.prog 10 #[.int .i64 room] W fun e w' => ∃ pb sb tb mb rb N M, e = .returned (.pointer (some ⟨pb, 0, none⟩)) ∧ PO W pb sb tb mb rb N M (t00 room) (t00 room) w') := fun W => opened_any room W hr1 (by omega)
  have HR2 := Lib.hid hr2
  clear hr1
  go_enter Try.func3, Try.ntmps3
  go_wp2_with fail
  refine LG.out.mono ?_; rintro e w1 ⟨F, rfl, ⟨q, hw1⟩, hfew⟩
  have B1 : Hid (Below w.heap.size w w1) := by rw [hw1]; exact below_drewn w q
  have SZ1 : Hid (w1.heap.size = w.heap.size) := by rw [hw1]; rfl
  have FW : Hid (F = false → FewL l 100) := hfew
  clear hw1 hfew LG
  cases F with
  | true =>
    go_wp2_with fail
    refine (known19_any _).mono ?_; rintro e w2 ⟨rfl, b2⟩
    go_wp2_with fail
    go_returns
    exact ⟨rfl, B1.out.trans (b2.mono B1.out.size)⟩
  | false =>
    have FL := Lib.hid (FW.out rfl)
    clear FW
    go_wp2_with fail
    refine (OP.out w1).mono ?_; rintro e w2 ⟨pb, sb, tb0, mb, rb0, N0, M0, rfl, hp0⟩
    have D2 : Hid (DoTo w1 pb sb mb room w2) := .inl ⟨tb0, rb0, N0, M0, t00 room, hp0, rfl⟩
    clear hp0 OP
    go_wp2_with fail
    go_loopw [8] (PlLp w1 l pb sb mb room) (fun i _ => 60 - (RowKit.intOf i).toNat)
    case atStart => exact ⟨0, Nat.zero_le _, Nat.zero_le _, rfl, D2.out⟩
    case round =>
      obtain ⟨i, hi1, hi2, rfl, hdo⟩ := hrel
      have HD := Lib.hid hdo
      have HB := Lib.hid (DoTo.below hdo)
      clear hdo D2
      by_cases hlt : i < l.length ∧ i < 60
      · obtain ⟨hlt1, hlt2⟩ := hlt
        have ta : decide (i < l.length) = true := decide_eq_true hlt1
        have ta' : (i : Int) < l.length := by omega
        have tb' : decide ((i : Int) < 60) = true := decide_eq_true (by omega)
        rcases HD.out with ⟨tb, rb, N, M, t, hp, hroom⟩ | ⟨N, M, s, hp, hroom⟩
        · have P := Lib.hid hp
          have RM := Lib.hid hroom
          have y1 := hp.blk.cell 1
          have y3 := hp.blk.cell 3
          simp at y1 y3
          obtain ⟨b, off, v, u, rfl, c0, c1, c2, c3, hR, hrl, hl1, hU, hn, hkd, hbw⟩ := actsT_at HL.out (B1.out.trans (HB.out.mono (Nat.le_of_eq SZ1.out.symm))) hlt1
          have hfew := FL.out i hlt1 (by omega)
          have HD3 : Hid (Calls Try.prog 12 #[.pointer (some ⟨pb, 0, none⟩), .agg #[.int .i64 (l[i]).kind, v, u, .int .i64 (l[i]).n]] wr fun e w' => e = .returned (.bool true) ∧ DoTo w1 pb sb mb t.s.room w') :=
            does_any (l[i]) v u P.out (by have := HR2.out; rw [RM.out]; exact this) (by rw [SZ1.out]; exact hR) hrl (by rw [SZ1.out]; exact hU) (by omega) hn
          rw [RM.out] at HD3
          generalize l[i] = x at *
          obtain ⟨Ar, cr, rfl, _⟩ := rd_form hR
          obtain ⟨Al, cl, rfl, _⟩ := hU.form
          clear hp hroom hR hrl hl1 hU hn hkd hfew
          go_wp2_with fail
          refine HD3.out.mono ?_; rintro e w5 ⟨rfl, h5⟩
          have D5 := Lib.hid h5
          clear h5 HD3 c0 c1 c2 c3 y1 y3
          rcases D5.out with ⟨td, rd, N5, M5, t5, hp5, hroom5⟩ | ⟨N5, M5, s5, hp5, hroom5⟩
          · have P5 := Lib.hid hp5
            have RM5 := Lib.hid hroom5
            have y1 := hp5.blk.cell 1
            have y3 := hp5.blk.cell 3
            simp at y1 y3
            clear hp5 hroom5
            go_wp2_with fail
            refine (records_any P5.out.tk).mono ?_; rintro e w6 ⟨av, avs, rfl, hao, had, hab⟩
            have AO := Lib.hid hao
            have AD := Lib.hid had
            have P6 := Lib.hid (P5.out.kept hab)
            have SZ6 : Hid (w5.heap.size ≤ w6.heap.size) := hab.size
            have hal : avs.length = t5.l.length := had.len
            obtain ⟨m, hm⟩ : ∃ m, m = avs.length := ⟨_, rfl⟩
            have HM : Hid (m = avs.length ∧ m = t5.l.length) := ⟨hm, by rw [hm, hal]⟩
            rw [← hm] at hao
            obtain ⟨Aa, ca, rfl⟩ := owned_slice hao
            have RA : Hid (RdL w6 (.slice Aa m ca) t5.l) := RdL.of_bods AO.out AD.out
            have z1 := P6.out.blk.cell 1
            have z3 := P6.out.blk.cell 3
            simp at z1 z3
            have hfw := P5.out.tk.few.2
            have hmb : m ≤ 1048576 := by rw [HM.out.2]; exact hfw
            clear hao had hab hal hm y1 y3 hfw
            go_wp2_with fail
            refine (refRecords_any P6.out.rk).mono ?_; rintro e w6 ⟨rv, rfl, hrv, rfl⟩
            have SM : Hid (Calls Try.prog 14 #[.slice Aa m ca, rv] w6 fun e w' => e = .returned (.bool true) ∧ ∃ n, w' = w6.drewN n) := by
              have := sameLists_any RA.out hrv
              rw [beq_self_eq_true] at this; exact this
            clear hrv z3
            go_wp2_with fail
            refine SM.out.mono ?_; rintro e w7 ⟨rfl, n7, hw7⟩
            have B7 : Hid (Below w6.heap.size w6 w7) := by rw [hw7]; exact below_drewn _ _
            have P7 := Lib.hid (P6.out.kept B7.out)
            have x1 := P7.out.blk.cell 1
            simp at x1
            have AO7 : Hid (w7.ownsRow w5.heap.size 37 1 (.slice Aa m ca) avs.length avs) := owns_next AO.out B7.out
            have AD7 : Hid (Bods w7 w5.heap.size avs t5.l) := AD.out.kept B7.out
            have LN : Hid (Calls Try.prog 16 #[.pointer (some ⟨td, 0, none⟩)] w7 fun e w' => e = .returned (.int .i64 m) ∧ w' = w7) := by
              rw [HM.out.2]; exact tapeLen_any P7.out.tk
            have tm : ((m : Int) != (m : Int)) = false := by simp
            clear hw7 z1 SM P6 AO AD RA
            go_wp2_with fail
            refine LN.out.mono ?_; rintro e w7 ⟨rfl, rfl⟩
            have NB : Hid (∀ b, w5.heap.size ≤ b → ¬ N5 b ∧ ¬ M5 b ∧ b ≠ pb ∧ w1.heap.size ≤ b) := fun b hb => ⟨fun h => by have := (P5.out.tk.lt b h).2; omega, fun h => by have := (P5.out.rk.lt b h).2; omega, by have := P5.out.blk.lt; omega, by have := P5.out.below.size; omega⟩
            have SH : Hid (∀ x ∈ t5.l, x.length ≤ 8000) := P5.out.tk.shrt
            clear x1 LN
            go_wp2_with fail
            go_loopw [11] (SpLp w w1 pb sb td mb rd N5 M5 t5 w5.heap.size (.slice Aa m ca) avs) (fun i _ => m - (RowKit.intOf i).toNat)
            case atStart => exact ⟨0, Nat.zero_le _, rfl, P7.out, AO7.out, fun j v x _ hv hx => AD7.out.own j v x hv hx⟩
            case round =>
              obtain ⟨k, hk, rfl, hpk, hok, hbk⟩ := hrel
              have PK := Lib.hid hpk
              have OK := Lib.hid hok
              have BK := Lib.hid hbk
              rw [← HM.out.1] at hk
              clear hpk hok hbk P7
              by_cases hlk : k < m
              · have tk : decide (k < m) = true := decide_eq_true hlk
                have tk' : (k : Int) < m := by omega
                have hka : k < avs.length := by rw [← HM.out.1]; exact hlk
                have hkl : k < t5.l.length := by rw [← HM.out.2]; exact hlk
                have hvk : avs[k]? = some avs[k] := List.getElem?_eq_getElem hka
                have hxk : t5.l[k]? = some t5.l[k] := List.getElem?_eq_getElem hkl
                have how := BK.out k _ _ (Nat.le_refl _) hvk hxk
                have hx8 := SH.out _ (List.getElem_mem hkl)
                have SPo := Lib.hid (spoil_own how (by omega))
                have NE : Hid (∀ g, (avs[k]).ownBlock = some g → w5.heap.size ≤ g ∧ (Value.slice Aa m ca).ownBlock ≠ some g ∧ ∀ j v, j ≠ k → avs[j]? = some v → v.ownBlock ≠ some g) :=
                  fun g hg => ⟨owns_base how hg, fun h => head_ne OK.out how g h hg, fun j v hj hv => AD7.out.apart k j _ v g (fun e => hj e.symm) hvk hv hg⟩
                obtain ⟨b2, o2, ea, cv⟩ : ∃ b2 o2, Aa = some ⟨b2, o2, none⟩ ∧ wr.cell? ⟨b2, o2 + k, none⟩ = some avs[k] := by
                  obtain ⟨A', c', e1, _, _, e4⟩ := Rd.of_owns (w := wr) (v := .slice Aa m ca) (xs := avs) OK.out (K := fun _ => True) fun _ _ => trivial
                  injection e1 with e1 _ _
                  subst e1
                  obtain ⟨b2, o2, e5, _, _, e6⟩ := e4 (by omega)
                  exact ⟨b2, o2, e5, e6 k _ hvk⟩
                subst ea
                generalize avs[k] = ak at *
                clear hvk hxk how hx8
                go_wp2_with fail
                refine SPo.out.mono ?_; rintro e w9 ⟨rfl, hf9⟩
                have P9 := Lib.hid (PK.out.fr hf9 fun b hb _ => NB.out b (NE.out b hb).1)
                have O9 := Lib.hid (owns_fr OK.out hf9 fun g hg h => (NE.out g h).2.1 hg)
                have B9 : Hid (∀ (j : Nat) (v : Value) (x : List UInt8), k + 1 ≤ j → avs[j]? = some v → t5.l[j]? = some x → w9.ownsRow w5.heap.size 5 1 v x.length (bts x)) :=
                  fun j v x hj hv hx => owns_fr (BK.out j v x (by omega) hv hx) hf9 fun g hg h => (NE.out g h).2.2 j v (by omega) hv hg
                clear hf9 SPo cv
                go_wp2_with fail
                go_roundw
                case rel => exact ⟨k + 1, hka, by go_num, P9.out, O9.out, B9.out⟩
                case measure => simp [RowKit.intOf]; omega
              · have tk : decide (k < m) = false := decide_eq_false hlk
                have DD : Hid (DoTo w1 pb sb mb room wr) := .inl ⟨td, rd, N5, M5, t5, PK.out, RM5.out⟩
                go_wp2_with fail
                go_roundw
                case rel => exact ⟨i + 1, hlt1, hlt2, by go_num, DD.out⟩
                case measure => simp [RowKit.intOf]; omega
          · have y1 := hp5.blk.cell 1
            have y3 := hp5.blk.cell 3
            simp at y1 y3
            clear hp5 hroom5
            go_wp2_with fail
            go_roundw
            case rel => exact ⟨i + 1, hlt1, hlt2, by go_num, D5.out⟩
            case measure => simp [RowKit.intOf]; omega
        · have y1 := hp.blk.cell 1
          have y3 := hp.blk.cell 3
          simp at y1 y3
          clear hp hroom
          go_wp2_with fail
          refine (known19_any _).mono ?_; rintro e w4 ⟨rfl, b4⟩
          go_wp2_with fail
          go_returns
          exact ⟨rfl, (B1.out.trans (HB.out.mono (Nat.le_of_eq SZ1.out.symm))).trans (b4.mono (Nat.le_trans B1.out.size HB.out.size))⟩
      · have hexit : i < l.length → ¬ i < 60 := fun h1 h2 => hlt ⟨h1, h2⟩
        by_cases h1 : i < l.length
        all_goals
          first
            | (have h2 : ¬ i < 60 := hexit h1
               have ta : decide (i < l.length) = true := decide_eq_true h1
               have ta' : (i : Int) < l.length := by omega
               have tb' : decide ((i : Int) < 60) = false := decide_eq_false (by omega))
            | (have ta : decide (i < l.length) = false := decide_eq_false h1)
          clear hexit hlt
          go_wp2_with fail
          refine (known19_any _).mono ?_; rintro e w4 ⟨rfl, b4⟩
          go_wp2_with fail
          go_returns
          exact ⟨rfl, (B1.out.trans (HB.out.mono (Nat.le_of_eq SZ1.out.symm))).trans (b4.mono (Nat.le_trans B1.out.size HB.out.size))⟩
theorem walk (room : Int) (vl : Value) (l : List ActT) (w : World) (w0 : (Lit.int .i64 room).wf = true) (hl : RowOf w 4 (ActIsT w) vl l ∧ l.length * Try.prog.bytesOf 40 ≤ reachBytes) :
    Calls Try.prog 3 #[.int .i64 room, vl] w fun e w' => e = .returned (.bool true) ∧ Below w.heap.size w w' := by
  obtain ⟨hl, _⟩ := hl
  have hl0 := hl
  obtain ⟨A, c, rfl, _⟩ := hl
  by_cases h1 : 100000 < room
  · exact toobig room A c l w hl0 h1
  · by_cases h2 : room < 1
    · exact toosmall room A c l w hl0 h2
    · exact middle room A c l w hl0 (by omega) (by omega)


set_option maxRecDepth 100000 in
theorem lifted (os : Os) (started : os.Started) (H : Type) (enc : TypeId × Value → H) :
    ReturnsInHanded {} Try.checked os 3 .any (Rows.tapePlaysSpec.pre6 enc Try.prog Try.f3 Rows.tapePlaysRow.domain false) (Rows.tapePlaysSpec.post enc Try.prog Try.f3 false true false false) := by
  refine returnsInHanded_of_change_sized (C := Try.checked) own started (by kernel_rfl) Try.func3
    (ChangeSpec.witness6 (enc := enc) (C := Try.checked) false ⟨#[], #[.int .i64 0, .slice none 0 0], []⟩ 8 (by kernel_rfl) (by kernel_rfl) (by kernel_rfl) (by kernel_rfl)) ?_
  intro W base args ds gs before hval0 hW _ hsz0 _
  have hval : ∀ (j : Nat) t v, Try.f3.params[j]? = some t → args[j]? = some v → Value.okWide Try.prog W .any base t v := hval0
  have hW' := hW
  obtain ⟨p, q, hA0, hV, rfl, hfz, hnd⟩ := hW
  have hA : DataW.TrodAll enc Try.prog W 0 (fun _ => true) true Try.f3.params.toList args.toList ds p := hA0
  rw [Try.params3] at hA hval
  obtain ⟨v0, vs0, d0, ds0, p0, q0, hargs, rfl, rfl, h0, r0⟩ := trodAll_cons hA
  obtain ⟨v1, vs1, d1, ds1, p1, q1, rfl, rfl, rfl, h1, r1⟩ := trodAll_cons r0
  obtain ⟨rfl, rfl, rfl⟩ := trodAll_nil r1
  obtain rfl : args = #[v0, v1] := by cases args; simp_all
  obtain ⟨room, rfl, rfl, rfl, w0⟩ := open_int Try.underlying3 (hval 0 3 v0 rfl rfl) h0
  have hz1 : ∀ k ∈ d1.weights Try.prog 22, k ≤ reachBytes := fun k hk => by
    have := List.all_eq_true.1 hsz0 k (DataW.weights_mem_each (j := 1) (t := 22) (d := d1) rfl rfl k hk)
    simpa using this
  obtain ⟨l, w1⟩ := open_readerZ2 (readerZ_slice (size := 4) Try.underlying22 (by kernel_rfl) (by decide) readerZ_actT) hz1 h1 (okWide_slice Try.underlying22 (hval 1 22 v1 rfl rfl))
  clear hA0 hval0
  refine (walk room v1 l W w0 w1).mono fun e W' ⟨he, hb⟩ => ?_
  subst he
  exact ⟨_, rfl, law_post (by kernel_rfl) (by kernel_rfl) rfl Try.underlying4 rfl hW' rfl hb⟩

theorem over : Rows.tapePlaysRow.holds Try.pinned (OpenSpec.ofChange Rows.tapePlaysSpec) :=
  OpenClaim.holds_of_wide 3 Try.f3 rfl rfl rfl rfl rfl rfl rfl ⟨rfl, rfl, rfl, rfl, rfl⟩ rfl rfl rfl rfl rfl (by kernel_rfl) Try.func3 (by kernel_rfl)
    (of_decide_eq_true (by kernel_rfl)) (by unfold Func.isWrapper; first | (rw [if_pos (by decide +kernel)]; kernel_rfl) | (rw [if_neg (by decide +kernel)]; exact ⟨rfl, rfl⟩))
    (fun os started H enc _ => lifted os started H enc)

theorem proved : Rows.TapePlaysSaid :=
  over
#print axioms proved
end Go.Proofs.Ytgohnidndjbjiaa.tapePlays
