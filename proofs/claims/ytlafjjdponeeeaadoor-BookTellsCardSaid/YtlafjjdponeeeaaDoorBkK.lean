/-
  Charges held against one another; gangerlaw20.known is true; many.
-/
import Derived.Test.YtlafjjdponeeeaaDoorBkC
import Derived.Test.YtlafjjdponeeeaaDoorChV
import Derived.Laws.StructEq
import Derived.Shelf.SlicesE.Kit
namespace Go.Proofs.YtlafjjdponeeeaaDoor
open Go Go.RowKit Go.Lib
set_option linter.unusedVariables false

def ceqB (a b : Chg) : Bool := decide (a.id = b.id) && decide (a.acct = b.acct) && decide (a.wk = b.wk) && decide (a.sc = b.sc) && decide (a.how = b.how) && decide (a.ax = b.ax)
theorem ceqB_iff (a b : Chg) : ceqB a b = true ↔ a = b := by
  obtain ⟨a1, a2, a3, a4, a5, a6⟩ := a
  obtain ⟨b1, b2, b3, b4, b5, b6⟩ := b
  unfold ceqB
  simp [and_assoc]
theorem ceqB_refl (a : Chg) : ceqB a a = true := (ceqB_iff a a).2 rfl
theorem chg_eql (a b : Chg) (w : World) : Sem.run Tryd.prog (binOp .eql 24 (chV a) (chV b)) w = .ok (.bool (ceqB a b)) w := by
  have u3 := Tryd.underlying3
  have a3 := Tryd.isAgg3
  have z3 := Tryd.sizeOf3
  have u22 := Tryd.underlying22
  have a22 := Tryd.isAgg22
  have z22 := Tryd.sizeOf22
  have u9 := Tryd.underlying9
  have a9 := Tryd.isAgg9
  have z9 := Tryd.sizeOf9
  have hS : Tryd.prog.underlying 24 = some (.struct (Tryd.prog.fieldsOf 24)) := by kernel_rfl
  have hp : Tryd.prog.stoodInHeld 24 = false := by kernel_rfl
  rw [run_eql_struct, show (10000 : Nat) = 9999 + 1 from rfl, run_equalIn_agg w 9999 24 _ _ hS hp]
  simp only [Program.fieldsOf, Tryd.underlying24]
  go_simp
  have hb : ∀ x y : ByteArray, (x.toList = y.toList) = (x = y) := fun x y => propext (by rw [ByteArray.toList_eq, ByteArray.toList_eq]; exact ⟨fun h => ByteArray.ext (Array.toList_inj.1 h), fun h => by rw [h]⟩)
  obtain ⟨a1, a2, a3, a4, a5, a6⟩ := a
  obtain ⟨b1, b2, b3, b4, b5, b6⟩ := b
  unfold ceqB
  dsimp only
  by_cases h1 : a1 = b1 <;> by_cases h2 : a2 = b2 <;> by_cases h3 : a3 = b3 <;> by_cases h4 : a4 = b4 <;> by_cases h5 : a5 = b5 <;> by_cases h6 : a6 = b6 <;> simp [hb, h1, h2, h3, h4, h5, h6]
theorem chg_neq (a b : Chg) (w : World) : Sem.run Tryd.prog (binOp .neq 24 (chV a) (chV b)) w = .ok (.bool (!ceqB a b)) w := by
  have u3 := Tryd.underlying3
  have a3 := Tryd.isAgg3
  have z3 := Tryd.sizeOf3
  have u22 := Tryd.underlying22
  have a22 := Tryd.isAgg22
  have z22 := Tryd.sizeOf22
  have u9 := Tryd.underlying9
  have a9 := Tryd.isAgg9
  have z9 := Tryd.sizeOf9
  have hS : Tryd.prog.underlying 24 = some (.struct (Tryd.prog.fieldsOf 24)) := by kernel_rfl
  have hp : Tryd.prog.stoodInHeld 24 = false := by kernel_rfl
  rw [run_neq_struct, show (10000 : Nat) = 9999 + 1 from rfl, run_equalIn_agg w 9999 24 _ _ hS hp]
  simp only [Program.fieldsOf, Tryd.underlying24]
  go_simp
  have hb : ∀ x y : ByteArray, (x.toList = y.toList) = (x = y) := fun x y => propext (by rw [ByteArray.toList_eq, ByteArray.toList_eq]; exact ⟨fun h => ByteArray.ext (Array.toList_inj.1 h), fun h => by rw [h]⟩)
  obtain ⟨a1, a2, a3, a4, a5, a6⟩ := a
  obtain ⟨b1, b2, b3, b4, b5, b6⟩ := b
  unfold ceqB
  dsimp only
  by_cases h1 : a1 = b1 <;> by_cases h2 : a2 = b2 <;> by_cases h3 : a3 = b3 <;> by_cases h4 : a4 = b4 <;> by_cases h5 : a5 = b5 <;> by_cases h6 : a6 = b6 <;> simp [hb, h1, h2, h3, h4, h5, h6]
theorem chg_grd (op : BinOp) (x y : Operand) (a b : Array Value) (w : World) : Sem.run Tryd.prog (eqGuard op 24 x y (.agg a) (.agg b)) w = .ok () w := run_eqGuard_agg w op _ _ _ _ _ (by kernel_rfl)

def k7 : Chg := ⟨7, ⟨#[97, 110, 110]⟩, 8, 120, 5, 5000⟩
def kl : List Chg := [⟨1, ⟨#[97]⟩, 1, 100, 5, 0⟩, ⟨2, ⟨#[97]⟩, 7, 1, 6, 10⟩]
theorem ann : nameB ⟨#[97, 110, 110]⟩ = true := by decide +kernel
theorem k7_ok : okCh k7 = true := by decide +kernel
theorem k7_line : lineT k7 = [55, 32, 97, 110, 110, 32, 56, 120, 49, 50, 48, 32, 100, 111, 110, 101, 32, 53, 48, 48, 48] := by decide +kernel
theorem k_bad : parseL [55, 32, 97, 110, 110, 32, 56, 120, 49, 50, 48, 32, 100, 111, 110, 101] = (zeroCh, 60) := by rfl
theorem k_parse : parseL [55, 32, 97, 110, 110, 32, 56, 120, 49, 50, 48, 32, 100, 111, 110, 101, 32, 53, 48, 48, 48] = (k7, 0) := by
  rw [← k7_line]; exact parse_line k7_ok (by decide) (by decide)
theorem kl_book : bookB kl = true := by decide +kernel
theorem kl_tot : totCh kl ⟨#[97]⟩ = 107 := by decide +kernel
theorem k0_chk : chkCh [zeroCh] = 200 := by decide +kernel
theorem kl_us : usCh kl ⟨#[97]⟩ 20 10 = (28, 0) := by
  unfold usCh
  rw [if_pos kl_book, if_neg]
  · decide +kernel
  · have hl : lastAx kl = 10 := by decide
    rintro (h | h | h | h)
    · rw [hl] at h; omega
    · omega
    · omega
    · exact h (by unfold halfOk; omega)
theorem k7_wf : ChWf k7 := ⟨by decide, by decide, by unfold k7 I64; dsimp only; omega, by unfold k7 I64; dsimp only; omega, by unfold k7 I64; dsimp only; omega, by unfold k7 I64; dsimp only; omega, by decide⟩
theorem zero_wf : ChWf zeroCh := ⟨by decide, by decide, by unfold zeroCh I64; dsimp only; omega, by unfold zeroCh I64; dsimp only; omega, by unfold zeroCh I64; dsimp only; omega, by unfold zeroCh I64; dsimp only; omega, by decide⟩
theorem kl_wf : ∀ c ∈ kl, ChWf c := by
  intro c hc
  unfold kl at hc
  simp only [List.mem_cons, List.not_mem_nil, or_false] at hc
  rcases hc with rfl | rfl
  · exact ⟨by decide, by decide, by unfold I64; dsimp only; omega, by unfold I64; dsimp only; omega, by unfold I64; dsimp only; omega, by unfold I64; dsimp only; omega, by decide⟩
  · exact ⟨by decide, by decide, by unfold I64; dsimp only; omega, by unfold I64; dsimp only; omega, by unfold I64; dsimp only; omega, by unfold I64; dsimp only; omega, by decide⟩
theorem kl_row {w : World} {b : Nat} {t : TypeId} (h : Blk w b #[.int .u32 1, .string ⟨#[97]⟩, .int .i64 1, .int .i64 100, .int .i64 5, .int .i64 0, .int .u32 2, .string ⟨#[97]⟩, .int .i64 7, .int .i64 1, .int .i64 6, .int .i64 10] t) : ChRow w (.slice (some ⟨b, 0, none⟩) 2 2) kl := by
  refine ⟨_, 2, rfl, Nat.le_refl _, by unfold maxLen; omega, fun _ => ⟨b, 0, rfl, h.lt, fun i hi => ?_⟩⟩
  have hi' : i < 2 := hi
  rcases (by omega : i = 0 ∨ i = 1) with rfl | rfl
  · exact ⟨h.cell 0, h.cell 1, h.cell 2, h.cell 3, h.cell 4, h.cell 5⟩
  · exact ⟨h.cell 6, h.cell 7, h.cell 8, h.cell 9, h.cell 10, h.cell 11⟩
theorem zero_row {w : World} {b : Nat} {t : TypeId} (h : Blk w b #[.int .u32 0, .string ⟨#[]⟩, .int .i64 0, .int .i64 0, .int .i64 0, .int .i64 0] t) : ChRow w (.slice (some ⟨b, 0, none⟩) 1 1) [zeroCh] := by
  refine ⟨_, 1, rfl, Nat.le_refl _, by unfold maxLen; omega, fun _ => ⟨b, 0, rfl, h.lt, fun i hi => ?_⟩⟩
  have hi' : i < 1 := hi
  obtain rfl : i = 0 := by omega
  exact ⟨h.cell 0, h.cell 1, h.cell 2, h.cell 3, h.cell 4, h.cell 5⟩
attribute [local go_sem ↓] chg_eql chg_neq chg_grd
set_option maxRecDepth 100000 in
set_option maxHeartbeats 8000000 in
theorem known20_any (w : World) (hE : EnvB w) : Calls Tryd.prog 8 #[] w fun e w' => e = .returned (.bool true) ∧ Below w.heap.size w w' := by
  have P1 : Hid (∀ w', Below w.heap.size w w' → Calls Tryd.prog 10 #[.string ⟨#[55, 32, 97, 110, 110, 32, 56, 120, 49, 50, 48, 32, 100, 111, 110, 101, 32, 53, 48, 48, 48]⟩] w' fun e w'' => e = .returned (.tuple #[chV k7, .int .i64 0]) ∧ Below w'.heap.size w' w'') := fun w' hb => by
    have := parseBk_any ⟨#[55, 32, 97, 110, 110, 32, 56, 120, 49, 50, 48, 32, 100, 111, 110, 101, 32, 53, 48, 48, 48]⟩ w' (by decide) (hE.next hb)
    rwa [k_parse] at this
  have P2 : Hid (∀ w', Below w.heap.size w w' → Calls Tryd.prog 10 #[.string ⟨#[55, 32, 97, 110, 110, 32, 56, 120, 49, 50, 48, 32, 100, 111, 110, 101]⟩] w' fun e w'' => e = .returned (.tuple #[chV zeroCh, .int .i64 60]) ∧ Below w'.heap.size w' w'') := fun w' hb => by
    have := parseBk_any ⟨#[55, 32, 97, 110, 110, 32, 56, 120, 49, 50, 48, 32, 100, 111, 110, 101]⟩ w' (by decide) (hE.next hb)
    rwa [k_bad] at this
  have L1 : Hid (∀ w', Below w.heap.size w w' → Calls Tryd.prog 9 #[chV k7] w' fun e w'' => e = .returned (.tuple #[.string ⟨#[55, 32, 97, 110, 110, 32, 56, 120, 49, 50, 48, 32, 100, 111, 110, 101, 32, 53, 48, 48, 48]⟩, .int .i64 0]) ∧ Below w'.heap.size w' w'') := fun w' hb => by
    have := lineBk_any k7 w' k7_wf (hE.next hb)
    have e : lineR k7 = (⟨#[55, 32, 97, 110, 110, 32, 56, 120, 49, 50, 48, 32, 100, 111, 110, 101, 32, 53, 48, 48, 48]⟩, 0) := by unfold lineR; rw [if_pos k7_ok, k7_line]
    rwa [e] at this
  have U1 : Hid (∀ w' b t, Below w.heap.size w w' → Blk w' b #[.int .u32 1, .string ⟨#[97]⟩, .int .i64 1, .int .i64 100, .int .i64 5, .int .i64 0, .int .u32 2, .string ⟨#[97]⟩, .int .i64 7, .int .i64 1, .int .i64 6, .int .i64 10] t →
      Calls Tryd.prog 18 #[.slice (some ⟨b, 0, none⟩) 2 2, .string ⟨#[97]⟩, .int .i64 20, .int .i64 10] w' fun e w'' => e = .returned (.tuple #[.int .i64 28, .int .i64 0]) ∧ Below w'.heap.size w' w'') := fun w' b t hb h => by
    have := usage_any _ kl ⟨#[97]⟩ 20 10 w' (kl_row h) kl_wf (hE.u8.next hb) (by decide) ⟨by unfold I64; omega, by unfold I64; omega⟩
    rwa [kl_us] at this
  have T1 : Hid (∀ w' b t, Below w.heap.size w w' → Blk w' b #[.int .u32 1, .string ⟨#[97]⟩, .int .i64 1, .int .i64 100, .int .i64 5, .int .i64 0, .int .u32 2, .string ⟨#[97]⟩, .int .i64 7, .int .i64 1, .int .i64 6, .int .i64 10] t →
      Calls Tryd.prog 16 #[.slice (some ⟨b, 0, none⟩) 2 2, .string ⟨#[97]⟩] w' fun e w'' => e = .returned (.int .i64 107) ∧ Below w'.heap.size w' w'') := fun w' b t hb h => by
    have := total_any _ kl ⟨#[97]⟩ w' (kl_row h) kl_wf (hE.u8.next hb) (by decide)
    rwa [kl_tot] at this
  have C1 : Hid (∀ w' b t, Below w.heap.size w w' → Blk w' b #[.int .u32 0, .string ⟨#[]⟩, .int .i64 0, .int .i64 0, .int .i64 0, .int .i64 0] t →
      Calls Tryd.prog 14 #[.slice (some ⟨b, 0, none⟩) 1 1] w' fun e w'' => e = .returned (.int .i64 200) ∧ Below w'.heap.size w' w'') := fun w' b t hb h => by
    have := check_ch _ [zeroCh] w' (zero_row h) (fun c hc => by rw [show c = zeroCh from by simpa using hc]; exact zero_wf) (hE.u8.next hb)
    rwa [k0_chk] at this
  have EQ : ∀ W : World, Sem.run Tryd.prog (binOp .eql 24 (.agg #[.int .u32 7, .string ⟨#[97, 110, 110]⟩, .int .i64 8, .int .i64 120, .int .i64 5, .int .i64 5000]) (.agg #[.int .u32 7, .string ⟨#[97, 110, 110]⟩, .int .i64 8, .int .i64 120, .int .i64 5, .int .i64 5000])) W = .ok (.bool true) W := fun W => by
    have := chg_eql k7 k7 W
    rwa [ceqB_refl] at this
  unfold k7 at P1 L1
  unfold zeroCh at P2
  clear hE
  go_enter Tryd.func8, Tryd.ntmps8
  go_wp2_with fail
  refine (P1.out _ (Below.refl _ _)).mono ?_; rintro e w1 ⟨rfl, b1⟩
  have hA := Lib.hid (Blk.new w1 #[.int .u32 7, .string ⟨#[97, 110, 110]⟩, .int .i64 8, .int .i64 120, .int .i64 5, .int .i64 5000] 24)
  have B1 := Lib.hid (b1.alloc b1.size (.cells #[.int .u32 7, .string ⟨#[97, 110, 110]⟩, .int .i64 8, .int .i64 120, .int .i64 5, .int .i64 5000] 24))
  obtain ⟨g1, hg1⟩ : ∃ g, g = w1.heap.size := ⟨_, rfl⟩
  rw [← hg1] at hA
  clear b1 P1
  go_upto_region 2 with fail
  rw [← hg1]
  generalize w1.alloc (.cells #[.int .u32 7, .string ⟨#[97, 110, 110]⟩, .int .i64 8, .int .i64 120, .int .i64 5, .int .i64 5000] 24) = W1 at *
  clear hg1
  obtain ⟨c0, c1, c2, c3, c4, c5⟩ := ch0 (c := k7) hA.out
  unfold k7 at c0 c1 c2 c3 c4 c5
  dsimp only at c0 c1 c2 c3 c4 c5
  go_wp2_with fail
  refine (L1.out _ B1.out).mono ?_; rintro e w2 ⟨rfl, b2⟩
  have hA2 := Lib.hid (hA.out.kept b2)
  have B2 := Lib.hid (below_next b2 B1.out)
  clear b2 hA B1 L1 c0 c1 c2 c3 c4 c5
  go_wp2_with fail
  have hL := Lib.hid (Blk.new w2 #[.int .u32 1, .string ⟨#[97]⟩, .int .i64 1, .int .i64 100, .int .i64 5, .int .i64 0, .int .u32 2, .string ⟨#[97]⟩, .int .i64 7, .int .i64 1, .int .i64 6, .int .i64 10] 24)
  have hA3 := Lib.hid (hA2.out.old (.cells #[.int .u32 1, .string ⟨#[97]⟩, .int .i64 1, .int .i64 100, .int .i64 5, .int .i64 0, .int .u32 2, .string ⟨#[97]⟩, .int .i64 7, .int .i64 1, .int .i64 6, .int .i64 10] 24))
  have B3 := Lib.hid (B2.out.alloc B2.out.size (.cells #[.int .u32 1, .string ⟨#[97]⟩, .int .i64 1, .int .i64 100, .int .i64 5, .int .i64 0, .int .u32 2, .string ⟨#[97]⟩, .int .i64 7, .int .i64 1, .int .i64 6, .int .i64 10] 24))
  obtain ⟨g2, hg2⟩ : ∃ g, g = w2.heap.size := ⟨_, rfl⟩
  rw [← hg2] at hL ⊢
  generalize w2.alloc (.cells #[.int .u32 1, .string ⟨#[97]⟩, .int .i64 1, .int .i64 100, .int .i64 5, .int .i64 0, .int .u32 2, .string ⟨#[97]⟩, .int .i64 7, .int .i64 1, .int .i64 6, .int .i64 10] 24) = W2 at *
  clear hg2 hA2 B2
  refine (U1.out _ _ _ B3.out hL.out).mono ?_; rintro e w3 ⟨rfl, b3⟩
  have hL2 := Lib.hid (hL.out.kept b3)
  have hA4 := Lib.hid (hA3.out.kept b3)
  have B4 := Lib.hid (below_next b3 B3.out)
  clear b3 hL hA3 B3 U1
  go_wp2_with fail
  refine (P2.out _ B4.out).mono ?_; rintro e w4 ⟨rfl, b4⟩
  have hL3 := Lib.hid (hL2.out.kept b4)
  have hA5 := Lib.hid (hA4.out.kept b4)
  have B5 := Lib.hid (below_next b4 B4.out)
  have hL4 := Lib.hid (hL3.out.old (.cells #[.int .u32 0, .string ⟨#[]⟩, .int .i64 0, .int .i64 0, .int .i64 0, .int .i64 0] 24))
  have hA6 := Lib.hid (hA5.out.old (.cells #[.int .u32 0, .string ⟨#[]⟩, .int .i64 0, .int .i64 0, .int .i64 0, .int .i64 0] 24))
  have B6 := Lib.hid (B5.out.alloc B5.out.size (.cells #[.int .u32 0, .string ⟨#[]⟩, .int .i64 0, .int .i64 0, .int .i64 0, .int .i64 0] 24))
  obtain ⟨g3, hg3⟩ : ∃ g, g = w4.heap.size := ⟨_, rfl⟩
  clear b4 hL2 hA4 B4 P2 hL3 hA5 B5
  go_upto_region 6 with fail
  rw [← hg3]
  generalize w4.alloc (.cells #[.int .u32 0, .string ⟨#[]⟩, .int .i64 0, .int .i64 0, .int .i64 0, .int .i64 0] 24) = W4 at *
  clear hg3
  obtain ⟨c0, c1, c2, c3, c4, c5⟩ := ch0 (c := k7) hA6.out
  unfold k7 at c0 c1 c2 c3 c4 c5
  dsimp only at c0 c1 c2 c3 c4 c5
  have e9 : ((⟨#[55, 32, 97, 110, 110, 32, 56, 120, 49, 50, 48, 32, 100, 111, 110, 101, 32, 53, 48, 48, 48]⟩ : ByteArray).toList == (⟨#[55, 32, 97, 110, 110, 32, 56, 120, 49, 50, 48, 32, 100, 111, 110, 101, 32, 53, 48, 48, 48]⟩ : ByteArray).toList) = true := by simp
  go_wp2_with fail
  refine (T1.out _ _ _ B6.out hL4.out).mono ?_; rintro e w5 ⟨rfl, b5⟩
  have B7 := Lib.hid (below_next b5 B6.out)
  clear b5 hL4 hA6 B6 T1 c0 c1 c2 c3 c4 c5 e9 EQ
  go_wp2_with fail
  have hZ := Lib.hid (Blk.new w5 #[.int .u32 0, .string ⟨#[]⟩, .int .i64 0, .int .i64 0, .int .i64 0, .int .i64 0] 24)
  have B8 := Lib.hid (B7.out.alloc B7.out.size (.cells #[.int .u32 0, .string ⟨#[]⟩, .int .i64 0, .int .i64 0, .int .i64 0, .int .i64 0] 24))
  refine (C1.out _ _ _ B8.out hZ.out).mono ?_; rintro e w6 ⟨rfl, b6⟩
  have B9 := Lib.hid (below_next b6 B8.out)
  clear b6 B8 hZ B7 C1
  go_wp2_with fail
  go_ret
  exact ⟨rfl, B9.out⟩
/-! More than is looked at. -/
def manyN (cs : List Chg) (acct : ByteArray) : Bool := (decide (300 < cs.length) && decide (cs.length ≤ 2000)) || decide (3000 < cs.length) || decide (300 < acct.size) || cs.any fun c => decide (300 < c.acct.size)
def longF : List Chg → Bool
  | [] => false
  | c :: r => decide (300 < c.acct.size) || longF r
theorem longF_any : ∀ cs : List Chg, longF cs = cs.any fun c => decide (300 < c.acct.size)
  | [] => rfl
  | c :: r => by rw [longF, List.any_cons, longF_any r]
set_option maxRecDepth 100000 in
set_option maxHeartbeats 4000000 in
theorem many20_any (v : Value) (cs : List Chg) (acct : ByteArray) (w : World) (hr : ChRow w v cs) :
    Calls Tryd.prog 11 #[v, .string acct] w fun e w' => e = .returned (.bool (manyN cs acct)) ∧ w' = w := by
  obtain ⟨A, c, rfl, hcl, hcm, hrow⟩ := hr
  have hn63 : cs.length ≤ 9223372036854775807 := by unfold maxLen at hcm; omega
  have t1 : decide ((cs.length : Int) > 300) = decide (300 < cs.length) := decide_eq_decide.2 (by omega)
  have t2 : decide ((cs.length : Int) ≤ 2000) = decide (cs.length ≤ 2000) := decide_eq_decide.2 (by omega)
  have t3 : decide ((cs.length : Int) > 3000) = decide (3000 < cs.length) := decide_eq_decide.2 (by omega)
  have t4 : decide ((acct.size : Int) > 300) = decide (300 < acct.size) := decide_eq_decide.2 (by omega)
  have hM : Hid (manyN cs acct = ((decide (300 < cs.length) && decide (cs.length ≤ 2000)) || decide (3000 < cs.length) || decide (300 < acct.size) || longF cs)) := by unfold Hid manyN; rw [longF_any]
  have HROW := Lib.hid hrow
  generalize manyN cs acct = M at *
  clear hrow
  by_cases hb : ((decide (300 < cs.length) && decide (cs.length ≤ 2000)) || decide (3000 < cs.length) || decide (300 < acct.size)) = true
  · have hr : Hid (M = true) := by unfold Hid; rw [hM.out, hb, Bool.true_or]
    have hx : Hid _ := hb
    generalize decide (300 < cs.length) = q1 at *
    generalize decide (cs.length ≤ 2000) = q2 at *
    generalize decide (3000 < cs.length) = q3 at *
    generalize decide (300 < acct.size) = q4 at *
    clear hM hb HROW
    cases q1 <;> cases q2 <;> cases q3 <;> cases q4 <;> first
      | (exfalso; have := hx.out; simp at this; done)
      | (clear hx
         go_enter Tryd.func11, Tryd.ntmps11
         go_wp2_with fail
         go_ret
         exact ⟨ret_bl hr.out.symm, rfl⟩)
  · have hb' : ((decide (300 < cs.length) && decide (cs.length ≤ 2000)) || decide (3000 < cs.length) || decide (300 < acct.size)) = false := by simpa using hb
    have hr : Hid (M = longF cs) := by unfold Hid; rw [hM.out, hb', Bool.false_or]
    have h1 : ¬ (300 < cs.length ∧ cs.length ≤ 2000) ∧ ¬ 3000 < cs.length ∧ ¬ 300 < acct.size := by
      refine ⟨fun h => hb ?_, fun h => hb ?_, fun h => hb ?_⟩ <;> simp [h]
    have hlen : cs.length ≤ 3000 := by omega
    have hfalse := hb'
    have hx : Hid _ := hb'
    obtain ⟨n, hn⟩ : ∃ n, n = cs.length := ⟨_, rfl⟩
    have q3 : decide (3000 < cs.length) = false := decide_eq_false (by omega)
    have q4 : decide (300 < acct.size) = false := decide_eq_false (by omega)
    rw [q3] at t3
    rw [q4] at t4
    have q12 : (decide (300 < cs.length) && decide (cs.length ≤ 2000)) = false := by
      cases q : (decide (300 < cs.length) && decide (cs.length ≤ 2000))
      · rfl
      · rw [q] at hb'; simp at hb'
    clear hM hb hb' hfalse hx h1 hn
    go_enter Tryd.func11, Tryd.ntmps11
    go_upto_region 1 with fail
    go_cut [23] (fun b wx => b = .bool false ∧ wx = w)
    case first =>
      clear HROW hr
      by_cases h3 : 300 < cs.length
      · have p1 : decide (300 < cs.length) = true := decide_eq_true h3
        have p2 : decide (cs.length ≤ 2000) = false := by rw [p1] at q12; simpa using q12
        rw [p1] at t1
        rw [p2] at t2
        go_wp2_with fail
        go_meet
        case rel => exact ⟨rfl, rfl⟩
      · have p1 : decide (300 < cs.length) = false := decide_eq_false h3
        rw [p1] at t1
        go_wp2_with fail
        go_meet
        case rel => exact ⟨rfl, rfl⟩
    case rest =>
      obtain ⟨rfl, rfl⟩ := hcut
      clear t1 t2 t3 t4 q3 q4 q12
      go_wp2_with fail
      go_loop [5] (fun i => ∃ k : Nat, k ≤ cs.length ∧ i = .int .i64 k ∧ Hid (M = longF (cs.drop k))) (fun i => cs.length - (RowKit.intOf i).toNat)
      case atStart => exact ⟨0, Nat.zero_le _, rfl, hr.out⟩
      case round =>
        obtain ⟨k, hk, rfl, hst⟩ := hrel
        by_cases hlt : k < cs.length
        · have hlt' : decide (k < cs.length) = true := decide_eq_true hlt
          have hlt2 : decide ((k : Int) < cs.length) = true := decide_eq_true (by omega)
          have hkl : (k : Int) < cs.length := by omega
          obtain ⟨b, off, rfl, hbw, hc⟩ := HROW.out (by omega)
          have c1 := (hc k hlt).c1
          have hst' := hst.out
          rw [drop_ch hlt, longF] at hst'
          clear hc hst HROW
          generalize (chAt cs k).acct = ac at *
          by_cases q : 300 < ac.size
          · have p1 : decide (300 < ac.size) = true := decide_eq_true q
            have p2 : decide ((ac.size : Int) > 300) = true := decide_eq_true (by omega)
            have hr2 : Hid (M = true) := by unfold Hid; rw [hst', p1, Bool.true_or]
            clear hst'
            go_wp2_with fail
            go_ret
            exact ⟨ret_bl hr2.out.symm, rfl⟩
          · have p1 : decide (300 < ac.size) = false := decide_eq_false q
            have p2 : decide ((ac.size : Int) > 300) = false := decide_eq_false (by omega)
            have hr2 : Hid (M = longF (cs.drop (k + 1))) := by unfold Hid; rw [hst', p1, Bool.false_or]
            clear hst'
            go_wp2_with fail
            go_round
            case rel => exact ⟨k + 1, hlt, by go_num, hr2⟩
            case measure => simp [RowKit.intOf]; omega
        · obtain rfl : k = cs.length := by omega
          have hlt' : decide (cs.length < cs.length) = false := decide_eq_false hlt
          have hlt2 : decide ((cs.length : Int) < cs.length) = false := decide_eq_false (by omega)
          have hr2 : Hid (M = false) := by unfold Hid; rw [hst.out, List.drop_length]; rfl
          clear HROW hst
          go_wp2_with fail
          go_ret
          exact ⟨ret_bl hr2.out.symm, rfl⟩
end Go.Proofs.YtlafjjdponeeeaaDoor
