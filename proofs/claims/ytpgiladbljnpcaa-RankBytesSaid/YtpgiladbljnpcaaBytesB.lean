/-
  rank.Bytes and gangerref03.Bytes at any key: the same twenty bytes.
-/
import Derived.Test.YtpgiladbljnpcaaBytes
import Derived.Test.YtpgiladbljnpcaaKeyB
namespace Go.Proofs.Ytpgiladbljnpcaa
open Go.ChangeShapes Go.WideShapes Go.ChangeAt Go.RowKit Go.Lib Go.Sort Go.Maps
set_option linter.unusedVariables false

def high (p : Int) : Nat := (9223372036854775807 - p).toNat
def low (t : Int) : Nat := (9223372036854775808 + t).toNat
def bytesK (p t : Int) (i : Nat) : List Int := bigL (high p) 8 ++ bigL (low t) 8 ++ bigL i 4

set_option maxRecDepth 100000 in
set_option maxHeartbeats 1000000 in
theorem bytes_any (p t : Int) (i : Nat) (w : World) (hp : -9223372036854775808 ≤ p ∧ p ≤ 9223372036854775807) (ht : -9223372036854775808 ≤ t ∧ t ≤ 9223372036854775807) (hi : i ≤ 4294967295) :
    Calls Try.prog 26 #[keyV (p, t, (i : Int))] w
      fun e w' => ∃ v', e = .returned v' ∧ w'.ownsRow w.heap.size 5 1 v' 20 (cellsB (bytesK p t i)) ∧ Below w.heap.size w w' := by
  obtain ⟨i0, hi0, hz0, hz1, hz2⟩ := info_parts Try.infoByte
  have hm1 : IntKind.u64.wrap (9223372036854775807 - IntKind.u64.wrap p) = (high p : Int) := by rw [IntKind.wrap_u64, IntKind.wrap_u64]; unfold high; omega
  have hm2 : IntKind.u64.wrap (9223372036854775808 + IntKind.u64.wrap t) = (low t : Int) := by rw [IntKind.wrap_u64, IntKind.wrap_u64]; unfold low; omega
  have b1 : high p ≤ 18446744073709551615 := by unfold high; omega
  have b2 : low t ≤ 18446744073709551615 := by unfold low; omega
  have HE : Hid (bytesK p t i = bigL (high p) 8 ++ bigL (low t) 8 ++ bigL i 4) := rfl
  generalize bytesK p t i = r at HE ⊢
  have H1 : Hid (high p ≤ 18446744073709551615) := b1
  have H2 : Hid (low t ≤ 18446744073709551615) := b2
  generalize high p = x at *
  generalize low t = y at *
  unfold keyV
  clear b1 b2
  have hs1 : (w.alloc (.cells #[.int .i64 p, .int .i64 t, .int .u32 i] 24)).heap.size = w.heap.size + 1 := by simp
  have HM := run_make (P := Try.prog) (w.alloc (.cells #[.int .i64 p, .int .i64 t, .int .u32 i] 24)) 48 5 i0 _ rfl hi0 hz0 .i64 .i64 0 20 (by decide) (by decide) (by rw [hz2]; decide) (by decide)
  rw [hz1, show Int.toNat 20 * 1 = 20 * 1 from rfl] at HM
  have HO : Hid (((w.alloc (.cells #[.int .i64 p, .int .i64 t, .int .u32 i] 24)).alloc (.cells (madeCells (Value.int .u8 0).cells (20 * 1)) 5)).ownsRow (w.heap.size + 1) 5 1 (.slice (some ⟨w.heap.size + 1, 0, none⟩) 0 20) 0 (cellsB [])) := by
    have := World.ownsRow_made (base := w.heap.size + 1) (e := 5) (size := 1) (w.alloc (.cells #[.int .i64 p, .int .i64 t, .int .u32 i] 24)) (madeCells (Value.int .u8 0).cells (20 * 1)) 20 (by simp) (by decide) (size_madeCells _ _)
    rw [hs1] at this
    exact this
  clear hs1
  go_enter Try.func26, Try.ntmps26
  go_wp2_with fail

  refine (appendBig_any (w.heap.size + 1) _ 0 [] x 8 _ (by simp) (by decide) (by decide) H1.out HO.out).mono ?_; rintro e w1 ⟨v1, rfl, o1, b1⟩
  have B1 := Lib.hid ((((Blk.new w #[.int .i64 p, .int .i64 t, .int .u32 i] 24).old (.cells (madeCells (Value.int .u8 0).cells (20 * 1)) 5))).below b1 (Nat.lt_succ_self _))
  have G1 := Lib.hid b1
  have O1 := Lib.hid o1
  clear o1 b1
  have c1 := B1.out.cell 1; simp at c1
  go_wp2_with fail
  refine (appendBig_any (w.heap.size + 1) _ _ _ y 8 _ (by have := B1.out.lt; omega) (by decide) (by decide) H2.out O1.out).mono ?_; rintro e w2 ⟨v2, rfl, o2, b2⟩
  clear c1
  have B2 := Lib.hid (B1.out.below b2 (Nat.lt_succ_self _))
  have G2 := Lib.hid (G1.out.trans b2)
  have O2 := Lib.hid o2
  clear o2 b2
  have c2 := B2.out.cell 2; simp at c2
  go_wp2_with fail
  refine (appendBig_any (w.heap.size + 1) _ _ _ i 4 _ (by have := B2.out.lt; omega) (by decide) (by decide) (by omega) O2.out).mono ?_; rintro e w3 ⟨v3, rfl, o3, b3⟩
  clear c2
  have G3 := Lib.hid (G2.out.trans b3)
  have O3 := Lib.hid o3
  clear o3 b3
  go_wp2_with fail
  go_ret
  refine ⟨_, rfl, ?_, ?_⟩
  · rw [HE.out]
    have := owns_mono O3.out (Nat.le_succ w.heap.size)
    simpa using this
  · exact (((Below.refl w.heap.size w).alloc (Nat.le_refl _) _).alloc (by simp) _).trans (G3.out.mono (Nat.le_succ _))

theorem bigL_drop (n : Int) : (bigL n 8).drop 4 = bigL n 4 := rfl
theorem owns_blk {w : World} {b base n : Nat} {l : List Int} {t : TypeId} (h : Blk w b (cellsB l).toArray t) (hl : l.length = n) (hb : base ≤ b) (hm : n ≤ 100) :
    w.ownsRow base t 1 (.slice (some ⟨b, 0, none⟩) n n) n (cellsB l) := by
  have e : (cellsB l).length = n := by simp [cellsB, hl]
  refine ⟨by rw [e, Nat.mul_one], .inr ⟨b, n, _, rfl, hb, h, Nat.le_refl _, by unfold maxLen; omega, by simp [e], ?_⟩⟩
  rw [Nat.mul_one]
  exact List.take_of_length_le (by simp [e])
theorem cellsB_app (a b : List Int) : cellsB (a ++ b) = cellsB a ++ cellsB b := by simp [cellsB]
theorem cellsB_one (l : List Int) : ∀ u ∈ cellsB l, u.oneCell' = true := by
  intro u hu
  obtain ⟨b, _, rfl⟩ := List.mem_map.1 hu
  rfl

set_option maxRecDepth 100000 in
set_option maxHeartbeats 1000000 in
theorem refBytes_any (p t : Int) (i : Nat) (w : World) (hp : -9223372036854775808 ≤ p ∧ p ≤ 9223372036854775807) (ht : -9223372036854775808 ≤ t ∧ t ≤ 9223372036854775807) (hi : i ≤ 4294967295) :
    Calls Try.prog 28 #[keyV (p, t, (i : Int))] w
      fun e w' => ∃ v', e = .returned v' ∧ w'.ownsRow w.heap.size 5 1 v' 20 (cellsB (bytesK p t i)) ∧ Below w.heap.size w w' := by
  obtain ⟨i0, hi0, hz0, hz1, hz2⟩ := info_parts Try.infoByte
  have hm1 : IntKind.u64.wrap (9223372036854775807 - IntKind.u64.wrap p) = (high p : Int) := by rw [IntKind.wrap_u64, IntKind.wrap_u64]; unfold high; omega
  have hm2 : IntKind.u64.wrap (9223372036854775808 + IntKind.u64.wrap t) = (low t : Int) := by rw [IntKind.wrap_u64, IntKind.wrap_u64]; unfold low; omega
  have b1 : high p ≤ 18446744073709551615 := by unfold high; omega
  have b2 : low t ≤ 18446744073709551615 := by unfold low; omega
  have HE : Hid (bytesK p t i = bigL (high p) 8 ++ bigL (low t) 8 ++ bigL i 4) := rfl
  generalize bytesK p t i = r at HE ⊢
  have H1 : Hid (high p ≤ 18446744073709551615) := b1
  have H2 : Hid (low t ≤ 18446744073709551615) := b2
  generalize high p = x at *
  generalize low t = y at *
  unfold keyV
  clear b1 b2
  go_enter Try.func28, Try.ntmps28
  go_wp2_with fail
  refine (digits_any x _ H1.out).mono ?_; rintro e w1 ⟨b1, rfl, g1, k1, l1⟩
  have B1 := Lib.hid (((Blk.new w #[.int .i64 p, .int .i64 t, .int .u32 i] 24)).kept l1)
  have G1 := Lib.hid (below_next l1 ((Below.refl w.heap.size w).alloc (Nat.le_refl _) _))
  have O1 := Lib.hid (owns_blk k1 (bigL_len _ _) (show w.heap.size + 1 ≤ b1 by simpa using g1) (by decide))
  clear k1 l1
  have c1 := B1.out.cell 1; simp at c1
  go_wp2_with fail
  refine (digits_any y _ H2.out).mono ?_; rintro e w2 ⟨b2, rfl, g2, k2, l2⟩
  clear c1
  have B2 := Lib.hid (B1.out.kept l2)
  have G2 := Lib.hid (below_next l2 G1.out)
  have O2 := Lib.hid (owns_below O1.out l2)
  have K2 := Lib.hid k2
  clear k2 l2
  clear g1 g2
  go_wp2_with (at_builtin; refine wpList_append_own _ rfl _ _ 48 rfl (w.heap.size + 1) 5 i0 _ 1 1 Try.underlying48 hi0 hz0 hz1 hz2 rfl (by decide) _ 8 _ rfl O2.out ⟨b2, 0, none⟩ 8 8 (cellsB (bigL y 8)) rfl rfl (news_blk K2.out) (cellsB_one _) (by unfold maxLen; omega) (by omega) (by have := B2.out.lt; omega) ?_; intro v3 w3 own3 grow3 _; have Q3 := Lib.hid ((Below.refl (w.heap.size + 1) _).grown grow3 (by have := B2.out.lt; omega) (fun j hj => (O2.out.lt j hj).1)); have B3 := Lib.hid (B2.out.below Q3.out (Nat.lt_succ_self _)); have c3 := B3.out.cell 2; simp at c3; have O3 := Lib.hid own3; clear own3 grow3)
  refine (digits_any i _ (by omega)).mono ?_; rintro e w4 ⟨b4, rfl, g4, k4, l4⟩
  clear c3
  have B4 := Lib.hid (B3.out.kept l4)
  have O4 := Lib.hid (owns_below O3.out l4)
  have K4 := Lib.hid k4
  have L4 := Lib.hid l4
  clear k4 l4 g4
  have HN : Hid (∀ j u, (cellsB (bigL i 4))[j]? = some u → w4.cell? ((⟨b4, 4, none⟩ : Addr).add j) = some u) := by
    intro j u hj
    rw [Addr.add_lit, K4.out.cell]
    have hj' := hj
    rw [← bigL_drop] at hj'
    simpa [cellsB] using hj'
  go_wp2_with (at_builtin; refine wpList_append_own _ rfl _ _ 48 rfl (w.heap.size + 1) 5 i0 _ 1 1 Try.underlying48 hi0 hz0 hz1 hz2 rfl (by decide) _ 16 _ rfl O4.out ⟨b4, 4, none⟩ 4 4 (cellsB (bigL i 4)) rfl rfl HN.out (cellsB_one _) (by unfold maxLen; omega) (by omega) (by have := B4.out.lt; omega) ?_; intro v5 w5 own5 grow5 _; have Q5 := Lib.hid ((Below.refl (w.heap.size + 1) _).grown grow5 (by have := B4.out.lt; omega) (fun j hj => (O4.out.lt j hj).1)); have O5 := Lib.hid own5; clear own5 grow5)
  go_ret
  refine ⟨_, rfl, ?_, ?_⟩
  · rw [HE.out, cellsB_app, cellsB_app]
    exact owns_mono O5.out (Nat.le_succ w.heap.size)
  · exact ((G2.out.trans (Q3.out.mono (Nat.le_succ _))).trans (L4.out.mono (by have := B3.out.lt; omega))).trans (Q5.out.mono (Nat.le_succ _))
end Go.Proofs.Ytpgiladbljnpcaa
