/-
  gang's columns in any block: isFree, add, remove.
-/
import Derived.Test.YtfobapnncjjeiaaGaS
import Derived.Deep.AppendLies
import Derived.Handy
namespace Go.Proofs.Ytfobapnncjjeiaa
open Go Go.RowKit Go.Lib
set_option linter.unusedVariables false

/-- Sixteen words in a block, from a place on. -/
structure ColB (w : World) (b off : Nat) (T : TypeId) (cs : Array Value) (W : Nat → Nat) : Prop where
  blk : Blk w b cs T
  at_ : ∀ j, j < 16 → cs[off + j]? = some (.int .u64 ((W j : Nat) : Int))
theorem ColB.kept {w w' : World} {b off : Nat} {T : TypeId} {cs : Array Value} {W : Nat → Nat} (h : ColB w b off T cs W) (hb : Below w.heap.size w w') : ColB w' b off T cs W := ⟨h.blk.kept hb, h.at_⟩
theorem ColB.cell {w : World} {b off : Nat} {T : TypeId} {cs : Array Value} {W : Nat → Nat} (h : ColB w b off T cs W) {j : Nat} (hj : j < 16) : w.cell? ⟨b, off + j, none⟩ = some (.int .u64 ((W j : Nat) : Int)) := by
  rw [h.blk.cell]; exact h.at_ j hj
theorem ColB.set {w : World} {b off : Nat} {T : TypeId} {cs : Array Value} {W W' : Nat → Nat} (h : ColB w b off T cs W) {j : Nat} (hj : j < 16) (x : Nat) (e1 : W' j = x) (e2 : ∀ i, i < 16 → i ≠ j → W' i = W i) :
    ColB (w.setCell ⟨b, off + j, none⟩ (.int .u64 (x : Int))) b off T (cs.setIfInBounds (off + j) (.int .u64 (x : Int))) W' := by
  refine ⟨h.blk.set _ _, fun i hi => ?_⟩
  have hsz : ∀ k, k < 16 → off + k < cs.size := fun k hk => by
    have := h.at_ k hk
    exact (Array.getElem?_eq_some_iff.1 this).1
  by_cases e : i = j
  · subst e
    rw [Array.getElem?_setIfInBounds_self_of_lt (hsz i hi), e1]
  · rw [Array.getElem?_setIfInBounds_ne (by omega), e2 i hi e]; exact h.at_ i hi

set_option maxRecDepth 100000 in
set_option maxHeartbeats 4000000 in
theorem isFree_any (b off s o : Nat) (T : TypeId) (cs : Array Value) (W : Nat → Nat) (w : World) (hc : ColB w b off T cs W) (ho : o ≤ 10) (hs : s % 2 ^ o = 0) (hb : s + 2 ^ o ≤ 1024) (hlt : ∀ j, j < 16 → W j < 2 ^ 64) :
    Calls Try.prog 36 #[.pointer (some ⟨b, off, none⟩), .agg #[.int .i64 (s : Nat), .int .i64 (o : Nat)]] w fun e w' => ∃ f : Bool, e = .returned (.bool f) ∧ (f = true ↔ ∀ j, spanF s ≤ j → j < spanE s o → W j &&& spanM s o = 0) ∧ Below w.heap.size w w' := by
  have SP := Lib.hid (fun w1 => span_any s o w1 ho hs hb)
  have hE := spanE_le (n := 10) (by omega) ho hb
  have hM := spanM_lt hs
  obtain ⟨F, hF⟩ : ∃ F, F = spanF s := ⟨_, rfl⟩
  obtain ⟨E, hE'⟩ : ∃ E, E = spanE s o := ⟨_, rfl⟩
  obtain ⟨M, hM'⟩ : ∃ M, M = spanM s o := ⟨_, rfl⟩
  rw [← hF, ← hE', ← hM'] at SP ⊢
  rw [← hF, ← hE'] at hE
  rw [← hM'] at hM
  obtain ⟨hFE, hE16⟩ := hE
  have HC := Lib.hid hc
  have HLT := Lib.hid hlt
  have HM := Lib.hid hM
  clear hF hE' hM' hc hlt hM hs hb
  obtain ⟨X, hX⟩ : ∃ X, X = w.alloc (.cells #[.int .i64 (s : Nat), .int .i64 (o : Nat)] 46) := ⟨_, rfl⟩
  obtain ⟨gB, hgB⟩ : ∃ g, g = w.heap.size := ⟨_, rfl⟩
  have HBX : Hid (Below w.heap.size w X) := by unfold Hid; rw [hX]; exact (Below.refl _ _).alloc (Nat.le_refl _) _
  have HB : Hid (Blk X gB #[.int .i64 (s : Nat), .int .i64 (o : Nat)] 46) := by unfold Hid; rw [hX, hgB]; exact Blk.new w _ _
  have t0 := HB.out.cell 0
  have t1 := HB.out.cell 1
  simp at t0 t1
  have k1 : (F : Int) ≤ (E : Int) := by omega
  have k2 : (E : Int) ≤ 16 := by omega
  obtain ⟨L, hL⟩ : ∃ L, L = E - F := ⟨_, rfl⟩
  have hLi : (E : Int) - (F : Int) = (L : Int) := by omega
  go_enter Try.func36, Try.ntmps36
  go_upto_region 1 with fail
  rw [← hgB, ← hX]
  clear hgB hX
  go_wp2_with fail
  refine (SP.out _).mono ?_; rintro e w1 ⟨rfl, b1⟩
  have HB1 := Lib.hid (below_next b1 HBX.out)
  clear b1 t0 t1 SP HB HBX
  dsimp only
  go_wp2_with fail
  go_loopw [22] (fun iv wr => ∃ k : Nat, k ≤ E - F ∧ iv = .int .i64 k ∧ Hid (∀ j, F ≤ j → j < F + k → W j &&& M = 0) ∧ Hid (Below w.heap.size w wr)) (fun iv _ => E - F - (RowKit.intOf iv).toNat)
  case atStart => exact ⟨0, Nat.zero_le _, rfl, fun j h1 h2 => by omega, HB1⟩
  case round =>
    obtain ⟨k, hk, rfl, HZ, HBr⟩ := hrel
    by_cases hlt : k < E - F
    · have hd : decide (k < E - F) = true := decide_eq_true hlt
      have c0 := (HC.out.kept HBr.out).cell (j := F + k) (by omega)
      rw [← Nat.add_assoc] at c0
      have hand := u64_and (W (F + k)) M (HLT.out _ (by omega)) HM.out
      obtain ⟨Z, hZ⟩ : ∃ Z, Z = W (F + k) &&& M := ⟨_, rfl⟩
      rw [← hZ] at hand
      have HZZ := Lib.hid hZ
      obtain ⟨x, hx⟩ : ∃ x, x = W (F + k) := ⟨_, rfl⟩
      rw [← hx] at c0 hand
      clear hZ hx
      by_cases h0 : Z = 0
      · have q1 : ((Z : Int) != 0) = false := by simp; omega
        have q2 : (Z != 0) = false := by simp; omega
        have HN : Hid (∀ j, F ≤ j → j < F + (k + 1) → W j &&& M = 0) := fun j h1 h2 => by
          rcases Nat.lt_or_ge j (F + k) with h3 | h3
          · exact HZ.out j h1 h3
          · obtain rfl : j = F + k := by omega
            rw [← HZZ.out]; exact h0
        have H0 := Lib.hid h0
        clear h0
        go_wp2_with fail
        go_roundw
        case rel => exact ⟨k + 1, hlt, by go_num, HN, HBr⟩
        case measure => simp [RowKit.intOf]; omega
      · have q1 : ((Z : Int) != 0) = true := by simp; omega
        have q2 : (Z != 0) = true := by simp; omega
        have HN : Hid (¬ ∀ j, F ≤ j → j < E → W j &&& M = 0) := fun h => h0 (by rw [HZZ.out]; exact h (F + k) (by omega) (by omega))
        clear h0
        go_wp2_with fail
        go_ret
        exact ⟨false, rfl, by (constructor; (intro h; cases h); (intro h; exact absurd h HN.out)), HBr.out⟩
    · have hd : decide (k < E - F) = false := decide_eq_false hlt
      have HN : Hid (∀ j, F ≤ j → j < E → W j &&& M = 0) := fun j h1 h2 => HZ.out j h1 (by omega)
      go_wp2_with fail
      go_ret
      exact ⟨true, rfl, by (constructor; (intro _; exact HN.out); (intro _; rfl)), HBr.out⟩

def orV (W : Nat → Nat) (F M k : Nat) : Nat → Nat := fun j => if F ≤ j ∧ j < k then W j ||| M else W j
set_option maxRecDepth 100000 in
set_option maxHeartbeats 4000000 in
theorem add_core (b off s o F E M : Nat) (T : TypeId) (cs : Array Value) (W : Nat → Nat) (w : World) (hc : ColB w b off T cs W) (hFE : F < E) (hE16 : E ≤ 16) (hM : M < 2 ^ 64) (hlt : ∀ j, j < 16 → W j < 2 ^ 64)
    (hsp : ∀ w1, Calls Try.prog 48 #[.agg #[.int .i64 (s : Nat), .int .i64 (o : Nat)]] w1 fun e w' => e = .returned (.tuple #[.int .i64 (F : Nat), .int .i64 (E : Nat), .int .u64 (M : Nat)]) ∧ Below w1.heap.size w1 w') :
    Calls Try.prog 37 #[.pointer (some ⟨b, off, none⟩), .agg #[.int .i64 (s : Nat), .int .i64 (o : Nat)]] w fun e w' => e = .returned (.tuple #[]) ∧ ∃ cs', ColB w' b off T cs' (orV W F M E) ∧ cs'.size = cs.size ∧ (∀ i, (i < off ∨ off + 16 ≤ i) → cs'[i]? = cs[i]?) ∧ Chg (One b) w w' := by
  have SP := Lib.hid hsp
  have HC := Lib.hid hc
  have HLT := Lib.hid hlt
  have HM := Lib.hid hM
  have HBL := Lib.hid hc.blk.lt
  clear hsp hc hlt hM
  obtain ⟨X, hX⟩ : ∃ X, X = w.alloc (.cells #[.int .i64 (s : Nat), .int .i64 (o : Nat)] 46) := ⟨_, rfl⟩
  obtain ⟨gB, hgB⟩ : ∃ g, g = w.heap.size := ⟨_, rfl⟩
  have HBX : Hid (Below w.heap.size w X) := by unfold Hid; rw [hX]; exact (Below.refl _ _).alloc (Nat.le_refl _) _
  have HB : Hid (Blk X gB #[.int .i64 (s : Nat), .int .i64 (o : Nat)] 46) := by unfold Hid; rw [hX, hgB]; exact Blk.new w _ _
  have t0 := HB.out.cell 0
  have t1 := HB.out.cell 1
  simp at t0 t1
  go_enter Try.func37, Try.ntmps37
  go_upto_region 1 with fail
  rw [← hgB, ← hX]
  clear hgB hX
  go_wp2_with fail
  refine (SP.out _).mono ?_; rintro e w1 ⟨rfl, b1⟩
  have HB1 := Lib.hid (below_next b1 HBX.out)
  clear b1 t0 t1 SP HB HBX
  dsimp only
  go_wp2_with fail
  go_loopw [7] (fun iv wr => ∃ k : Nat, F ≤ k ∧ k ≤ E ∧ iv = .int .i64 k ∧ Hid (∃ cs', ColB wr b off T cs' (orV W F M k) ∧ cs'.size = cs.size ∧ (∀ i, (i < off ∨ off + 16 ≤ i) → cs'[i]? = cs[i]?) ∧ Chg (One b) w wr)) (fun iv _ => E - (RowKit.intOf iv).toNat)
  case atStart =>
    refine ⟨F, Nat.le_refl _, by omega, rfl, cs, ?_, rfl, fun _ _ => rfl, Chg.of_below HB1.out⟩
    have h := HC.out.kept HB1.out
    refine ⟨h.blk, fun j hj => ?_⟩
    unfold orV; rw [if_neg (by omega)]; exact h.at_ j hj
  case round =>
    obtain ⟨k, hFk, hk, rfl, HR⟩ := hrel
    by_cases hlt : k < E
    · have hd : decide (k < E) = true := decide_eq_true hlt
      have hd' : decide ((k : Int) < (E : Int)) = true := decide_eq_true (by omega)
      have hki : (k : Int) < 16 := by omega
      obtain ⟨cs', h1, h2, h3, h4⟩ := HR.out
      have c0 := h1.cell (j := k) (by omega)
      have f0 := h1.blk.free (off + k)
      have hx : orV W F M k k = W k := by unfold orV; rw [if_neg (by omega)]
      rw [hx] at c0
      have hand := u64_or (W k) M (HLT.out _ (by omega)) HM.out
      obtain ⟨Z, hZ⟩ : ∃ Z, Z = W k ||| M := ⟨_, rfl⟩
      have hand' : bits .or .u64 ((W k : Nat) : Int) (M : Int) = (Z : Int) := by rw [hand, hZ]
      have HN : Hid (∃ cs'', ColB (wr.setCell ⟨b, off + k, none⟩ (.int .u64 (Z : Int))) b off T cs'' (orV W F M (k + 1)) ∧ cs''.size = cs.size ∧ (∀ i, (i < off ∨ off + 16 ≤ i) → cs''[i]? = cs[i]?) ∧ Chg (One b) w (wr.setCell ⟨b, off + k, none⟩ (.int .u64 (Z : Int)))) := by
        refine ⟨_, h1.set (j := k) (by omega) Z ?_ ?_, by rw [Array.size_setIfInBounds]; exact h2, fun i hi => ?_, h4.trans (Chg.setCell _ _ rfl)⟩
        · unfold orV; rw [if_pos ⟨hFk, by omega⟩, hZ]
        · intro i hi hne
          unfold orV
          by_cases h5 : F ≤ i ∧ i < k
          · rw [if_pos h5, if_pos ⟨h5.1, by omega⟩]
          · rw [if_neg h5, if_neg (by omega)]
        · rw [Array.getElem?_setIfInBounds_ne (by omega)]; exact h3 i hi
      obtain ⟨x, hx'⟩ : ∃ x, x = W k := ⟨_, rfl⟩
      rw [← hx'] at c0 hand'
      clear hZ hx' hand hx h1 h2 h3 h4 HR
      go_wp2_with fail
      go_region
      go_wp2_with fail
      go_roundw
      case rel =>
        obtain ⟨c9, a1, a2, a3, a4⟩ := HN.out
        exact ⟨k + 1, by omega, hlt, by go_num, c9, ⟨a1.blk, a1.at_⟩, a2, a3, ⟨a4.os, a4.tape, a4.output, a4.size, a4.block⟩⟩
      case measure => simp [RowKit.intOf]; omega
    · have hd : decide (k < E) = false := decide_eq_false hlt
      have hd' : decide ((k : Int) < (E : Int)) = false := decide_eq_false (by omega)
      obtain rfl : k = E := by omega
      go_wp2_with fail
      go_returns
      exact ⟨rfl, HR.out⟩
theorem add_any (b off s o : Nat) (T : TypeId) (cs : Array Value) (W : Nat → Nat) (w : World) (hc : ColB w b off T cs W) (ho : o ≤ 10) (hs : s % 2 ^ o = 0) (hb : s + 2 ^ o ≤ 1024) (hlt : ∀ j, j < 16 → W j < 2 ^ 64) :
    Calls Try.prog 37 #[.pointer (some ⟨b, off, none⟩), .agg #[.int .i64 (s : Nat), .int .i64 (o : Nat)]] w fun e w' => e = .returned (.tuple #[]) ∧ ∃ cs', ColB w' b off T cs' (orW W s o (spanE s o)) ∧ cs'.size = cs.size ∧ (∀ i, (i < off ∨ off + 16 ≤ i) → cs'[i]? = cs[i]?) ∧ Chg (One b) w w' := by
  obtain ⟨h1, h2⟩ := spanE_le (n := 10) (by omega) ho hb
  exact add_core b off s o (spanF s) (spanE s o) (spanM s o) T cs W w hc h1 h2 (spanM_lt hs) hlt fun w1 => span_any s o w1 ho hs hb

def anV (W : Nat → Nat) (F M k : Nat) : Nat → Nat := fun j => if F ≤ j ∧ j < k then andN (W j) M else W j
set_option maxRecDepth 100000 in
set_option maxHeartbeats 4000000 in
theorem remove_core (b off s o F E M : Nat) (T : TypeId) (cs : Array Value) (W : Nat → Nat) (w : World) (hc : ColB w b off T cs W) (hFE : F < E) (hE16 : E ≤ 16) (hM : M < 2 ^ 64) (hlt : ∀ j, j < 16 → W j < 2 ^ 64)
    (hsp : ∀ w1, Calls Try.prog 48 #[.agg #[.int .i64 (s : Nat), .int .i64 (o : Nat)]] w1 fun e w' => e = .returned (.tuple #[.int .i64 (F : Nat), .int .i64 (E : Nat), .int .u64 (M : Nat)]) ∧ Below w1.heap.size w1 w') :
    Calls Try.prog 53 #[.pointer (some ⟨b, off, none⟩), .agg #[.int .i64 (s : Nat), .int .i64 (o : Nat)]] w fun e w' => e = .returned (.tuple #[]) ∧ ∃ cs', ColB w' b off T cs' (anV W F M E) ∧ cs'.size = cs.size ∧ (∀ i, (i < off ∨ off + 16 ≤ i) → cs'[i]? = cs[i]?) ∧ Chg (One b) w w' := by
  have SP := Lib.hid hsp
  have HC := Lib.hid hc
  have HLT := Lib.hid hlt
  have HM := Lib.hid hM
  have HBL := Lib.hid hc.blk.lt
  clear hsp hc hlt hM
  obtain ⟨X, hX⟩ : ∃ X, X = w.alloc (.cells #[.int .i64 (s : Nat), .int .i64 (o : Nat)] 46) := ⟨_, rfl⟩
  obtain ⟨gB, hgB⟩ : ∃ g, g = w.heap.size := ⟨_, rfl⟩
  have HBX : Hid (Below w.heap.size w X) := by unfold Hid; rw [hX]; exact (Below.refl _ _).alloc (Nat.le_refl _) _
  have HB : Hid (Blk X gB #[.int .i64 (s : Nat), .int .i64 (o : Nat)] 46) := by unfold Hid; rw [hX, hgB]; exact Blk.new w _ _
  have t0 := HB.out.cell 0
  have t1 := HB.out.cell 1
  simp at t0 t1
  go_enter Try.func53, Try.ntmps53
  go_upto_region 1 with fail
  rw [← hgB, ← hX]
  clear hgB hX
  go_wp2_with fail
  refine (SP.out _).mono ?_; rintro e w1 ⟨rfl, b1⟩
  have HB1 := Lib.hid (below_next b1 HBX.out)
  clear b1 t0 t1 SP HB HBX
  dsimp only
  go_wp2_with fail
  go_loopw [7] (fun iv wr => ∃ k : Nat, F ≤ k ∧ k ≤ E ∧ iv = .int .i64 k ∧ Hid (∃ cs', ColB wr b off T cs' (anV W F M k) ∧ cs'.size = cs.size ∧ (∀ i, (i < off ∨ off + 16 ≤ i) → cs'[i]? = cs[i]?) ∧ Chg (One b) w wr)) (fun iv _ => E - (RowKit.intOf iv).toNat)
  case atStart =>
    refine ⟨F, Nat.le_refl _, by omega, rfl, cs, ?_, rfl, fun _ _ => rfl, Chg.of_below HB1.out⟩
    have h := HC.out.kept HB1.out
    refine ⟨h.blk, fun j hj => ?_⟩
    unfold anV; rw [if_neg (by omega)]; exact h.at_ j hj
  case round =>
    obtain ⟨k, hFk, hk, rfl, HR⟩ := hrel
    by_cases hlt : k < E
    · have hd : decide (k < E) = true := decide_eq_true hlt
      have hd' : decide ((k : Int) < (E : Int)) = true := decide_eq_true (by omega)
      have hki : (k : Int) < 16 := by omega
      obtain ⟨cs', h1, h2, h3, h4⟩ := HR.out
      have c0 := h1.cell (j := k) (by omega)
      have f0 := h1.blk.free (off + k)
      have hx : anV W F M k k = W k := by unfold anV; rw [if_neg (by omega)]
      rw [hx] at c0
      have hand := u64_andNot (W k) M (HLT.out _ (by omega)) HM.out
      obtain ⟨Z, hZ⟩ : ∃ Z, Z = andN (W k) M := ⟨_, rfl⟩
      have hand' : bits .andNot .u64 ((W k : Nat) : Int) (M : Int) = (Z : Int) := by rw [hand, hZ]
      have HN : Hid (∃ cs'', ColB (wr.setCell ⟨b, off + k, none⟩ (.int .u64 (Z : Int))) b off T cs'' (anV W F M (k + 1)) ∧ cs''.size = cs.size ∧ (∀ i, (i < off ∨ off + 16 ≤ i) → cs''[i]? = cs[i]?) ∧ Chg (One b) w (wr.setCell ⟨b, off + k, none⟩ (.int .u64 (Z : Int)))) := by
        refine ⟨_, h1.set (j := k) (by omega) Z ?_ ?_, by rw [Array.size_setIfInBounds]; exact h2, fun i hi => ?_, h4.trans (Chg.setCell _ _ rfl)⟩
        · unfold anV; rw [if_pos ⟨hFk, by omega⟩, hZ]
        · intro i hi hne
          unfold anV
          by_cases h5 : F ≤ i ∧ i < k
          · rw [if_pos h5, if_pos ⟨h5.1, by omega⟩]
          · rw [if_neg h5, if_neg (by omega)]
        · rw [Array.getElem?_setIfInBounds_ne (by omega)]; exact h3 i hi
      obtain ⟨x, hx'⟩ : ∃ x, x = W k := ⟨_, rfl⟩
      rw [← hx'] at c0 hand'
      clear hZ hx' hand hx h1 h2 h3 h4 HR
      go_wp2_with fail
      go_region
      go_wp2_with fail
      go_roundw
      case rel =>
        obtain ⟨c9, a1, a2, a3, a4⟩ := HN.out
        exact ⟨k + 1, by omega, hlt, by go_num, c9, ⟨a1.blk, a1.at_⟩, a2, a3, ⟨a4.os, a4.tape, a4.output, a4.size, a4.block⟩⟩
      case measure => simp [RowKit.intOf]; omega
    · have hd : decide (k < E) = false := decide_eq_false hlt
      have hd' : decide ((k : Int) < (E : Int)) = false := decide_eq_false (by omega)
      obtain rfl : k = E := by omega
      go_wp2_with fail
      go_returns
      exact ⟨rfl, HR.out⟩
theorem remove_any (b off s o : Nat) (T : TypeId) (cs : Array Value) (W : Nat → Nat) (w : World) (hc : ColB w b off T cs W) (ho : o ≤ 10) (hs : s % 2 ^ o = 0) (hb : s + 2 ^ o ≤ 1024) (hlt : ∀ j, j < 16 → W j < 2 ^ 64) :
    Calls Try.prog 53 #[.pointer (some ⟨b, off, none⟩), .agg #[.int .i64 (s : Nat), .int .i64 (o : Nat)]] w fun e w' => e = .returned (.tuple #[]) ∧ ∃ cs', ColB w' b off T cs' (anW W s o (spanE s o)) ∧ cs'.size = cs.size ∧ (∀ i, (i < off ∨ off + 16 ≤ i) → cs'[i]? = cs[i]?) ∧ Chg (One b) w w' := by
  obtain ⟨h1, h2⟩ := spanE_le (n := 10) (by omega) ho hb
  exact remove_core b off s o (spanF s) (spanE s o) (spanM s o) T cs W w hc h1 h2 (spanM_lt hs) hlt fun w1 => span_any s o w1 ho hs hb
end Go.Proofs.Ytfobapnncjjeiaa
