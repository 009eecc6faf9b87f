/-
  slices.Grow, Concat, Clone at bytes; crate.Put, readSum at any bytes.
-/
import Derived.Test.YtgohnidndjbjiaaCrateA
import Derived.Test.YtgohnidndjbjiaaShelf3
import Derived.Shelf.Spec.SlicesGrow
import Derived.Lib.SliceRun
namespace Go.Proofs.Ytgohnidndjbjiaa
open Go Go.RowKit Go.Lib
set_option linter.unusedVariables false

theorem owns_mono {w : World} {base base' n size : Nat} {e : TypeId} {v : Value} {xs : List Value} (h : w.ownsRow base e size v n xs) (hb : base' ≤ base) : w.ownsRow base' e size v n xs := by
  obtain ⟨h1, ⟨h2, h3⟩ | ⟨g, cap, cur, h2, h3, h4⟩⟩ := h
  · exact ⟨h1, .inl ⟨h2, h3⟩⟩
  · exact ⟨h1, .inr ⟨g, cap, cur, h2, by omega, h4⟩⟩
theorem growBytes (n : Nat) (w : World) (hn : n ≤ 4194304) :
    Calls Try.prog 60 #[.slice none 0 0, .int .i64 n] w fun e w' => ∃ v', e = .returned v' ∧ w'.ownsRow w.heap.size 5 1 v' 0 [] ∧ Below w.heap.size w w' := by
  obtain ⟨i0, hi, hz0, hz1, hz2⟩ := info_parts Try.infoB
  rcases Nat.eq_zero_or_pos n with h0 | h0
  · subst h0
    have h := Any8.slices_Grow_room Try.growByte none 0 0 0 w (Nat.le_refl _) (by omega) (by omega) (Nat.le_refl _)
    exact Calls.mono (P := Try.prog) h fun e w' ⟨he, hw⟩ => by
      subst hw
      exact ⟨_, he, World.ownsRow_nil _ _ _ _, Below.refl _ _⟩
  · have h := Any8.slices_Grow_grow Try.growByte i0 _ hi hz0 (by omega) none 0 0 n [] w (Nat.le_refl _) (by omega) (by rw [hz2]; omega) (by omega) (by simp) (fun _ => rfl) (fun a ha => nomatch ha)
    exact Calls.mono (P := Try.prog) h fun e w' ⟨he, hw⟩ => by
      subst hw
      have hG : 0 + n ≤ grownCap w (0 + n) 0 5 := grownCap_ge w _ _ _
      have hG2 : grownCap w (0 + n) 0 5 ≤ maxLen := grownCap_le_maxLen w _ _ _ (by unfold maxLen; omega)
      refine ⟨_, he, ?_, ((Below.refl _ w).drew).alloc (by simp) _⟩
      refine World.ownsRow_made (e := 5) (size := 1) (base := w.heap.size) w.drew _ _ (Nat.le_refl _) hG2 ?_
      have hz3 : (Value.int .u8 0).cells.size = 1 := rfl
      have h25 : Try.growByte_ren.t 25 = 5 := rfl
      rw [h25]
      generalize grownCap w (0 + n) 0 5 = G at *
      simp only [Builtin.zeroCells, hz3, Array.size_append, Array.size_map, Array.size_range, List.size_toArray, List.length_nil]
      omega

set_option maxRecDepth 100000 in
set_option maxHeartbeats 1000000 in
theorem concatB_any (B : Nat) (va vb : Value) (xs ys : List UInt8) (t : TypeId) (K1 K2 : Nat → Prop) (w : World) (hn : xs.length ≤ 1048576) (hn' : ys.length ≤ 1048576) (ha : Rd w K1 va (bts xs)) (hb : Rd w K2 vb (bts ys)) (hB : Blk w B #[va, vb] t) :
    Calls Try.prog 54 #[.slice (some ⟨B, 0, none⟩) 2 2] w (CopyTo w (xs ++ ys)) := by
  obtain ⟨i0, hi, hz0, hz1, hz2⟩ := info_parts Try.infoB
  have SA : Hid (Src w 1 va xs.length (bts xs)) := by have := rd_src ha; rw [bts_len] at this; exact this
  have SB : Hid (Src w 1 vb ys.length (bts ys)) := by have := rd_src hb; rw [bts_len] at this; exact this
  have HB := Lib.hid hB
  obtain ⟨a, c, rfl, _⟩ := rd_len ha
  obtain ⟨a', c', rfl, _⟩ := rd_len hb
  have E := Lib.hid (bts_app xs ys)
  have EL : Hid ((xs ++ ys).length = xs.length + ys.length) := List.length_append
  have HG : Hid (∀ w1, Calls Try.prog 60 #[.slice none 0 0, .int .i64 ((xs.length : Int) + ys.length)] w1 fun e w' => ∃ v', e = .returned v' ∧ w'.ownsRow w1.heap.size 5 1 v' 0 [] ∧ Below w1.heap.size w1 w') := by
    intro w1
    have := growBytes (xs.length + ys.length) w1 (by omega)
    rw [Int.natCast_add] at this; exact this
  have H1 : Hid (∀ u ∈ bts xs, u.oneCell' = true) := bts_one xs
  have H2 : Hid (∀ u ∈ bts ys, u.oneCell' = true) := bts_one ys
  have c0 := hB.cell 0; simp at c0
  have c1 := hB.cell 1; simp at c1
  clear ha hb hB
  unfold CopyTo
  generalize bts (xs ++ ys) = fl at *
  generalize (xs ++ ys).length = nl at *
  generalize bts xs = fx at *
  generalize bts ys = fy at *
  generalize hx : xs.length = n at *
  generalize hy : ys.length = m at *
  clear hx hy
  go_enter Try.func54, Try.ntmps54
  go_wp2_with fail
  refine wp_loop_rounds 3 ?_
  rw [rounds_succ]
  go_wp2_with fail
  rw [rounds_succ]
  go_wp2_with fail
  rw [rounds_succ]
  go_wp2_with fail
  refine (HG.out _).mono ?_; rintro e w1 ⟨v1, rfl, ho1, b1⟩
  have B1 := Lib.hid b1
  have HB1 := HB.out.kept b1
  have d0 := HB1.cell 0; simp at d0
  have d1 := HB1.cell 1; simp at d1
  clear c0 c1
  go_wp2_with fail
  refine wp_loop_rounds 3 ?_
  rw [rounds_succ]
  go_wp2_with (at_builtin; refine wpList_app rfl _ _ 37 rfl w.heap.size 5 i0 _ 1 1 Try.underlying37 hi hz0 hz1 hz2 rfl (by decide) _ 0 [] rfl ho1 _ n fx rfl (SA.out.kept B1.out) H1.out (by unfold maxLen; omega) (by omega) B1.out.size ?_; intro v2 w2 ho2 hg2 hl2)
  have B2 : Hid (Below w.heap.size w w2) := B1.out.grown hg2 B1.out.size (fun j hj => (ho1.lt j hj).1)
  have HB2 := HB.out.kept B2.out
  have e1 := HB2.cell 1; simp at e1
  clear d0 d1
  rw [rounds_succ]
  go_wp2_with (at_builtin; refine wpList_app rfl _ _ 37 rfl w.heap.size 5 i0 _ 1 1 Try.underlying37 hi hz0 hz1 hz2 rfl (by decide) _ (0 + n) ([] ++ fx) rfl ho2 _ m fy rfl (SB.out.kept B2.out) H2.out (by unfold maxLen; omega) (by omega) B2.out.size ?_; intro v3 w3 ho3 hg3 hl3)
  rw [rounds_succ]
  go_wp2_with fail
  go_returns
  refine ⟨v3, rfl, ?_, B2.out.grown hg3 B2.out.size (fun j hj => (ho2.lt j hj).1)⟩
  rw [Nat.zero_add, List.nil_append] at ho3
  rw [E.out, EL.out]; exact ho3

theorem cloneB_some (a : Addr) (c : Nat) (xs : List UInt8) (w : World) (hn : xs.length ≤ 1048576) (hS : Src w 1 (.slice (some a) xs.length c) xs.length (bts xs)) :
    Calls Try.prog 63 #[.slice (some a) xs.length c] w (CopyTo w xs) := by
  obtain ⟨i0, hi, hz0, hz1, hz2⟩ := info_parts Try.infoB
  have HS := Lib.hid hS
  clear hS
  have q : ∀ (w : World) (a : Option Addr) (n c n' c' : Nat), (binOp .eql 37 (.slice a n c) (.slice none n' c')).run Try.prog w = .ok (.bool a.isNone) w := fun w a n c n' c' => Lib.run_eql_slice_nil w _ _ a n c n' c' Try.underlying37
  go_enter Try.func63, Try.ntmps63
  go_wp2_with (at_builtin; refine wpList_app rfl _ _ 37 rfl w.heap.size 5 i0 _ 1 1 Try.underlying37 hi hz0 hz1 hz2 rfl (by decide) _ 0 [] rfl (World.ownsRow_made w #[] 0 (Nat.le_refl _) (Nat.zero_le _) (by simp)) _ xs.length (bts xs) rfl (HS.out.kept ((Below.refl _ w).alloc (Nat.le_refl _) _)) (bts_one xs) ?qc2 ?qc3 ?qc4 ?_)
  case qc2 => unfold maxLen; omega
  case qc3 => omega
  case qc4 => simp
  intro v' w1 hown hgrow _
  have HO := Lib.hid hown
  have HGr := Lib.hid hgrow
  obtain ⟨A', c', rfl⟩ := owned_slice hown
  clear hown hgrow
  go_wp2_with fail
  go_returns
  refine ⟨_, rfl, HO.out, ((Below.refl _ w).alloc (Nat.le_refl _) _).grown HGr.out (by simp) (by intro k hk; simp [Value.ownBlock] at hk; omega)⟩
theorem cloneB_none (n c : Nat) (w : World) :
    Calls Try.prog 63 #[.slice none n c] w fun e w' => e = .returned (.slice none 0 0) ∧ Below w.heap.size w w' := by
  have q : ∀ (w : World) (a : Option Addr) (n c n' c' : Nat), (binOp .eql 37 (.slice a n c) (.slice none n' c')).run Try.prog w = .ok (.bool a.isNone) w := fun w a n c n' c' => Lib.run_eql_slice_nil w _ _ a n c n' c' Try.underlying37
  go_enter Try.func63, Try.ntmps63
  go_wp2_with fail
  go_returns
  exact ⟨rfl, Below.refl _ _⟩
theorem cloneB_any {w : World} {K : Nat → Prop} {v : Value} {xs : List UInt8} (h : Rd w K v (bts xs)) (hn : xs.length ≤ 1048576) :
    Calls Try.prog 63 #[v] w (CopyTo w xs) := by
  have hS : Src w 1 v xs.length (bts xs) := by have := rd_src h; rw [bts_len] at this; exact this
  have h0 := h
  obtain ⟨A, c, rfl, _⟩ := rd_len h
  cases A with
  | none =>
    obtain ⟨A', c', h1, _, _, h4⟩ := h0
    injection h1 with h1 _ _
    subst h1
    have hx : xs = [] := by
      rcases Nat.eq_zero_or_pos xs.length with h | h
      · exact List.eq_nil_of_length_eq_zero h
      · obtain ⟨_, _, h, _⟩ := h4 (by rw [bts_len]; exact h); cases h
    subst hx
    exact (cloneB_none _ c w).mono fun e w' ⟨he, hb⟩ => ⟨_, he, World.ownsRow_nil _ _ _ _, hb⟩
  | some a => exact cloneB_some a c xs w hn hS

def hdr (n : Nat) : List UInt8 := [UInt8.ofNat (n / 256), UInt8.ofNat (n % 256)]
def le4 (s : Nat) : List UInt8 := (List.range 4).map fun i => UInt8.ofNat (s / 2 ^ (8 * i) % 256)
/-- What a body's crate holds. -/
def putB (b : List UInt8) : List UInt8 := 197 :: (hdr b.length ++ b) ++ le4 (sumB (hdr b.length ++ b))
theorem le4_len (s : Nat) : (le4 s).length = 4 := by simp [le4]
theorem putB_len (b : List UInt8) : (putB b).length = b.length + 7 := by simp [putB, hdr, le4_len]
theorem le4_succ (s j : Nat) (h : j < 4) : (le4 s).take (j + 1) = (le4 s).take j ++ [UInt8.ofNat (s / 2 ^ (8 * j) % 256)] := by
  rw [List.take_succ_eq_append_getElem (by rw [le4_len]; exact h)]
  simp [le4]
theorem put_long {A : Option Addr} {n c : Nat} (w : World) (h : 8000 < n) :
    Calls Try.prog 38 #[.slice A n c] w fun e w' => e = .returned (.tuple #[.slice none 0 0, .int .i64 3]) ∧ w' = w := by
  have t : decide ((n : Int) > 8000) = true := decide_eq_true (by omega)
  go_enter Try.func38, Try.ntmps38
  go_wp2_with fail
  go_returns
  exact ⟨rfl, rfl⟩
set_option maxRecDepth 100000 in
theorem put_ok {w : World} {K : Nat → Prop} {v : Value} {xs : List UInt8} (h : Rd w K v (bts xs)) (hn : xs.length ≤ 8000) :
    Calls Try.prog 38 #[v] w fun e w' => ∃ v', e = .returned (.tuple #[v', .int .i64 0]) ∧ w'.ownsRow w.heap.size 5 1 v' (xs.length + 7) (bts (putB xs)) ∧ Below w.heap.size w w' := by
  have H := Lib.hid h
  obtain ⟨A, c, rfl, hm⟩ := rd_len h
  have t : decide ((xs.length : Int) > 8000) = false := decide_eq_false (by omega)
  have hh : bts (197 :: hdr xs.length) = [.int .u8 197, .int .u8 ((xs.length : Int) / 256), .int .u8 ((xs.length : Int) % 256)] := by
    have e1 : (UInt8.ofNat (xs.length / 256)).toNat = xs.length / 256 := by rw [UInt8.toNat_ofNat']; omega
    have e2 : (UInt8.ofNat (xs.length % 256)).toNat = xs.length % 256 := by rw [UInt8.toNat_ofNat']; omega
    simp [bts, hdr, e1, e2]
  obtain ⟨ys, hys⟩ : ∃ ys, ys = (197 :: hdr xs.length) ++ xs := ⟨_, rfl⟩
  have ly : ys.length = xs.length + 3 := by rw [hys]; simp [hdr]
  have HC : Hid (Calls Try.prog 54 #[.slice (some ⟨w.heap.size + 1, 0, none⟩) 2 2] ((w.alloc (.cells #[.int .u8 197, .int .u8 ((xs.length : Int) / 256), .int .u8 ((xs.length : Int) % 256)] 5)).alloc (.cells #[.slice (some ⟨w.heap.size, 0, none⟩) 3 3, .slice A xs.length c] 37))
      (CopyTo ((w.alloc (.cells #[.int .u8 197, .int .u8 ((xs.length : Int) / 256), .int .u8 ((xs.length : Int) % 256)] 5)).alloc (.cells #[.slice (some ⟨w.heap.size, 0, none⟩) 3 3, .slice A xs.length c] 37)) ys)) := by
    have B1 := Blk.new w #[.int .u8 197, .int .u8 ((xs.length : Int) / 256), .int .u8 ((xs.length : Int) % 256)] 5
    have R1 : Rd (w.alloc (.cells #[.int .u8 197, .int .u8 ((xs.length : Int) / 256), .int .u8 ((xs.length : Int) % 256)] 5)) (fun _ => True) (.slice (some ⟨w.heap.size, 0, none⟩) 3 3) (bts (197 :: hdr xs.length)) := by
      rw [hh]
      refine ⟨_, 3, rfl, Nat.le_refl _, by decide, fun _ => ⟨w.heap.size, 0, rfl, trivial, by simp, fun j u hj => ?_⟩⟩
      rw [Nat.zero_add, B1.cell]; simpa using hj
    have hb0 : Below w.heap.size w (w.alloc (.cells #[.int .u8 197, .int .u8 ((xs.length : Int) / 256), .int .u8 ((xs.length : Int) % 256)] 5)) := (Below.refl _ _).alloc (Nat.le_refl _) _
    rw [hys]
    exact concatB_any (w.heap.size + 1) _ _ _ _ _ _ _ _ (by simp [hdr]) (by omega) (R1.kept ((Below.refl _ _).alloc (Nat.le_refl _) _)) ((H.out.kept hb0).kept ((Below.refl _ _).alloc (Nat.le_refl _) _)) (Blk.fresh _ _ _ _ (by simp))
  obtain ⟨S, hS⟩ : ∃ S, S = sumB (hdr xs.length ++ xs) := ⟨_, rfl⟩
  have HSl : Hid (S < 4294967296) := by rw [hS]; exact sumB_lt _
  have HP : Hid (putB xs = ys ++ (le4 S).take 4) := by rw [hys, hS, List.take_of_length_le (by rw [le4_len]; exact Nat.le_refl _)]; rfl
  have HD : Hid (sumB (ys.drop 1) = S) := by rw [hys, hS]; rfl
  obtain ⟨i0, hi, hz0, hz1, hz2⟩ := info_parts Try.infoB
  have HLY := Lib.hid ly
  clear h hh hys hS ly
  go_enter Try.func38, Try.ntmps38
  go_wp2_with fail
  refine HC.out.mono ?_; rintro e w2 ⟨v2, rfl, ho2, hb2⟩
  have hb2' : Below w.heap.size w w2 := (((Below.refl _ w).alloc (Nat.le_refl _) _).alloc (by simp) _).trans (hb2.mono (by simp; omega))
  have O2 : Hid (w2.ownsRow w.heap.size 5 1 v2 ys.length (bts ys)) := owns_mono ho2 (by simp; omega)
  obtain ⟨g, cap, rfl, hcap, hcm⟩ : ∃ g cap, v2 = .slice (some ⟨g, 0, none⟩) ys.length cap ∧ ys.length ≤ cap ∧ cap ≤ maxLen := by
    obtain ⟨_, ⟨_, h0⟩ | ⟨g, cap, _, h1, _, _, h2, h3, _⟩⟩ := O2.out
    · have := HLY.out; omega
    · exact ⟨g, cap, h1, h2, h3⟩
  have hSm : Hid (Calls Try.prog 55 #[.slice (some ⟨g, 1, none⟩) (ys.length - 1) (cap - 1)] w2 fun e w' => e = .returned (.int .u32 S) ∧ w' = w2) := by
    have hr : Rd w2 (fun _ => True) (.slice (some ⟨g, 0, none⟩) ys.length cap) (bts ys) := Rd.of_owns (by rw [bts_len]; exact O2.out) fun _ _ => trivial
    have := sum_any (rd_drop hr 1 (by have := HLY.out; omega) (cap - 1) (by omega) (by omega)) (by rw [List.length_drop]; have := HLY.out; omega)
    rw [HD.out] at this; exact this
  have hc1 : ¬ cap = 1 := by have := HLY.out; omega
  have hc2 : (1 : Int) ≤ ys.length := by have := HLY.out; omega
  have hc3 : 1 ≤ ys.length := by have := HLY.out; omega
  have B2 := Lib.hid hb2'
  unfold maxLen at hcm
  clear ho2 hb2 hb2'
  go_wp2_with fail
  refine hSm.out.mono ?_; rintro e w2 ⟨rfl, rfl⟩
  go_wp2_with fail
  go_loopw [4, 24] (fun bv i wr => ∃ j : Nat, j ≤ 4 ∧ i = .int .i64 j ∧ wr.ownsRow w.heap.size 5 1 bv (ys.length + j) (bts (ys ++ (le4 S).take j)) ∧ Below w.heap.size w wr) (fun _ i _ => 4 - (RowKit.intOf i).toNat)
  case atStart => exact ⟨0, Nat.zero_le _, rfl, by simpa using O2.out, B2.out⟩
  case round =>
    obtain ⟨j, hj, rfl, ho, hB⟩ := hrel
    have HO := Lib.hid ho
    obtain ⟨Ab, cb, rfl⟩ := owned_slice ho
    clear ho
    by_cases hlt : j < 4
    · have t1 : decide ((j : Int) < 4) = true := decide_eq_true (by omega)
      obtain ⟨C, hC⟩ : ∃ C, C = S / 2 ^ (8 * j) % 256 := ⟨_, rfl⟩
      have e1 : (S : Int) / 2 ^ (8 * j) % 256 = (C : Int) := by rw [hC]; simp
      have e2 : bts [UInt8.ofNat C] = [.int .u8 (C : Int)] := by
        have : (UInt8.ofNat C).toNat = C := by rw [UInt8.toNat_ofNat', hC]; omega
        simp [bts, this]
      have HN : Hid (bts (ys ++ (le4 S).take (j + 1)) = bts (ys ++ (le4 S).take j) ++ [.int .u8 (C : Int)]) := by
        rw [le4_succ S j hlt, ← List.append_assoc, bts_app _ [_], ← hC, e2]; rfl
      clear hC e2
      go_wp2_with (at_builtin; refine wpList_append_own _ rfl _ _ 37 rfl w.heap.size 5 i0 _ 1 1 Try.underlying37 hi hz0 hz1 hz2 rfl (by decide) _ (ys.length + j) _ rfl (owns_alloc HO.out _) ⟨wr.heap.size, 0, none⟩ 1 1 [.int .u8 (C : Int)] rfl rfl ?q1 ?q0 ?q2 ?q3 ?q4 ?_)
      case q1 => exact news_alloc wr [.int .u8 (C : Int)] 5
      case q0 =>
        intro u hu
        obtain rfl : u = .int .u8 (C : Int) := (by simpa using hu)
        rfl
      case q2 => have := HLY.out; unfold maxLen; omega
      case q3 => have := HLY.out; omega
      case q4 => have := hB.size; simp; omega
      intro v3 w3 ho3 hg3 _
      have O3 : Hid (w3.ownsRow w.heap.size 5 1 v3 (ys.length + (j + 1)) (bts (ys ++ (le4 S).take (j + 1)))) := by rw [HN.out, ← Nat.add_assoc]; exact ho3
      have hB3 : Below w.heap.size w w3 := (hB.alloc hB.size _).grown hg3 (by have := hB.size; simp; omega) fun k hk => owns_base HO.out hk
      obtain ⟨A3, c3, rfl⟩ := owned_slice ho3
      clear ho3 hg3 e1
      go_wp2_with fail
      go_roundw
      case rel => exact ⟨j + 1, hlt, by go_num, O3.out, hB3⟩
      case measure => simp [RowKit.intOf]; omega
    · obtain rfl : j = 4 := by omega
      go_wp2_with fail
      go_returns
      exact ⟨_, rfl, (by rw [HP.out, show xs.length + 7 = ys.length + 4 by have := HLY.out; omega]; exact HO.out), hB⟩
theorem numB_snoc (xs : List UInt8) (c : UInt8) : numB (xs ++ [c]) = numB xs + c.toNat * 2 ^ (8 * xs.length) := by
  induction xs with
  | nil => simp [numB]
  | cons d xs ih =>
    show d.toNat + 256 * numB (xs ++ [c]) = d.toNat + 256 * numB xs + c.toNat * 2 ^ (8 * (xs.length + 1))
    rw [ih, show 8 * (xs.length + 1) = 8 * xs.length + 8 by omega, Nat.pow_add, Nat.mul_add, show (2 : Nat) ^ 8 = 256 by rfl]
    have : 256 * (c.toNat * 2 ^ (8 * xs.length)) = c.toNat * (2 ^ (8 * xs.length) * 256) := by ac_rfl
    omega
theorem readSum_any {w : World} {K : Nat → Prop} {v : Value} {xs : List UInt8} (h : Rd w K v (bts xs)) (hn : 4 ≤ xs.length) :
    Calls Try.prog 62 #[v] w fun e w' => e = .returned (.int .u32 (numB (xs.take 4))) ∧ w' = w := by
  have H := Lib.hid h
  obtain ⟨A, c, rfl, hm⟩ := rd_len h
  unfold maxLen at hm
  clear h
  go_enter Try.func62, Try.ntmps62
  go_wp2_with fail
  go_loop [3, 5] (fun r i => ∃ (j S : Nat), j ≤ 4 ∧ i = .int .i64 j ∧ r = .int .u32 S ∧ Hid (S = numB (xs.take j))) (fun _ i => 4 - (RowKit.intOf i).toNat)
  case atStart => exact ⟨0, 0, Nat.zero_le _, rfl, rfl, rfl⟩
  case round =>
    obtain ⟨j, S, hj, rfl, rfl, hS⟩ := hrel
    by_cases hlt : j < 4
    · have t1 : decide ((j : Int) < 4) = true := decide_eq_true (by omega)
      obtain ⟨b, off, rfl, _, _, c0⟩ := rd_at H.out (show j < xs.length by omega)
      have hj' : (j : Int) < xs.length := by omega
      have hsn : Hid (numB (xs.take (j + 1)) = S + xs[j].toNat * 2 ^ (8 * j)) := by
        rw [List.take_succ_eq_append_getElem (by omega), numB_snoc, ← hS.out, List.length_take, Nat.min_eq_left (by omega)]; rfl
      have hcl := xs[j].toNat_lt
      have hSl : S < 2 ^ (8 * j) := by
        have h := numB_lt (xs.take j)
        rw [List.length_take, Nat.min_eq_left (by omega), ← hS.out] at h
        exact h
      generalize xs[j].toNat = C at *
      obtain ⟨T, hT⟩ : ∃ T, T = S + C * 2 ^ (8 * j) := ⟨_, rfl⟩
      have hor : bits .or .u32 (S : Int) ((C : Int) * 2 ^ (8 * j) % 4294967296) = (T : Int) := by
        have e1 : ((C : Int) * 2 ^ (8 * j) % 4294967296) = ((C * 2 ^ (8 * j) : Nat) : Int) ∧ C * 2 ^ (8 * j) < 4294967296 ∧ S < 4294967296 := by
          match j, hlt with
          | 0, _ => refine ⟨?_, ?_, ?_⟩ <;> simp at hSl ⊢ <;> omega
          | 1, _ => refine ⟨?_, ?_, ?_⟩ <;> simp at hSl ⊢ <;> omega
          | 2, _ => refine ⟨?_, ?_, ?_⟩ <;> simp at hSl ⊢ <;> omega
          | 3, _ => refine ⟨?_, ?_, ?_⟩ <;> simp at hSl ⊢ <;> omega
        rw [e1.1, u32_or_nat S _ e1.2.2 e1.2.1, Nat.or_comm, nat_join (8 * j) _ _ (by simp) hSl, hT, Nat.add_comm]
      have hsn2 : Hid (T = numB (xs.take (j + 1))) := by rw [hsn.out, hT]; rfl
      clear hT hSl hS hsn
      go_wp2_with fail
      go_round
      case rel => exact ⟨j + 1, T, hlt, by go_num, rfl, hsn2⟩
      case measure => simp [RowKit.intOf]; omega
    · obtain rfl : j = 4 := by omega
      go_wp2_with fail
      go_returns
      exact ⟨ret_u32 (by rw [hS.out]), rfl⟩
end Go.Proofs.Ytgohnidndjbjiaa
