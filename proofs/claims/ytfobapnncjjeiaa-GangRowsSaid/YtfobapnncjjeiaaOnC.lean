/-
  math/bits.OnesCount64 at any word; gang's columns' count; Idle.
-/
import Derived.Test.YtfobapnncjjeiaaOnB
import Derived.Test.YtfobapnncjjeiaaGaK
import Derived.Test.YtfobapnncjjeiaaGaG
namespace Go.Proofs.Ytfobapnncjjeiaa
open Go Go.RowKit Go.Lib
set_option linter.unusedVariables false

theorem ofInt_i64 (a : Nat) (ha : a < 2 ^ 63) : (BitVec.ofInt 64 (a : Int)).toNat = a := ofInt_u64 a (by omega)
theorem i64_low7 (a : Nat) (ha : a < 9223372036854775808) : bits .and .i64 (a : Int) 127 = ((a % 128 : Nat) : Int) := by
  show IntKind.i64.wrap ((BitVec.ofInt 64 (a : Int) &&& BitVec.ofInt 64 ((127 : Nat) : Int)).toNat : Int) = _
  rw [BitVec.toNat_and, ofInt_i64 a (by omega), ofInt_i64 127 (by omega), show (127 : Nat) = 2 ^ 7 - 1 from rfl, Nat.and_two_pow_sub_one_eq_mod, IntKind.wrap_i64]
  omega
/-- The numbers that OnesCount64 goes through. -/
structure OnesIn (x : Int) (s A1 B1 B2 X1 A2 C1 C2 X2 A3 S3 X3 D3 Y DY Z DZ U : Int) : Prop where
  p1 : x / 2 = A1
  b1 : bits .and .u64 A1 6148914691236517205 = B1
  b2 : bits .and .u64 x 6148914691236517205 = B2
  s1 : IntKind.u64.wrap (B1 + B2) = X1
  p2 : X1 / 4 = A2
  c1 : bits .and .u64 A2 3689348814741910323 = C1
  c2 : bits .and .u64 X1 3689348814741910323 = C2
  s2 : IntKind.u64.wrap (C1 + C2) = X2
  p3 : X2 / 16 = A3
  s3 : IntKind.u64.wrap (A3 + X2) = S3
  a3 : bits .and .u64 S3 1085102592571150095 = X3
  p4 : X3 / 256 = D3
  s4 : IntKind.u64.wrap (X3 + D3) = Y
  p5 : Y / 65536 = DY
  s5 : IntKind.u64.wrap (Y + DY) = Z
  p6 : Z / 4294967296 = DZ
  s6 : IntKind.u64.wrap (Z + DZ) = U
  cv : wrap64 U = U
  fin : bits .and .i64 U 127 = s
theorem ones_in (x : Nat) (hx : x < 2 ^ 64) : ∃ A1 B1 B2 X1 A2 C1 C2 X2 A3 S3 X3 D3 Y DY Z DZ U : Int, OnesIn (x : Int) ((bitsF 64 x).sum : Nat) A1 B1 B2 X1 A2 C1 C2 X2 A3 S3 X3 D3 Y DY Z DZ U := by
  obtain ⟨a1, ha1⟩ : ∃ a, a = x >>> 1 := ⟨_, rfl⟩
  obtain ⟨x1, h1⟩ : ∃ a, a = (a1 &&& 6148914691236517205) + (x &&& 6148914691236517205) := ⟨_, rfl⟩
  obtain ⟨a2, ha2⟩ : ∃ a, a = x1 >>> 2 := ⟨_, rfl⟩
  obtain ⟨x2, h2⟩ : ∃ a, a = (a2 &&& 3689348814741910323) + (x1 &&& 3689348814741910323) := ⟨_, rfl⟩
  obtain ⟨a3, ha3⟩ : ∃ a, a = x2 >>> 4 := ⟨_, rfl⟩
  obtain ⟨x3, h3⟩ : ∃ a, a = (a3 + x2) &&& 1085102592571150095 := ⟨_, rfl⟩
  obtain ⟨y, hy⟩ : ∃ a, a = x3 + x3 / 256 := ⟨_, rfl⟩
  obtain ⟨z, hz⟩ : ∃ a, a = y + y / 65536 := ⟨_, rfl⟩
  obtain ⟨u, hu⟩ : ∃ a, a = z + z / 4294967296 := ⟨_, rfl⟩
  have e := ones_all (x1 := x1) (x2 := x2) (x3 := x3) hx (by rw [h1, ha1]) (by rw [h2, ha2]) (by rw [h3, ha3]) hy hz hu
  obtain ⟨e1, e2, e3, e4⟩ := e
  have g1 : x / 2 = a1 := by rw [ha1, Nat.shiftRight_eq_div_pow]
  have g2 : x1 / 4 = a2 := by rw [ha2, Nat.shiftRight_eq_div_pow]
  have g3 : x2 / 16 = a3 := by rw [ha3, Nat.shiftRight_eq_div_pow]
  have q1 : a1 &&& 6148914691236517205 ≤ 6148914691236517205 := Nat.and_le_right
  have q2 : x &&& 6148914691236517205 ≤ 6148914691236517205 := Nat.and_le_right
  have q3 : a2 &&& 3689348814741910323 ≤ 3689348814741910323 := Nat.and_le_right
  have q4 : x1 &&& 3689348814741910323 ≤ 3689348814741910323 := Nat.and_le_right
  have q5 : x3 ≤ 1085102592571150095 := by rw [h3]; exact Nat.and_le_right
  have l1 : x1 < 18446744073709551616 := by omega
  have l2 : x2 < 9223372036854775808 := by omega
  have hx' : x < 18446744073709551616 := hx
  refine ⟨(a1 : Nat), ((a1 &&& 6148914691236517205 : Nat) : Int), ((x &&& 6148914691236517205 : Nat) : Int), (x1 : Nat), (a2 : Nat), ((a2 &&& 3689348814741910323 : Nat) : Int), ((x1 &&& 3689348814741910323 : Nat) : Int), (x2 : Nat), (a3 : Nat), ((a3 + x2 : Nat) : Int), (x3 : Nat), ((x3 / 256 : Nat) : Int), (y : Nat), ((y / 65536 : Nat) : Int), (z : Nat), ((z / 4294967296 : Nat) : Int), (u : Nat), ?_⟩
  have f1 : a3 + x2 < 18446744073709551616 := by omega
  have F11 : bits .and .u64 ((a3 + x2 : Nat) : Int) ((1085102592571150095 : Nat) : Int) = (x3 : Int) := by rw [h3]; exact u64_and (a3 + x2) 1085102592571150095 (by omega) (by omega)
  have F13 : IntKind.u64.wrap ((x3 : Int) + ((x3 / 256 : Nat) : Int)) = (y : Int) := by clear h1 h2 h3 hz hu e1 q1 q2 q3 q4; rw [IntKind.wrap_u64]; omega
  have F15 : IntKind.u64.wrap ((y : Int) + ((y / 65536 : Nat) : Int)) = (z : Int) := by clear h1 h2 h3 hy hu e1 q1 q2 q3 q4 F13; rw [IntKind.wrap_u64]; omega
  have F17 : IntKind.u64.wrap ((z : Int) + ((z / 4294967296 : Nat) : Int)) = (u : Int) := by clear h1 h2 h3 hy hz e1 q1 q2 q3 q4 F13 F15; rw [IntKind.wrap_u64]; omega
  have F18 : wrap64 (u : Int) = (u : Int) := by clear h1 h2 h3 hy hz hu e1 q1 q2 q3 q4 F13 F15 F17; unfold wrap64; omega
  have F19 := i64_low7 u e2
  rw [e1] at F19
  clear h3 hy hz hu e1 ha1 ha2 ha3
  constructor
  · omega
  · exact u64_and a1 6148914691236517205 (by omega) (by omega)
  · exact u64_and x 6148914691236517205 (by omega) (by omega)
  · clear F11 F13 F15 F17 F18 F19; rw [IntKind.wrap_u64]; omega
  · omega
  · exact u64_and a2 3689348814741910323 (by omega) (by omega)
  · exact u64_and x1 3689348814741910323 (by omega) (by omega)
  · clear F11 F13 F15 F17 F18 F19; rw [IntKind.wrap_u64]; omega
  · omega
  · clear F11 F13 F15 F17 F18 F19; rw [IntKind.wrap_u64]; omega
  · exact F11
  · exact (Int.natCast_ediv _ _).symm
  · exact F13
  · exact (Int.natCast_ediv _ _).symm
  · exact F15
  · exact (Int.natCast_ediv _ _).symm
  · exact F17
  · exact F18
  · exact F19
set_option maxRecDepth 100000 in
set_option maxHeartbeats 1000000 in
theorem ones_any (x : Nat) (hx : x < 2 ^ 64) (w : World) :
    Calls Try.prog 51 #[.int .u64 (x : Nat)] w fun e w' => e = .returned (.int .i64 ((bitsF 64 x).sum : Nat)) ∧ w' = w := by
  obtain ⟨A1, B1, B2, X1, A2, C1, C2, X2, A3, S3, X3, D3, Y, DY, Z, DZ, U, hi⟩ := ones_in x hx
  have HI := Lib.hid hi
  clear hi
  obtain ⟨s, hs⟩ : ∃ s : Int, s = ((bitsF 64 x).sum : Nat) := ⟨_, rfl⟩
  rw [← hs] at HI ⊢
  clear hs hx
  go_enter Try.func51, Try.ntmps51
  go_wp2_with fail
  simp only [HI.out.p1, HI.out.b1, HI.out.b2, HI.out.s1, HI.out.p2, HI.out.c1, HI.out.c2, HI.out.s2, HI.out.p3, HI.out.s3, HI.out.a3, HI.out.p4, HI.out.s4, HI.out.p5, HI.out.s5, HI.out.p6, HI.out.s6, HI.out.cv, HI.out.fin]
  go_ret
  exact ⟨rfl, rfl⟩
/-- How many columns of a row are taken. -/
theorem count_any (b off : Nat) (T : TypeId) (cs : Array Value) (W : Nat → Nat) (w : World) (hc : ColB w b off T cs W) (hlt : ∀ j, j < 16 → W j < 2 ^ 64) :
    Calls Try.prog 39 #[.pointer (some ⟨b, off, none⟩)] w fun e w' => e = .returned (.int .i64 (onesW W 16 : Nat)) ∧ Below w.heap.size w w' := by
  have ON : Hid (∀ j, j < 16 → ∀ w1, Calls Try.prog 51 #[.int .u64 (W j : Nat)] w1 fun e w' => e = .returned (.int .i64 ((bitsF 64 (W j)).sum : Nat)) ∧ w' = w1) := fun j hj w1 => ones_any (W j) (hlt j hj) w1
  have HC := Lib.hid hc
  clear hc hlt
  go_enter Try.func39, Try.ntmps39
  go_wp2_with fail
  go_loopw [7, 3] (fun iv nv wr => ∃ k n : Nat, k ≤ 16 ∧ iv = .int .i64 k ∧ nv = .int .i64 n ∧ n ≤ 64 * k ∧ Hid (n = onesW W k) ∧ Hid (Below w.heap.size w wr)) (fun iv _ _ => 16 - (RowKit.intOf iv).toNat)
  case atStart => exact ⟨0, 0, Nat.zero_le _, rfl, rfl, Nat.le_refl _, rfl, Below.refl _ _⟩
  case round =>
    obtain ⟨k, n, hk, rfl, rfl, hn, HN, HBr⟩ := hrel
    by_cases hlt : k < 16
    · have hd : decide ((k : Int) < 16) = true := decide_eq_true (by omega)
      have hd' : decide (k < 16) = true := decide_eq_true hlt
      have c0 := (HC.out.kept HBr.out).cell (j := k) hlt
      have OK := Lib.hid (ON.out k hlt)
      obtain ⟨s, hs⟩ : ∃ s, s = (bitsF 64 (W k)).sum := ⟨_, rfl⟩
      have hs64 : s ≤ 64 := by rw [hs]; exact bitsF_le _
      rw [← hs] at OK
      have HN2 : Hid (n + s = onesW W (k + 1)) := by unfold Hid onesW; rw [hs, HN.out]
      obtain ⟨x, hx⟩ : ∃ x, x = W k := ⟨_, rfl⟩
      rw [← hx] at c0 OK
      clear hs hx HN
      go_wp2_with fail
      refine (OK.out _).mono ?_; rintro e w1 ⟨rfl, hw⟩
      subst hw
      go_wp2_with fail
      go_roundw
      case rel => exact ⟨k + 1, n + s, hlt, by go_num, by go_num, by omega, HN2, HBr⟩
      case measure => simp [RowKit.intOf]; omega
    · have hd : decide ((k : Int) < 16) = false := decide_eq_false (by omega)
      have hd' : decide (k < 16) = false := decide_eq_false hlt
      have HN2 : Hid (n = onesW W 16) := by unfold Hid; rw [HN.out, show k = 16 by omega]
      go_wp2_with fail
      go_ret
      exact ⟨by rw [← HN2.out]; rfl, HBr.out⟩
/-- What Idle answers. -/
def idleG (n : Nat) (l : List Ce) (row : Int) : Int := if row < 0 then 0 else if 16 ≤ row then ((2 ^ n : Nat) : Int) else ((2 ^ n : Nat) : Int) - ((usedG l row.toNat : Nat) : Int)
set_option maxRecDepth 100000 in
set_option maxHeartbeats 1000000 in
theorem idle_any (m n a : Nat) (own : Nat → Prop) (l : List Ce) (row : Int) (w : World) (h : GN w m own n a l) :
    Calls Try.prog 20 #[.pointer (some ⟨m, 0, none⟩), .int .i64 row] w fun e w' => e = .returned (.int .i64 (idleG n l row)) ∧ Below w.heap.size w w' := by
  have hOK := h.ok
  have hn10 := hOK.n10
  obtain ⟨v, W, hI, hW, hO⟩ := h
  have c0 := hI.gb.c0
  obtain ⟨Y, hY⟩ : ∃ Y, Y = 2 ^ n := ⟨_, rfl⟩
  have hY2 : Y ≤ 1024 := by rw [hY]; have := Nat.pow_le_pow_right (n := 2) (by omega) hn10; simpa using this
  have hYi : IntKind.i64.wrap ((2 : Int) ^ n) = (Y : Int) := by rw [two_i, ← hY, IntKind.wrap_i64]; omega
  by_cases h1 : row < 0
  · have d1 : decide (row < 0) = true := decide_eq_true h1
    have e1 : idleG n l row = 0 := by unfold idleG; rw [if_pos h1]
    rw [e1]
    clear hI hW hO hOK hY e1 h1
    go_enter Try.func20, Try.ntmps20
    go_wp2_with fail
    go_ret
    exact ⟨rfl, Below.refl _ _⟩
  · have d1 : decide (row < 0) = false := decide_eq_false h1
    by_cases h2 : 16 ≤ row
    · have d2 : decide (row ≥ 16) = true := decide_eq_true h2
      have d2' : decide (16 ≤ row) = true := decide_eq_true h2
      have e1 : idleG n l row = (Y : Int) := by unfold idleG; rw [if_neg h1, if_pos h2, hY]
      rw [e1]
      clear hI hW hO hOK hY e1 h1
      go_enter Try.func20, Try.ntmps20
      go_wp2_with fail
      go_ret
      exact ⟨rfl, Below.refl _ _⟩
    · obtain ⟨r, rfl⟩ : ∃ r : Nat, row = (r : Int) := ⟨row.toNat, by omega⟩
      have hr : r < 16 := by omega
      have d2 : decide ((r : Int) ≥ 16) = false := decide_eq_false h2
      have d2' : decide (16 ≤ (r : Int)) = false := decide_eq_false h2
      have d2'' : decide (16 ≤ r) = false := decide_eq_false (by omega)
      have hu := used_bound (r := r) hOK
      have e1 : idleG n l (r : Int) = (Y : Int) - ((usedG l r : Nat) : Int) := by unfold idleG; rw [if_neg h1, if_neg h2, hY]; rfl
      have CT : Hid (∀ wq, Below w.heap.size w wq → Calls Try.prog 39 #[.pointer (some ⟨m, 3 + r * 16, none⟩)] wq fun e w' => e = .returned (.int .i64 (usedG l r : Nat)) ∧ Below wq.heap.size wq w') := fun wq hq => by
        have := count_any m (3 + r * 16) _ _ _ wq ((hI.kept hq).gb.col hr) (hW r hr).lt
        rw [ones_used hOK (hW r hr)] at this
        exact this
      obtain ⟨U, hU⟩ : ∃ U, U = usedG l r := ⟨_, rfl⟩
      rw [← hU] at CT hu e1
      rw [e1]
      rw [← hY] at hu
      clear hI hW hO hOK hY hU e1 h1 h2
      have hri : (r : Int) < 16 := by omega
      go_enter Try.func20, Try.ntmps20
      have hsub : IntKind.i64.wrap ((Y : Int) - (U : Int)) = (Y : Int) - (U : Int) := by rw [IntKind.wrap_i64]; omega
      go_wp2_with fail
      go_region_held3 (fun w' => w'.cell? ⟨m, 0, none⟩ = some (.int .i64 (n : Nat)) ∧ Below w.heap.size w w')
        (first
          | exact ⟨c0, (Below.refl _ _).drew⟩
          | (rcases ‹_ ∧ Below _ _ _› with ⟨g0, g1⟩; exact ⟨cell_next (by assumption) g0, below_next (by assumption) g1⟩))
        (first
          | (go_at_call 39; ((with_reducible refine (CT.out _ (‹_ ∧ Below w.heap.size w _›).2).mono ?_); rintro e w5 ⟨rfl, b5⟩)))
      all_goals (have HB := (‹_ ∧ Below w.heap.size w _›).2)
      all_goals (go_wp2_with fail)
      all_goals go_ret
      all_goals exact ⟨rfl, HB⟩
end Go.Proofs.Ytfobapnncjjeiaa
